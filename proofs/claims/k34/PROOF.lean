import PyProof.Rows.All
import Wide.All
import OpenK.AllK
import Wide.FinOn
import HandS.ForMost
import HandS.RevRange
import HandS.Zip
import HandS.IsInst
import HandS.Conv
import HandS.Wide
import HandS.Evl
import HandS.TupMul
import HandS.TupAny
import KE.GoesEnum
import KE.KDictZip
import HandS.Star
import HandS.TryOnly
import HandS.SetFor
import HandS.Exc
import HandS.ExcOwn
import HandS.WordsExc
import HandS.ExcField
import HandS.ExcIs
import PyProof.ExcBaseAll.LookupError
import PyProof.ExcBaseAll.ValueError
import KE.KExcIs
import HandS.RaiseMore
import PyProof.FString2
import PyProof.PureStr
import PyProof.FactsAll.bool_2
import PyProof.FactsAll.NoneType_2
import PyProof.FactsAll.str_2
import PyProof.ExcBaseAll.RuntimeError
import PyProof.ExcBaseAll.OverflowError
import HandS.ExcValue
import HandS.ExcInit
import PyProof.StrOps2
import PyProof.Rows.StrMul
import HandS.Strs
import PyProof.AutoSeq1
import HandS.Style
import HandS.Deep
import PySem.Challenge.RW_maskedlist_k34_values_of_polynomials
set_option Elab.async false
set_option linter.all false
set_option maxRecDepth 100000
set_option maxHeartbeats 4000000
/-! calls that know that nothing is being shown (no repr runs around): our own layer over the hand layer -/
namespace Vx
open PySem PySem.Spec PyProof.Rows L2
/-- room for k calls, and no repr is under way -/
structure Rm (k : Nat) (A : Around) : Prop where
  r : Room k A
  g : A.guards = some []
theorem Rm.mono {j k : Nat} {A : Around} (h : Rm k A) (le : j ≤ k) : Rm j A := ⟨h.r.mono le, h.g⟩
/-- a def's promise, for calls with Rm -/
structure FnG (P : Program) (w : World) (K : PySem.W.Frag) (mg : Str → Option Value) (base : Heap) (CX : CXT) (k : Nat) (f : Addr) (fd : FuncData) (ps : List Str) (sp : Sp) : Prop where
  ln : ∀ vs H Q E, sp vs H Q E → vs.length = ps.length
  go : ∀ (A : Around) (o : List Env) (s : Shared) (H : Hp) (az : Args) (us : List Value) (vs : List V) (Q : VK) (E : XK), Rm k A → Env0 P w K mg base A o s H → BindsTo s fd az (ps.zip us) → Vals vs us → sp vs H Q E →
    codeAny (model P w) A (.call (.ref f) az) (CR CX o P w H s Q E) s
section
variable {X : Cx} {CX : CXT} {k : Nat} {f : Addr} {fd : FuncData} {ps ks : List Str} {sp : Sp} {dvs : List V} {ds : List Value} {E : XK} {x : Str} {p pos : Pos} {e : Expr} {es : List Expr} {kws : List Keyword} {t tk : TA}
  {g : List Value → List Value → List Value} {gV : List V → List V → List V}
/-- the callee runs at its bound arguments -/
theorem runG {pins : List (Addr × Obj)} {σ : L2.St} {H : Hp} {s : Shared} {Q : VK} {us : List Value} {kw : List (Str × Value)} {bs : List Value} {vs : List V} (F : FnG X.prog X.w X.K X.mg X.base CX k f fd ps sp) (hr : Rm k X.A) (hx : Passes CX X E)
    (I : Inv X pins σ H s) (hb : BindsTo s fd ⟨us, kw⟩ (ps.zip bs)) (r : Vals vs bs) (h : sp vs H Q E) : wpAny (model X.prog X.w) X.A (call (.ref f) us kw) (EP X pins σ Q) X.xe s := by
  refine wpAny_call (codeAny_mono (F.go X.A X.stack s H ⟨us, kw⟩ bs vs Q E hr I.env0 hb r h) ?_)
  intro z s' hq
  match z, hq with
  | .ok (.ret _), hq => exact I.after hq
  | .ok .next, hq => exact False.elim hq
  | .ok .brk, hq => exact False.elim hq
  | .ok .cont, hq => exact False.elim hq
  | .error e, hq => exact hx pins σ H s e s' I hq
theorem ge_call (F : FnG X.prog X.w X.K X.mg X.base CX k f fd ps sp) (hr : Rm k X.A) (hg : Gl X x) (hm : X.mg x = some (.ref f)) (hk : PySem.W.keepIn X.K (.ref f) = true) (hb : Binds X.K fd ps ds) (hd : Vals dvs ds) (hx : Passes CX X E)
    (ha : PA X (e :: es) t) (hdb : (x == ("__debug__" : Str)) = false := by decide) (he : starEach (e :: es) X.env = (false, eval e X.env) :: starEach es X.env := by rfl) (hpl : (backTo pos (starEach es X.env)).any (·.1) = false := by rfl) :
    PE X (.Call (.Name x p) (e :: es) [] pos) (tCall sp dvs E t) := by
  constructor
  intro pins s σ H Q I h
  refine wpAny_Call_Name_kw (ld_glob I hg hm (PySem.W.callWith_K (h₀ := X.base) I.ok.mod.kin hk (thn (ha.run pos pins s σ H _ I h) ?_) he hpl) hdb)
  rintro us s1 ⟨vs, H1, I1, r, q⟩
  have r2 := r.append hd
  have q2 := F.ln _ _ _ _ q
  rw [r2.length] at q2
  exact ⟨I1.kIn, runG F hr hx I1 (hb s1 us I1.kIn q2) r2 q⟩
theorem ge_callK (F : FnG X.prog X.w X.K X.mg X.base CX k f fd ps sp) (hr : Rm k X.A) (hg : Gl X x) (hm : X.mg x = some (.ref f)) (hk : PySem.W.keepIn X.K (.ref f) = true) (hb : KBinds X.K fd ps ks g gV) (hx : Passes CX X E)
    (hkw : PK X kws tk) (hall : (backToKw pos (keywordEach kws X.env)).all (·.1.isSome) = true := by rfl) (hks : (backToKw pos (keywordEach kws X.env)).filterMap (·.1) = ks := by rfl)
    (hdb : (x == ("__debug__" : Str)) = false := by decide)
    (hpl : ((backTo pos (starEach [] X.env)).any (·.1) || (backToKw pos (keywordEach kws X.env)).any (·.1.isNone)) = false := by rfl) :
    PE X (.Call (.Name x p) [] kws pos) (tCallK sp gV E tNil tk) := by
  constructor
  intro pins s σ H Q I h
  refine wpAny_Call_Name_kw (ld_glob I hg hm (PySem.W.callWith_KW0 (h₀ := X.base) I.ok.mod.kin hk hall (thn (hkw.run pos pins s σ H _ I h) ?_) hpl) hdb)
  rintro ws s2 ⟨zs, H2, I2, rz, q2⟩
  rw [hks]
  have r2 := hb.rel (vs := []) (us := []) .nil rz
  have n2 := F.ln _ _ _ _ q2
  rw [r2.length] at n2
  exact ⟨I2.kIn, runG F hr hx I2 (hb.to s2 [] ws I2.kIn n2) r2 q2⟩
end
/-- a def, by its body -/
theorem fn_ofG {CX : CXT} {P : Program} {w : World} {K : PySem.W.Frag} {mg : Str → Option Value} {base : Heap} {k : Nat} {f : Addr} {name qual : Str} {params : Arguments} {body : List Stmt} {scope : Scope} {dV kV doc pm cdv ct oc : Value} {an od : Option Addr}
    {osl : Array (Option Value)} {N ps : List Str} {sp : Sp} (lk : K.lookup f = some ⟨oc, od, .func (PySem.W.fnOf name qual params body scope dV kV doc pm an cdv ct), osl⟩) (hcd : PySem.W.codeIn K cdv qual = true) (S : FnScope N ps scope)
    (ln : ∀ vs H Q E, sp vs H Q E → vs.length = ps.length)
    (hb : ∀ (A : Around) (o : List Env) (s : Shared) (H : Hp) (vs : List V) (Q : VK) (E : XK), Rm k (A.deeper (envOfC qual scope s.heap.objs.size f cdv)) → sp vs H Q E →
      ∃ t, PSs (cxOf CX P w K mg base N qual scope f cdv A o s H E) body t ∧ t { nx := fun _ H' => Q .non H', rt := Q } (start N vs) H) :
    FnG P w K mg base CX (k + 1) f (PySem.W.fnOf name qual params body scope dV kV doc pm an cdv ct) ps sp := by
  constructor
  · exact ln
  intro A o s H az us vs Q E hr e0 bd r hsp
  have len := ln vs H Q E hsp
  have up : ∀ {b : Addr} {ob : Obj}, base.get? b = some ob → s.heap.get? b = some ob := fun q => (e0.bs _ _ q).1
  have KX : K.In s.heap := e0.mod.kin.keeps fun _ _ q => up q
  have lim : s.heap.NoLimit := e0.mod.nolimit.keeps fun _ _ q => up q
  refine codeAny_call_function hr.r.depth (KX _ _ lk) rfl S.co S.gen rfl (PySem.W.codeRec_of KX hcd) (bd _ _ _ _ (wpAny_newFunctionEnv_cells S.kind ?_ ?_))
  · rintro ⟨n, v⟩ hy
    rcases S.par n (List.of_mem_zip hy).1 with q | q
    · exact .inl q
    · exact .inr ⟨q, PySem.W.cellsFrom_some _ _ _ (.inl q)⟩
  · intro env he s1 x
    subst he
    refine ⟨lim.keeps x.toInCall.keep, codeAny_func ?_⟩
    obtain ⟨t, ht, hq⟩ := hb A o s H vs Q E ⟨hr.r.deeper _, hr.g⟩ hsp
    refine wpAny_mono (ht.run [] s1 (start N vs) H _ (inv_start S hr.r.hd e0 len r x) hq) ?_ (fun _ _ z => z)
    intro fl s' z
    match fl, z with
    | .ret u, ⟨v, _, H', J, rv, q⟩ => exact ⟨v, H', J.os, J.bare, J.base, J.hok, rv, q⟩
    | .next, ⟨_, H', J, q⟩ => exact ⟨.non, H', J.os, J.bare, J.base, J.hok, rfl, q⟩
    | .brk, ⟨_, _, _, q⟩ => exact False.elim q
    | .cont, ⟨_, _, _, q⟩ => exact False.elim q
section
variable {P : Program} {w : World} {K : PySem.W.Frag} {mg : Str → Option Value} {base : Heap}
theorem okG {x qual : Str} {st : Stmt} {f : Addr} {fd : FuncData} {N ps : List Str} {k : Nat} {sp : Sp} (F : Fun K x qual st f fd) (S : FnScope N ps (defScope st)) (ln : ∀ vs H Q E, sp vs H Q E → vs.length = ps.length)
    (hb : ∀ (cdv : Value) (A : Around) (o : List Env) (s : Shared) (H : Hp) (vs : List V) (Q : VK) (E : XK), Rm k (A.deeper (envOfC qual (defScope st) s.heap.objs.size f cdv)) → sp vs H Q E →
      ∃ t, PSs (cxOf CX0 P w K mg base N qual (defScope st) f cdv A o s H E).nox (defBody st) t ∧ t { nx := fun _ H' => Q .non H', rt := Q } (start N vs) H) : FnG P w K mg base CX0 (k + 1) f fd ps sp := by
  obtain ⟨oc, od, kV, doc, pm, an, cdv, ct, osl, rfl, lk, hcd⟩ := F.ex
  refine fn_ofG lk hcd S ln ?_
  intro A o s H vs Q E hr hsp
  obtain ⟨t, h, q⟩ := hb cdv A o s H vs Q E hr hsp
  exact ⟨t, h.nox, q⟩
/-- a def that others call: where it stands, how it binds, its promise -/
structure Cal (P : Program) (w : World) (K : PySem.W.Frag) (mg : Str → Option Value) (base : Heap) (x : Str) (k : Nat) (ps : List Str) (sp : Sp) : Prop where
  ex : ∃ f fd, FnG P w K mg base CX0 k f fd ps sp ∧ mg x = some (.ref f) ∧ PySem.W.keepIn K (.ref f) = true ∧ Binds K fd ps []
end
/-- .. that is called by names too: the names as written, how they are put in order -/
structure CalK (P : Program) (w : World) (K : PySem.W.Frag) (mg : Str → Option Value) (base : Heap) (x : Str) (k : Nat) (ps : List Str) (sp : Sp) (ks : List Str) (g : {α : Type} → List α → List α → List α) : Prop where
  ex : ∃ f fd, FnG P w K mg base CX0 k f fd ps sp ∧ mg x = some (.ref f) ∧ PySem.W.keepIn K (.ref f) = true ∧ Binds K fd ps [] ∧ KBinds K fd ps ks g g
/-- at the law's entry: what the abstract heap H tracks is the script at a alone -/
structure Entry (P : Program) (w : World) (K : PySem.W.Frag) (H : Hp) (h : Heap) (a : Addr) (ns : List Int) : Prop where
  only : Only H
  seq : SqL K H a (ns.map V.int)
  ok : HOk P w H h
  one : ∀ b u, H b = some u → b = a
  own : ∀ u, H a = some u → K.lookup a = none
theorem entry_of {P : Program} {w : World} {K : PySem.W.Frag} {h : Heap} {a : Addr} {vs : List Value} {ns : List Int} (KX : K.In h) (ha : h.get? a = some { cls := .type "list", data := .seq vs.toArray })
    (hi : IntsAre vs ns) (hl : ns.length ≤ sizeLine) : ∃ H, Entry P w K H h a ns := by
  have rv : Vals (ns.map V.int) vs := vals_ints hi
  have nl : vs.length = ns.length := hi.length
  match hk : K.lookup a with
  | some o =>
    obtain rfl : _ = o := Option.some.inj (ha.symm.trans (KX a o hk))
    refine ⟨fun _ => none, fun _ => Or.inl rfl, Or.inr ⟨_, vs.toArray, _, hk, rfl, rfl, rfl, ?_, ?_⟩, ?_, ?_, ?_⟩
    · simpa only [List.size_toArray, nl] using hl
    · simpa only using rv
    · intro b u z; cases z
    · intro b u z; cases z
    · intro u z; cases z
  | none =>
    let fz : HO := .frz { cls := .type "list", data := .seq vs.toArray } (.lst (ns.map V.int))
    have at_ : upd (fun _ => none) a fz a = some fz := upd_same
    have off : ∀ b, b ≠ a → upd (fun _ => none) a fz b = none := fun b z => upd_ne z
    refine ⟨upd (fun _ => none) a fz, fun b => ?_, Or.inl (Or.inr ⟨_, at_⟩), fun b u z => ?_, fun b u z => ?_, fun _ _ => hk⟩
    · rcases Decidable.em (b = a) with rfl | q
      · exact Or.inr ⟨_, _, at_⟩
      · exact Or.inl (off b q)
    · rcases Decidable.em (b = a) with rfl | q
      · rw [at_] at z
        obtain rfl := Option.some.inj z
        exact ⟨ha, (by simpa only [List.length_map] using hl), vs, _, rv, ha⟩
      · rw [off b q] at z
        cases z
    · rcases Decidable.em (b = a) with q | q
      · exact q
      · rw [off b q] at z
        cases z
theorem base_at {P : Program} {w : World} {K : PySem.W.Frag} {H : Hp} {h : Heap} {a : Addr} {vs : List Value} {ns : List Int} (E : Entry P w K H h a ns) (ha : h.get? a = some { cls := .type "list", data := .seq vs.toArray })
    {b : Addr} {m : Str → Option Value} (n : h.Ns b m) : (hidT h H).Ns b m := by
  obtain ⟨o, es, ep, e, d, r⟩ := n
  refine ⟨o, es, ep, hidT_get e ?_, d, r⟩
  match q : H b with
  | none => rfl
  | some u =>
    obtain rfl := E.one b u q
    rw [ha] at e
    obtain rfl := Option.some.inj e
    cases d
theorem base_in {P : Program} {w : World} {K : PySem.W.Frag} {H : Hp} {h : Heap} {a : Addr} {ns : List Int} (E : Entry P w K H h a ns) (KX : K.In h) : K.In (hidT h H) := by
  intro b o e
  refine hidT_get (KX b o e) ?_
  match q : H b with
  | none => rfl
  | some u =>
    obtain rfl := E.one b u q
    rw [E.own u q] at e
    cases e
theorem law_end {P : Program} {w : World} {K : PySem.W.Frag} {mg mb : Str → Option Value} {k : Nat} {fa a : Addr} {fd : FuncData} {x : Str} {sp : Sp} {z : Shared} {vs : List Value} {ns : List Int}
    (KX : K.In z.heap) (g1 : z.heap.Ns mainGlobals mg) (g2 : z.heap.Ns builtinsNs mb) (g3 : ∀ y : Str, y ≠ "__name__" → mb y = bootBuiltins y) (g4 : z.heap.NoLimit) (g5 : z.gens = #[])
    (ha : z.heap.get? a = some { cls := .type "list", data := .seq vs.toArray }) (hi : IntsAre vs ns) (hl : ns.length ≤ sizeLine) (hr : Room k callerA)
    (F : ∀ base : Heap, K.In base → base.Ns mainGlobals mg → FnG P w K mg base CX0 k fa fd [x] sp) (bd : ∀ (s : Shared) (u : Value), BindsTo s fd ⟨[u], []⟩ [(x, u)])
    (hsp : ∀ H : Hp, Only H → SqL K H a (ns.map V.int) → sp [.ref a] H (fun v _ => v = .bl true) fun _ _ _ => False) :
    codeAny (model P w) callerA (.call (.ref fa) ⟨[.ref a], []⟩) (fun r y => r = .ok (.ret (.bool true)) ∧ OldK z.heap y.heap ∧ y.os = z.os ∧ AllBare y.gens) z := by
  obtain ⟨H, E⟩ := entry_of (P := P) (w := w) KX ha hi hl
  have kb := base_in E KX
  have nb := base_at E ha g1
  obtain ⟨mc, c1, c2⟩ := g4
  have M : Mod K mg (hidT z.heap H) := ⟨kb, nb, ⟨mb, base_at E ha g2, g3⟩, ⟨mc, base_at E ha c1, c2⟩⟩
  have nofr : ∀ b, b ∉ frs [] := fun b hb => nomatch hb
  have e0 : Env0 P w K mg (hidT z.heap H) callerA [] z H := ⟨rfl, M, fun _ _ q => of_hidT q, Nat.le_of_eq (hidT_size _ _), trivial, fun b hb => absurd hb (nofr b), E.ok, .of_eq g5⟩
  refine codeAny_mono ((F _ kb nb).go callerA [] z H ⟨[.ref a], []⟩ [.ref a] [.ref a] _ _ ⟨hr, rfl⟩ e0 (bd z (.ref a)) (.cons rfl .nil) (hsp H E.only E.seq)) ?_
  intro r y q
  match r, q with
  | .ok (.ret u), q =>
    obtain ⟨v, H', os, bare, un, ok', rv, qv⟩ := q
    obtain rfl : v = V.bl true := qv
    obtain rfl : u = Value.bool true := rv
    refine ⟨rfl, OldK.of_keep ?_, os, bare⟩
    intro b o e
    match q : H b with
    | none => exact un.keep b o e q (nofr b) (fun hb => nomatch hb)
    | some u =>
      rcases E.only b with n | ⟨ob, xs, n⟩
      · rw [q] at n; cases n
      · have o1 := (E.ok b _ n).1
        have o2 := (ok' b _ (un.frzs b ob _ n)).1
        exact (o2.trans o1.symm).trans e
/-- the goal behind k_head -/
theorem walkG {l : PySem.W.OpenLaw} {n k : Nat} {q : Program} {loose : List Str} {XP : (Str → Option Value) → Heap → Prop} {YP : World → Heap → Prop} {d : DefRec} {K : Params → PySem.W.Frag} {sp : World → Sp} {x : Str}
    (hn : l.most = some n) (n2 : n ≤ sizeLine) (hdf : d.params.defaults = []) (hr : Room k callerA) (hY : ∀ (w : World) (h : Heap), YP w h → (K w.params).In h)
    (F : ∀ (w : World) (mg : Str → Option Value) (fa : Addr) (h : Heap), (K w.params).In h → h.Ns mainGlobals mg → mg d.name = some (.ref fa) →
      ∃ fd : FuncData, (∀ (s : Shared) (u : Value), BindsTo s fd ⟨[u], []⟩ [(x, u)]) ∧ ∀ base : Heap, (K w.params).In base → base.Ns mainGlobals mg → FnG l.prog w (K w.params) mg base CX0 k fa fd [x] (sp w))
    (hsp : ∀ (w : World) (H : Hp) (a : Addr) (ns : List Int), ns.length ≤ n → Only H → SqL (K w.params) H a (ns.map V.int) → sp w [.ref a] H (fun v _ => v = .bl true) fun _ _ _ => False) :
    PySem.W.WalkO q loose XP YP l.row.toRowW d [] (fun f vs => PySem.call f vs) := by
  apply Att.attach_call hn hdf
  intro w s₀ z mg mb fa o pm cd doc a vs ns G Y _ _ _ hmg hobj hi hl hg
  have KX := hY w _ Y
  obtain ⟨fd, hb, hF⟩ := F w mg fa _ KX G.T.g hmg
  exact law_end KX G.T.g G.T.b G.T.builtins G.T.nolimit hg hobj hi (Nat.le_trans hl n2) hr hF hb fun H h1 h2 => hsp w H a ns hl h1 h2
end Vx

namespace Vx
open PySem PySem.Spec PyProof.Rows L2
/-! the pen: a list of three, whose first item is a list of ints -/
theorem sq_ne {K : PySem.W.Frag} {H : Hp} {c p : Addr} {o : HO} {xs : List V} (h : SqL K H c xs) (n : c ≠ p) : SqL K (upd H p o) c xs := by
  rcases h with (h | ⟨q, h⟩) | h
  · exact .inl (.inl (by rw [upd_ne n]; exact h))
  · exact .inl (.inr ⟨q, by rw [upd_ne n]; exact h⟩)
  · exact .inr h
def PenAt (K : PySem.W.Frag) (H : Hp) (p c : Addr) (ns : List Int) (i m : Int) : Prop := H p = some (.lst [.ref c, .int i, .int m]) ∧ SqL K H c (ns.map V.int) ∧ c ≠ p
def Pen (K : PySem.W.Frag) (H : Hp) (p : Addr) : Prop := ∃ c ns i m, PenAt K H p c ns i m
/-- all that was tracked is as it was, but what stands at p -/
def But (p : Addr) (H H' : Hp) : Prop := ∀ b o, b ≠ p → H b = some o → H' b = some o
theorem But.refl (p : Addr) (H : Hp) : But p H H := fun _ _ _ h => h
theorem But.trans {p : Addr} {H H1 H2 : Hp} (a : But p H H1) (b : But p H1 H2) : But p H H2 := fun c o n h => b c o n (a c o n h)
theorem But.upd {p : Addr} {H : Hp} {o : HO} : But p H (L2.upd H p o) := fun b u n h => by rw [upd_ne n]; exact h
theorem same_new {H : Hp} {p : Addr} (h : H p = none) (o : HO) : Same H (upd H p o) := fun b u q => by rw [upd_ne (ne_of_none q h)]; exact q
theorem But.same {p : Addr} {H H' : Hp} (s : Same H H') : But p H H' := fun b o _ h => s b o h
theorem But.new {p q : Addr} {H : Hp} (h : H q = none) (o : HO) : But p H (L2.upd H q o) := .same (same_new h o)
theorem But.get {p b : Addr} {H H' : Hp} {o u : HO} (k : But p H H') (hp : H p = some u) (hb : H b = some o) (d : o ≠ u) : H' b = some o := k b o (ne_of hb hp d) hb
theorem PenAt.put {K : PySem.W.Frag} {H : Hp} {p c : Addr} {ns : List Int} {i m : Int} (h : PenAt K H p c ns i m) (j k : Int) : PenAt K (upd H p (.lst [.ref c, .int j, .int k])) p c ns j k :=
  ⟨upd_same, sq_ne h.2.1 h.2.2, h.2.2⟩
theorem Pen.same {K : PySem.W.Frag} {H H' : Hp} {p : Addr} (h : Pen K H p) (s : Same H H') : Pen K H' p := by
  obtain ⟨c, ns, i, m, h1, h2, h3⟩ := h
  exact ⟨c, ns, i, m, s _ _ h1, s.seq h2, h3⟩
theorem Pen.new {K : PySem.W.Frag} {H : Hp} {p q : Addr} (h : Pen K H p) (n : H q = none) (o : HO) : Pen K (upd H q o) p := h.same (same_new n o)
theorem But.seq {K : PySem.W.Frag} {H H' : Hp} {p a : Addr} {xs : List V} (k : But p H H') (n : a ≠ p) (h : SqL K H a xs) : SqL K H' a xs := by
  rcases h with (h | ⟨o, h⟩) | h
  · exact .inl (.inl (k _ _ n h))
  · exact .inl (.inr ⟨o, k _ _ n h⟩)
  · exact .inr h
theorem But.seqT {K : PySem.W.Frag} {H H' : Hp} {p a : Addr} {xs : List V} (k : But p H H') (n : a ≠ p) (h : SqT K H a xs) : SqT K H' a xs := by
  rcases h with (h | ⟨o, h⟩) | h
  · exact .inl (.inl (k _ _ n h))
  · exact .inl (.inr ⟨o, k _ _ n h⟩)
  · exact .inr h
theorem Same.seqT {K : PySem.W.Frag} {H H' : Hp} {a : Addr} {xs : List V} (e : Same H H') (h : SqT K H a xs) : SqT K H' a xs := by
  rcases h with (h | ⟨o, h⟩) | h
  · exact .inl (.inl (e _ _ h))
  · exact .inl (.inr ⟨o, e _ _ h⟩)
  · exact .inr h
theorem Pen.free {K : PySem.W.Frag} {H : Hp} {p q : Addr} (h : Pen K H p) (n : H q = none) : q ≠ p := by
  obtain ⟨c, ns, i, m, h1, _⟩ := h
  exact fun e => by rw [e, h1] at n; cases n
theorem cutV_map (ns : List Int) (lo hi : Option Int) : ∃ ms : List Int, cutV (ns.map V.int) lo hi = ms.map V.int := by
  unfold cutV
  rw [List.length_map]
  exact ⟨(ns.drop _).take _, by rw [List.map_take, List.map_drop]⟩
theorem cutV_maps (ns : List Int) (lo hi : Option Int) : ∃ ms : List Int, cutV (ns.map V.int) lo hi = ms.map V.int ∧ ms.length ≤ ns.length := by
  obtain ⟨ms, h⟩ := cutV_map ns lo hi
  refine ⟨ms, h, ?_⟩
  have := cutV_length (ns.map V.int) lo hi
  rw [h, List.length_map, List.length_map] at this
  exact this
/-- an int list's item -/
theorem at_map {ns : List Int} {i : Int} (h0 : 0 ≤ i) (h : i < ns.length) : ∃ v : Int, atI (ns.map V.int) i = some (.int v) := by
  have hk : i.toNat < ns.length := by omega
  have e : i = ((i.toNat : Nat) : Int) := by omega
  refine ⟨ns[i.toNat], ?_⟩
  generalize hg : ns[i.toNat] = v
  rw [e]
  subst hg
  exact atI_nat (by rw [List.getElem?_map, List.getElem?_eq_getElem (by omega)]; rfl)
theorem dp_ints (K : PySem.W.Frag) (H : Hp) : ∀ ns : List Int, DpAll K H (ns.map V.int) (ns.map PyData.int)
  | [] => .nil
  | n :: ns => .cons (.int n) (dp_ints K H ns)
theorem lay_ints : ∀ ns : List Int, PyData.canLayAll0 (ns.map PyData.int) = true
  | [] => rfl
  | n :: ns => by
    show (PyData.canLay0 (.int n) && PyData.canLayAll0 (ns.map PyData.int)) = true
    rw [lay_ints ns]
    rfl
theorem depth_ints : ∀ ns : List Int, PyData.depthAll (ns.map PyData.int) = 0
  | [] => rfl
  | n :: ns => by
    show max (PyData.depth (.int n)) (PyData.depthAll (ns.map PyData.int)) = 0
    rw [depth_ints ns]
    rfl
theorem shaped_ints (ns : List Int) : SeqAt.shaped (.list (ns.map PyData.int)) = true := by
  show (PyData.canLayAll0 (ns.map PyData.int) && decide (PyData.depthAll (ns.map PyData.int) + 1 ≤ 64)) = true
  rw [lay_ints, depth_ints]
  rfl
theorem eqv_ints_nil (ns : List Int) : PyData.eqv (.list (ns.map PyData.int)) (.list []) = true → ns = [] := by
  intro h
  cases ns with
  | nil => rfl
  | cons a r => cases h
/-- some draws lie between: the pen's own list may have changed in its two numbers, nothing else that was tracked -/
def Dr (p : Addr) (H H' : Hp) : Prop := But p H H' ∧ ∀ c i m, H p = some (.lst [.ref c, .int i, .int m]) → ∃ j k, H' p = some (.lst [.ref c, .int j, .int k])
theorem Dr.but {p : Addr} {H H' : Hp} (d : Dr p H H') : But p H H' := d.1
theorem Dr.refl (p : Addr) (H : Hp) : Dr p H H := ⟨.refl _ _, fun c i m h => ⟨i, m, h⟩⟩
theorem Dr.trans {p : Addr} {H H1 H2 : Hp} (a : Dr p H H1) (b : Dr p H1 H2) : Dr p H H2 := ⟨a.1.trans b.1, fun c i m h => by
  obtain ⟨j, k, h1⟩ := a.2 c i m h
  exact b.2 c j k h1⟩
theorem Dr.same {p : Addr} {H H' : Hp} (s : Same H H') : Dr p H H' := ⟨.same s, fun c i m h => ⟨i, m, s _ _ h⟩⟩
theorem Dr.new {p q : Addr} {H : Hp} (h : H q = none) (o : HO) : Dr p H (L2.upd H q o) := .same (same_new h o)
theorem Dr.pen {K : PySem.W.Frag} {p : Addr} {H H' : Hp} (d : Dr p H H') (h : Pen K H p) : Pen K H' p := by
  obtain ⟨c, ns, i, m, h1, h2, h3⟩ := h
  obtain ⟨j, k, h4⟩ := d.2 c i m h1
  exact ⟨c, ns, j, k, h4, d.1.seq h3 h2, h3⟩
theorem Dr.mut {K : PySem.W.Frag} {p D : Addr} {H H' : Hp} {o : HO} (d : Dr p H H') (hP : Pen K H p) (h : H D = none) : Dr p H (L2.upd H' D o) := by
  have ne : D ≠ p := hP.free h
  refine ⟨fun b u nb hb => ?_, fun c i m hc => ?_⟩
  · rw [upd_ne (ne_of_none hb h)]
    exact d.1 b u nb hb
  · obtain ⟨j, k, h4⟩ := d.2 c i m hc
    exact ⟨j, k, by rw [upd_ne (Ne.symm ne)]; exact h4⟩
theorem Dr.put {K : PySem.W.Frag} {p c : Addr} {H H' : Hp} {ns : List Int} {i m : Int} (b : But p H H') (h0 : PenAt K H p c ns i m) {j k : Int} (h : H' p = some (.lst [.ref c, .int j, .int k])) : Dr p H H' := ⟨b, fun c' i' m' h' => by
  rw [h0.1] at h'
  cases h'
  exact ⟨j, k, h⟩⟩
end Vx

namespace Vx
open PySem PySem.Spec PyProof.Rows L2
/-! (x, ..) * k for small k: one time is the tuple itself, no time the empty tuple -/
theorem times_one (l : Addr) (items : Array Value) (n : Nat) (dd : Option Addr) (sl : Array (Option Value)) (u : Tok) (c : (items.isEmpty || (1 : Int) == 1) = true) :
    Meets (Builtin.«tuple.__mul__» ⟨[.ref l, .int 1 u], []⟩) (fun _ R s => s.heap.get? l = some { cls := .type "tuple", dict := dd, data := .seq items n, slots := sl } ∧ R (.ok (.ret (Value.ref l))) s) :=
  .of_wp fun prog w A R s h => by
    obtain ⟨hp, g, d, tk, os⟩ := s
    obtain ⟨hl, h⟩ := h
    have f1 := AutoSeq1.idx_int
    wp_walk using wpAny_loadPart' hl
    repeat (first
      | (refine wpAny_ite_true c ?_; wp_walk using wpAny_loadPart' hl))
    exact ⟨_, rfl, h⟩
theorem times_none (l : Addr) (items : Array Value) (n : Nat) (dd : Option Addr) (sl : Array (Option Value)) (x : Int) (u : Tok) (c0 : (decide (x < -(2 ^ 63)) || decide (x ≥ 2 ^ 63)) = false) (c1 : (items.isEmpty || x == 1) = false) (c2 : (decide (x ≤ 0) || items.isEmpty) = true) :
    Meets (Builtin.«tuple.__mul__» ⟨[.ref l, .int x u], []⟩) (fun _ R s => s.heap.get? l = some { cls := .type "tuple", dict := dd, data := .seq items n, slots := sl } ∧
      R (.ok (.ret (Value.ref s.heap.objs.size))) { s with heap := s.heap.push { cls := Value.type "tuple", data := Data.seq #[] }, toks := s.toks }) :=
  .of_wp fun prog w A R s h => by
    obtain ⟨hp, g, d, tk, os⟩ := s
    obtain ⟨hl, h⟩ := h
    have f1 := AutoSeq1.idx_int
    wp_walk using wpAny_loadPart' hl
    repeat (first
      | (refine wpAny_ite_false (decide_eq_false (by rw [c0]; exact Bool.false_ne_true)) ?_; wp_walk using wpAny_loadPart' hl)
      | (refine wpAny_ite_false (decide_eq_false (by rw [c1]; exact Bool.false_ne_true)) ?_; wp_walk using wpAny_loadPart' hl)
      | (refine wpAny_ite_true (decide_eq_true c2) ?_; wp_walk using wpAny_loadPart' hl))
    exact ⟨_, rfl, h⟩
section
variable {X : Cx}
/-- what comes is some tuple of these items, new or not -/
def someT (K : PySem.W.Frag) (xs : List V) (H : Hp) (Q : VK) : Prop := ∀ (r : Addr) (H' : Hp), Same H H' → SqT K H' r xs → Q (.ref r) H'
theorem someT.new {K : PySem.W.Frag} {xs : List V} {H : Hp} {Q : VK} (h : someT K xs H Q) : ∀ p, H p = none → Q (.ref p) (upd H p (.tup xs)) := fun p hp => h p _ (same_new hp _) (SqT.of upd_same)
theorem someT.old {K : PySem.W.Frag} {xs : List V} {H : Hp} {Q : VK} {a : Addr} (h : someT K xs H Q) (hx : SqT K H a xs) : Q (.ref a) H := h a H (Same.refl H) hx
def rCatS (K : PySem.W.Frag) : R2 := fun x y H Q => ∃ a b xs ys, x = .ref a ∧ y = .ref b ∧ SqT K H a xs ∧ SqT K H b ys ∧ xs.length + ys.length ≤ sizeLine ∧ someT K (xs ++ ys) H Q
theorem op_catS : OpR X (binaryOp .Add) (rCatS X.K) := by
  intro pins s σ H x y v u Q I rx ry h
  obtain ⟨a, b, xs, ys, ea, eb, ha, hb, hz, q⟩ := h
  refine op_catA pins s σ H x y v u Q I rx ry ⟨a, b, xs, ys, ea, eb, ha, hb, hz, fun e => ?_, fun _ e => ?_, fun _ _ => q.new⟩
  · subst e
    exact q.old hb
  · subst e
    exact q.old (by rw [List.append_nil]; exact ha)
def rRepS (K : PySem.W.Frag) : R2 := fun x y H Q => ∃ l k xs, x = .ref l ∧ y = .int k ∧ SqT K H l xs ∧ xs ≠ [] ∧ -1000 ≤ k ∧ k ≤ 1000 ∧ xs.length ≤ 1000 ∧ someT K (List.replicate k.toNat xs).flatten H Q
theorem op_repS : OpR X (binaryOp .Mult) (rRepS X.K) := by
  intro pins s σ H x y v u Q I rx ry h
  obtain ⟨l, k, xs, rfl, rfl, hT, hne, h1, h2, hz, q⟩ := h
  by_cases k2 : 2 ≤ k
  · exact op_repT pins s σ H _ _ v u Q I rx ry ⟨l, k, xs, rfl, rfl, hT, hne, k2, h2, hz, q.new⟩
  cases rx
  obtain ⟨t, rfl⟩ := ry
  obtain ⟨its, r, ⟨⟨cls, dd, data, sl⟩, ho, hc, n, hd⟩, hs⟩ := I.tuple hT
  simp only at hc hd
  subst hc hd
  have hle : its.length = xs.length := r.length.symm
  have hi : its.toArray.isEmpty = false := by
    match its, hle with
    | [], e => exact absurd (List.eq_nil_of_length_eq_zero e.symm) hne
    | _ :: _, _ => rfl
  by_cases k1 : k = 1
  · subst k1
    have c1 : (its.toArray.isEmpty || (1 : Int) == 1) = true := by rw [hi]; rfl
    refine wpAny_binaryOp_repeat_ref (T := "tuple") (U := "int") (by decide) ⟨_, ho, rfl⟩ (fun s' => typeIs_int s' 1 t) noFill_tuple_mul F.fills_int_mul F.slot_int_rmul repeat_tuple F.slot_int_index.lookup ?_
    refine call_meets F.slot_int_rmul (typeIs_int s 1 t) F.entry_int_rmul (F.args_int_rmul_2 _ _) (int_rmul_tuple 1 t l its.toArray n dd sl) ⟨ho, rfl, ⟨_, ho, rfl⟩, ?_⟩
    refine call_meets F.slot_tuple_mul ⟨_, ho, rfl⟩ F.entry_tuple_mul (F.args_tuple_mul_2 _ _) (times_one l its.toArray n dd sl t c1) ⟨ho, ?_⟩
    exact ⟨.ref l, H, I, rfl, q.old (by simpa using hT)⟩
  · have k0 : k ≤ 0 := by omega
    have e0 : k.toNat = 0 := by omega
    rw [e0] at q
    have c0 : (decide (k < -(2 ^ 63)) || decide (k ≥ 2 ^ 63)) = false := by
      rw [decide_eq_false (by omega), decide_eq_false (by omega)]; rfl
    have c1 : (its.toArray.isEmpty || k == 1) = false := by
      rw [hi, Bool.false_or]
      exact beq_eq_false_iff_ne.mpr k1
    have c2 : (decide (k ≤ 0) || its.toArray.isEmpty) = true := by rw [decide_eq_true k0]; rfl
    refine wpAny_binaryOp_repeat_ref (T := "tuple") (U := "int") (by decide) ⟨_, ho, rfl⟩ (fun s' => typeIs_int s' k t) noFill_tuple_mul F.fills_int_mul F.slot_int_rmul repeat_tuple F.slot_int_index.lookup ?_
    refine call_meets F.slot_int_rmul (typeIs_int s k t) F.entry_int_rmul (F.args_int_rmul_2 _ _) (int_rmul_tuple k t l its.toArray n dd sl) ⟨ho, rfl, ⟨_, ho, rfl⟩, ?_⟩
    refine call_meets F.slot_tuple_mul ⟨_, ho, rfl⟩ F.entry_tuple_mul (F.args_tuple_mul_2 _ _) (times_none l its.toArray n dd sl k t c0 c1 c2) ⟨ho, ?_⟩
    have hp : H s.heap.objs.size = none := I.hok.fresh (Nat.le_refl _)
    refine ⟨.ref s.heap.objs.size, _, I.laid (t' := s.toks) (o := .tup []) (fun b ob e => Heap.get?_push_of_some _ e) (Nat.le_refl _) ?_, rfl, q.new _ hp⟩
    exact ⟨Nat.zero_le _, [], .nil, IsTup.new _ _⟩
def rSlS (K : PySem.W.Frag) : V → Option Int → Option Int → Hp → VK → Prop := fun x lo hi H Q => ∃ a xs, x = .ref a ∧ SqT K H a xs ∧ someT K (cutV xs lo hi) H Q
theorem cutV_whole {xs : List V} {lo hi : Option Int} (h : HT.sIx xs.length 0 lo = 0 ∧ HT.sIx xs.length xs.length hi = xs.length) : cutV xs lo hi = xs := by
  unfold cutV
  rw [h.1, h.2, List.drop_zero, Nat.sub_zero, List.take_length]
theorem sl_tupS : SlR X (rSlS X.K) := by
  intro pins s σ H x v vl vu lo hi sl Q I rx hs pl pu h
  obtain ⟨a, xs, e, hx, q⟩ := h
  exact sl_tupA pins s σ H x v vl vu lo hi sl Q I rx hs pl pu ⟨a, xs, e, hx, fun w => q.old (by rw [cutV_whole w]; exact hx), fun _ => q.new⟩
end
end Vx

/-! sums and square matrices of ints modulo q, in plain Lean -/
namespace Vx
def sm : Nat → (Nat → Int) → Int
  | 0, _ => 0
  | n + 1, f => sm n f + f n
theorem sm_congr {n : Nat} {f g : Nat → Int} (h : ∀ k, k < n → f k = g k) : sm n f = sm n g := by
  induction n with
  | zero => rfl
  | succ n ih =>
    show sm n f + f n = sm n g + g n
    rw [ih fun k hk => h k (by omega), h n (by omega)]
theorem sm_zero (n : Nat) : sm n (fun _ => 0) = 0 := by
  induction n with
  | zero => rfl
  | succ n ih =>
    show sm n (fun _ => 0) + 0 = 0
    rw [ih]; rfl
theorem sm_zero' {n : Nat} {f : Nat → Int} (h : ∀ k, k < n → f k = 0) : sm n f = 0 := by
  rw [sm_congr h, sm_zero]
theorem sm_add (n : Nat) (f g : Nat → Int) : sm n (fun k => f k + g k) = sm n f + sm n g := by
  induction n with
  | zero => rfl
  | succ n ih =>
    show sm n (fun k => f k + g k) + (f n + g n) = (sm n f + f n) + (sm n g + g n)
    rw [ih]; omega
theorem sm_mulL (c : Int) (n : Nat) (f : Nat → Int) : sm n (fun k => c * f k) = c * sm n f := by
  induction n with
  | zero => show (0 : Int) = c * 0; omega
  | succ n ih =>
    show sm n (fun k => c * f k) + c * f n = c * (sm n f + f n)
    rw [ih, Int.mul_add]
theorem sm_mulR (c : Int) (n : Nat) (f : Nat → Int) : sm n (fun k => f k * c) = sm n f * c := by
  induction n with
  | zero => show (0 : Int) = 0 * c; omega
  | succ n ih =>
    show sm n (fun k => f k * c) + f n * c = (sm n f + f n) * c
    rw [ih, Int.add_mul]
theorem sm_comm (n m : Nat) (f : Nat → Nat → Int) : sm n (fun i => sm m fun j => f i j) = sm m fun j => sm n fun i => f i j := by
  induction n with
  | zero =>
    show (0 : Int) = sm m fun _ => 0
    rw [sm_zero]
  | succ n ih =>
    show sm n (fun i => sm m fun j => f i j) + sm m (fun j => f n j) = sm m fun j => (sm n fun i => f i j) + f n j
    rw [ih, sm_add]
/-- one term alone -/
theorem sm_one {n i : Nat} {f : Nat → Int} (hi : i < n) (h : ∀ k, k < n → k ≠ i → f k = 0) : sm n f = f i := by
  induction n with
  | zero => omega
  | succ n ih =>
    show sm n f + f n = f i
    by_cases e : i = n
    · subst e
      rw [sm_zero' fun k hk => h k (by omega) (by omega)]; omega
    · rw [ih (by omega) fun k hk => h k (by omega), h n (by omega) (by omega)]; omega
/-- the sum from one term on -/
theorem sm_split {n i : Nat} {f : Nat → Int} (hi : i ≤ n) (h : ∀ k, k < i → f k = 0) : sm n f = sm (n - i) fun k => f (i + k) := by
  induction n with
  | zero =>
    obtain rfl : i = 0 := by omega
    rfl
  | succ n ih =>
    by_cases e : i = n + 1
    · subst e
      rw [sm_zero' fun k hk => h k (by omega), Nat.sub_self]; rfl
    · have e2 : n + 1 - i = (n - i) + 1 := by omega
      rw [e2]
      show sm n f + f n = (sm (n - i) fun k => f (i + k)) + f (i + (n - i))
      rw [ih (by omega), show i + (n - i) = n by omega]
def Cg (q a b : Int) : Prop := a % q = b % q
theorem Cg.refl (q a : Int) : Cg q a a := rfl
theorem Cg.of_eq {q a b : Int} (h : a = b) : Cg q a b := by rw [h]; rfl
theorem Cg.symm {q a b : Int} (h : Cg q a b) : Cg q b a := Eq.symm h
theorem Cg.trans {q a b c : Int} (h : Cg q a b) (k : Cg q b c) : Cg q a c := Eq.trans h k
theorem Cg.add {q a b c d : Int} (h : Cg q a b) (k : Cg q c d) : Cg q (a + c) (b + d) := by
  unfold Cg at *
  rw [Int.add_emod, h, k, ← Int.add_emod]
theorem Cg.mul {q a b c d : Int} (h : Cg q a b) (k : Cg q c d) : Cg q (a * c) (b * d) := by
  unfold Cg at *
  rw [Int.mul_emod, h, k, ← Int.mul_emod]
theorem Cg.neg {q a b : Int} (h : Cg q a b) : Cg q (-a) (-b) := by
  have := (Cg.refl q (-1)).mul h
  simpa using this
theorem Cg.sub {q a b c d : Int} (h : Cg q a b) (k : Cg q c d) : Cg q (a - c) (b - d) := by
  rw [Int.sub_eq_add_neg, Int.sub_eq_add_neg]
  exact h.add k.neg
theorem Cg.mod (q a : Int) : Cg q (a % q) a := Int.emod_emod_of_dvd a (Int.dvd_refl q)
theorem Cg.eq {q a b : Int} (h : Cg q a b) (a0 : 0 ≤ a) (a1 : a < q) (b0 : 0 ≤ b) (b1 : b < q) : a = b := by
  unfold Cg at h
  rw [Int.emod_eq_of_lt a0 a1, Int.emod_eq_of_lt b0 b1] at h
  exact h
theorem sm_cg {q : Int} {n : Nat} {f g : Nat → Int} (h : ∀ k, k < n → Cg q (f k) (g k)) : Cg q (sm n f) (sm n g) := by
  induction n with
  | zero => exact .refl _ _
  | succ n ih => exact (ih fun k hk => h k (by omega)).add (h n (by omega))
/-! matrices as functions -/
abbrev Fm := Nat → Nat → Int
def mm (n : Nat) (A B : Fm) : Fm := fun i j => sm n fun k => A i k * B k j
def dl : Fm := fun i j => if i = j then 1 else 0
def Eqm (q : Int) (n : Nat) (A B : Fm) : Prop := ∀ i j, i < n → j < n → Cg q (A i j) (B i j)
theorem Eqm.refl (q : Int) (n : Nat) (A : Fm) : Eqm q n A A := fun _ _ _ _ => .refl _ _
theorem Eqm.symm {q : Int} {n : Nat} {A B : Fm} (h : Eqm q n A B) : Eqm q n B A := fun i j a b => (h i j a b).symm
theorem Eqm.trans {q : Int} {n : Nat} {A B C : Fm} (h : Eqm q n A B) (k : Eqm q n B C) : Eqm q n A C := fun i j a b => (h i j a b).trans (k i j a b)
theorem Eqm.mm {q : Int} {n : Nat} {A B C D : Fm} (h : Eqm q n A B) (k : Eqm q n C D) : Eqm q n (mm n A C) (mm n B D) := fun i j a b => sm_cg fun x hx => (h i x a hx).mul (k x j hx b)
theorem mm_assoc (n : Nat) (A B C : Fm) (i j : Nat) : mm n (mm n A B) C i j = mm n A (mm n B C) i j := by
  show sm n (fun k => (sm n fun l => A i l * B l k) * C k j) = sm n fun l => A i l * sm n fun k => B l k * C k j
  rw [sm_congr fun k _ => (sm_mulR (C k j) n fun l => A i l * B l k).symm, sm_comm]
  refine sm_congr fun l _ => ?_
  rw [← sm_mulL]
  exact sm_congr fun k _ => Int.mul_assoc _ _ _
theorem mm_assocE (q : Int) (n : Nat) (A B C : Fm) : Eqm q n (mm n (mm n A B) C) (mm n A (mm n B C)) := fun i j _ _ => .of_eq (mm_assoc n A B C i j)
theorem mm_oneL (q : Int) (n : Nat) (A : Fm) : Eqm q n (mm n dl A) A := fun i j a b => .of_eq (by
  show sm n (fun k => dl i k * A k j) = A i j
  rw [sm_one a fun k _ hk => by show (if i = k then (1 : Int) else 0) * A k j = 0; rw [if_neg (Ne.symm hk)]; omega]
  show (if i = i then (1 : Int) else 0) * A i j = A i j
  rw [if_pos rfl]; omega)
theorem mm_oneR (q : Int) (n : Nat) (A : Fm) : Eqm q n (mm n A dl) A := fun i j a b => .of_eq (by
  show sm n (fun k => A i k * dl k j) = A i j
  rw [sm_one b fun k _ hk => by show A i k * (if k = j then (1 : Int) else 0) = 0; rw [if_neg hk]; omega]
  show A i j * (if j = j then (1 : Int) else 0) = A i j
  rw [if_pos rfl]; omega)
/-- B is a right inverse of A -/
def RI (q : Int) (n : Nat) (A B : Fm) : Prop := Eqm q n (mm n A B) dl
/-- a right inverse with a right inverse of its own is a left inverse -/
theorem RI.left {q : Int} {n : Nat} {A B C : Fm} (h : RI q n A B) (k : RI q n B C) : RI q n B A := by
  have e1 : Eqm q n A C := (mm_oneR q n A).symm.trans (((Eqm.refl q n A).mm k.symm).trans ((mm_assocE q n A B C).symm.trans ((h.mm (.refl q n C)).trans (mm_oneL q n C))))
  exact ((Eqm.refl q n B).mm e1).trans k
/-- two right inverses are one, where one is a left inverse too -/
theorem RI.unique {q : Int} {n : Nat} {A B C : Fm} (h : RI q n A B) (k : RI q n A C) (l : RI q n B A) : Eqm q n B C :=
  (mm_oneR q n B).symm.trans (((Eqm.refl q n B).mm k.symm).trans ((mm_assocE q n B A C).symm.trans ((l.mm (.refl q n C)).trans (mm_oneL q n C))))
/-- unitriangular -/
def Ut (n : Nat) (A : Fm) : Prop := ∀ i j, i < n → j < n → (j < i → A i j = 0) ∧ (j = i → A i j = 1)
/-! a right inverse by back substitution -/
def bk (A : Fm) (j : Nat) : Nat → Int
  | 0 => 1
  | d + 1 => - sm (d + 1) (fun e => if h : e < d + 1 then A (j - (d + 1)) (j - e) * bk A j e else 0)
theorem bk_zero (A : Fm) (j : Nat) : bk A j 0 = 1 := by rw [bk]
theorem bk_succ (A : Fm) (j d : Nat) : bk A j (d + 1) = - sm (d + 1) (fun e => A (j - (d + 1)) (j - e) * bk A j e) := by
  rw [bk]
  congr 1
  exact sm_congr fun k hk => dif_pos hk
theorem sm_head (n : Nat) (f : Nat → Int) : sm (n + 1) f = f 0 + sm n (fun k => f (k + 1)) := by
  induction n with
  | zero => show (0 : Int) + f 0 = f 0 + 0; omega
  | succ n ih =>
    show sm (n + 1) f + f (n + 1) = f 0 + (sm n (fun k => f (k + 1)) + f (n + 1))
    rw [ih]; omega
/-- the sum counted from the other end -/
theorem sm_rev (n : Nat) (f : Nat → Int) : sm n f = sm n fun k => f (n - 1 - k) := by
  induction n generalizing f with
  | zero => rfl
  | succ n ih =>
    have h1 : sm (n + 1) f = f 0 + sm n (fun k => f (k + 1)) := by
      clear ih
      induction n with
      | zero => show (0 : Int) + f 0 = f 0 + 0; omega
      | succ n ih =>
        show sm (n + 1) f + f (n + 1) = f 0 + (sm n (fun k => f (k + 1)) + f (n + 1))
        rw [ih]; omega
    rw [h1, ih fun k => f (k + 1)]
    show f 0 + sm n (fun k => f (n - 1 - k + 1)) = sm n (fun k => f (n + 1 - 1 - k)) + f (n + 1 - 1 - n)
    rw [show n + 1 - 1 - n = 0 by omega, sm_congr (g := fun k => f (n + 1 - 1 - k)) fun k hk => by rw [show n - 1 - k + 1 = n + 1 - 1 - k by omega]]
    omega
theorem ut_has (q : Int) (n : Nat) (A : Fm) (h : Ut n A) : ∃ B : Fm, RI q n A B ∧ Ut n B := by
  refine ⟨fun i j => if i ≤ j then bk A j (j - i) else 0, fun i j hi hj => .of_eq ?_, fun i j hi hj => ⟨fun l => if_neg (by omega), fun l => ?_⟩⟩
  · show sm n (fun k => A i k * if k ≤ j then bk A j (j - k) else 0) = if i = j then 1 else 0
    by_cases hij : i ≤ j
    · -- terms k from i to j
      have e1 : sm n (fun k => A i k * if k ≤ j then bk A j (j - k) else 0) = sm (j + 1) (fun k => A i k * bk A j (j - k)) := by
        have : ∀ m, j + 1 ≤ m → sm m (fun k => A i k * if k ≤ j then bk A j (j - k) else 0) = sm (j + 1) (fun k => A i k * bk A j (j - k)) := by
          intro m hm
          induction m with
          | zero => omega
          | succ m ih =>
            by_cases e : j = m
            · subst e
              exact sm_congr fun k hk => by rw [if_pos (by omega)]
            · show sm m _ + A i m * (if m ≤ j then bk A j (j - m) else 0) = _
              rw [if_neg (by omega), ih (by omega)]; omega
        exact this n (by omega)
      rw [e1, sm_split (i := i) (by omega) fun k hk => by rw [((h i k hi (by omega)).1 hk)]; omega]
      by_cases e : i = j
      · subst e
        rw [show i + 1 - i = 1 by omega, if_pos rfl]
        show (0 : Int) + A i (i + 0) * bk A i (i - (i + 0)) = 1
        rw [Nat.add_zero, (h i i hi hi).2 rfl, Nat.sub_self, bk_zero]
        rfl
      · obtain ⟨d, rfl⟩ : ∃ d, j = i + (d + 1) := ⟨j - i - 1, by omega⟩
        rw [if_neg (by omega), show i + (d + 1) + 1 - i = (d + 1) + 1 by omega, sm_rev]
        show sm (d + 1) (fun k => A i (i + (d + 1 + 1 - 1 - k)) * bk A (i + (d + 1)) (i + (d + 1) - (i + (d + 1 + 1 - 1 - k)))) + A i (i + (d + 1 + 1 - 1 - (d + 1))) * bk A (i + (d + 1)) (i + (d + 1) - (i + (d + 1 + 1 - 1 - (d + 1)))) = 0
        rw [show i + (d + 1 + 1 - 1 - (d + 1)) = i by omega, show i + (d + 1) - i = d + 1 by omega, (h i i hi hi).2 rfl, bk_succ]
        rw [sm_congr (g := fun e => A (i + (d + 1) - (d + 1)) (i + (d + 1) - e) * bk A (i + (d + 1)) e) fun k hk => by
          rw [show i + (d + 1) - (i + (d + 1 + 1 - 1 - k)) = k by omega, show i + (d + 1 + 1 - 1 - k) = i + (d + 1) - k by omega, show i + (d + 1) - (d + 1) = i by omega]]
        omega
    · rw [if_neg (by omega)]
      refine sm_zero' fun k hk => ?_
      by_cases l : k ≤ j
      · rw [(h i k hi hk).1 (by omega)]; omega
      · rw [if_neg l]; omega
  · show (if i ≤ j then bk A j (j - i) else 0) = 1
    rw [if_pos (by omega), l, Nat.sub_self, bk_zero]
theorem ut_left {q : Int} {n : Nat} {A B : Fm} (hb : Ut n B) (h : RI q n A B) : RI q n B A := by
  obtain ⟨C, k, _⟩ := ut_has q n B hb
  exact h.left k
end Vx

namespace Vx
open PySem PySem.Spec PyProof.Rows L2
/-! data in the abstract heap: what keeps it -/
mutual
theorem dp_same {K : PySem.W.Frag} {H H' : Hp} (s : Same H H') : ∀ (d : PyData) (v : V), Dp K H v d → Dp K H' v d
  | .none, _, h => by cases h; exact .non
  | .bool b, _, h => by cases h; exact .bl b
  | .int i, _, h => by cases h; exact .int i
  | .str x, _, h => by cases h; exact .str x
  | .list ds, _, h => by cases h with | lst a b => exact .lst (s.seq a) (dpAll_same s ds _ b)
  | .tuple ds, _, h => by cases h with | tup a b => exact .tup (Same.seqT s a) (dpAll_same s ds _ b)
  | .dict kvs, _, h => by cases h
theorem dpAll_same {K : PySem.W.Frag} {H H' : Hp} (s : Same H H') : ∀ (ds : List PyData) (vs : List V), DpAll K H vs ds → DpAll K H' vs ds
  | [], _, h => by cases h; exact .nil
  | d :: ds, _, h => by cases h with | cons a b => exact .cons (dp_same s d _ a) (dpAll_same s ds _ b)
end
theorem DpAll.app {K : PySem.W.Frag} {H : Hp} : ∀ {vs ws : List V} {ds es : List PyData}, DpAll K H vs ds → DpAll K H ws es → DpAll K H (vs ++ ws) (ds ++ es)
  | _, _, _, _, .nil, h => h
  | _, _, _, _, .cons a b, h => .cons a (DpAll.app b h)
theorem DpAll.len {K : PySem.W.Frag} {H : Hp} : ∀ {vs : List V} {ds : List PyData}, DpAll K H vs ds → vs.length = ds.length
  | _, _, .nil => rfl
  | _, _, .cons _ b => congrArg (· + 1) (DpAll.len b)
theorem DpAll.get {K : PySem.W.Frag} {H : Hp} : ∀ {vs : List V} {ds : List PyData} {i : Nat} {d : PyData}, DpAll K H vs ds → ds[i]? = some d → ∃ v, vs[i]? = some v ∧ Dp K H v d
  | _, _, _, _, .nil, h => by simp at h
  | _, _, 0, _, .cons a b, h => by simp at h; subst h; exact ⟨_, rfl, a⟩
  | _, _, i + 1, d, .cons a b, h => by
    obtain ⟨v, e, k⟩ := DpAll.get (i := i) b (by simpa using h)
    exact ⟨v, by simpa using e, k⟩
theorem DpAll.of {K : PySem.W.Frag} {H : Hp} : ∀ {vs : List V} {ds : List PyData} {i : Nat} {v : V}, DpAll K H vs ds → vs[i]? = some v → ∃ d, ds[i]? = some d ∧ Dp K H v d
  | _, _, _, _, .nil, h => by simp at h
  | _, _, 0, _, .cons a b, h => by simp at h; subst h; exact ⟨_, rfl, a⟩
  | _, _, i + 1, d, .cons a b, h => by
    obtain ⟨v, e, k⟩ := DpAll.of (i := i) b (by simpa using h)
    exact ⟨v, by simpa using e, k⟩
theorem DpAll.set {K : PySem.W.Frag} {H : Hp} {v : V} {d : PyData} (k : Dp K H v d) : ∀ {vs : List V} {ds : List PyData} (i : Nat), DpAll K H vs ds → DpAll K H (vs.set i v) (ds.set i d)
  | _, _, _, .nil => .nil
  | _, _, 0, .cons _ b => .cons k b
  | _, _, i + 1, .cons a b => .cons a (DpAll.set k i b)
theorem dpAll_of {K : PySem.W.Frag} {H : Hp} : ∀ {vs : List V} {ds : List PyData}, vs.length = ds.length → (∀ (i : Nat) (d : PyData), ds[i]? = some d → ∃ v, vs[i]? = some v ∧ Dp K H v d) → DpAll K H vs ds
  | [], [], _, _ => .nil
  | v :: vs, d :: ds, h, k => by
    obtain ⟨v', e, k0⟩ := k 0 d rfl
    obtain rfl : v = v' := by simpa using e
    refine .cons k0 (dpAll_of (by simpa using h) fun i d' hd => ?_)
    obtain ⟨w, e, k1⟩ := k (i + 1) d' (by simpa using hd)
    exact ⟨w, by simpa using e, k1⟩
  | [], _ :: _, h, _ => by simp at h
  | _ :: _, [], h, _ => by simp at h
theorem dp_tuple {K : PySem.W.Frag} {H : Hp} {v : V} {ds : List PyData} (h : Dp K H v (.tuple ds)) : ∃ a xs, v = .ref a ∧ SqT K H a xs ∧ DpAll K H xs ds := by
  cases h with
  | tup a b => exact ⟨_, _, rfl, a, b⟩
theorem dp_int {K : PySem.W.Frag} {H : Hp} {v : V} {i : Int} (h : Dp K H v (.int i)) : v = .int i := by cases h; rfl
theorem dp_ints_eq {K : PySem.W.Frag} {H : Hp} : ∀ {ns : List Int} {vs : List V}, DpAll K H vs (ns.map PyData.int) → vs = ns.map V.int
  | [], _, h => by cases h; rfl
  | n :: ns, _, h => by
    cases h with
    | cons a b =>
      rw [dp_int a, dp_ints_eq b]
      rfl
/-! no list within: a change of a list does not touch it -/
mutual
def noL : PyData → Bool
  | .list _ => false
  | .dict _ => false
  | .tuple ds => noLs ds
  | _ => true
def noLs : List PyData → Bool
  | [] => true
  | d :: ds => noL d && noLs ds
end
/-- p holds something that may change -/
def Chg (H : Hp) (p : Addr) : Prop := (∃ xs, H p = some (.lst xs)) ∨ ∃ kvs, H p = some (.dK kvs)
theorem Chg.tup {K : PySem.W.Frag} {H H' : Hp} {p a : Addr} {xs : List V} (c : Chg H p) (b : But p H H') (h : SqT K H a xs) : SqT K H' a xs := by
  have ne : ∀ o, H a = some o → (∀ zs, o ≠ .lst zs) → (∀ zs, o ≠ .dK zs) → a ≠ p := fun o e n1 n2 q => by
    subst q
    rcases c with ⟨zs, c⟩ | ⟨zs, c⟩ <;> rw [e] at c
    · exact n1 zs (Option.some.inj c)
    · exact n2 zs (Option.some.inj c)
  rcases h with (h | ⟨o, h⟩) | h
  · exact .inl (.inl (b _ _ (ne _ h (fun _ => nofun) (fun _ => nofun)) h))
  · exact .inl (.inr ⟨o, b _ _ (ne _ h (fun _ => nofun) (fun _ => nofun)) h⟩)
  · exact .inr h
theorem Chg.frz {H H' : Hp} {p a : Addr} {o : Obj} {u : HO} (c : Chg H p) (b : But p H H') (h : H a = some (.frz o u)) : H' a = some (.frz o u) := by
  refine b _ _ (fun q => ?_) h
  subst q
  rcases c with ⟨zs, c⟩ | ⟨zs, c⟩ <;> (rw [h] at c; cases c)
mutual
theorem dp_but {K : PySem.W.Frag} {H H' : Hp} {p : Addr} (c : Chg H p) (s : But p H H') : ∀ (d : PyData) (v : V), noL d = true → Dp K H v d → Dp K H' v d
  | .none, _, _, h => by cases h; exact .non
  | .bool b, _, _, h => by cases h; exact .bl b
  | .int i, _, _, h => by cases h; exact .int i
  | .str x, _, _, h => by cases h; exact .str x
  | .list ds, _, n, h => by cases n
  | .tuple ds, _, n, h => by cases h with | tup a b => exact .tup (c.tup s a) (dpAll_but c s ds _ n b)
  | .dict kvs, _, _, h => by cases h
theorem dpAll_but {K : PySem.W.Frag} {H H' : Hp} {p : Addr} (c : Chg H p) (s : But p H H') : ∀ (ds : List PyData) (vs : List V), noLs ds = true → DpAll K H vs ds → DpAll K H' vs ds
  | [], _, _, h => by cases h; exact .nil
  | d :: ds, _, n, h => by
    cases h with
    | cons a b =>
      have n2 := (Bool.and_eq_true _ _).mp n
      exact .cons (dp_but c s d _ n2.1 a) (dpAll_but c s ds _ n2.2 b)
end
theorem Pen.chg {K : PySem.W.Frag} {H : Hp} {p : Addr} (h : Pen K H p) : Chg H p := by
  obtain ⟨c, ns, i, m, h1, _⟩ := h
  exact .inl ⟨_, h1⟩
/-! matrices -/
abbrev Mx := List (List Int)
def rowD (r : List Int) : PyData := .tuple (r.map PyData.int)
def mat (M : Mx) : PyData := .tuple (M.map rowD)
def ent (M : Mx) : Fm := fun i j => (M.getD i []).getD j 0
structure Sq (n : Nat) (M : Mx) : Prop where
  h : M.length = n
  w : ∀ r ∈ M, r.length = n
def Rs (q : Int) (n : Nat) (M : Mx) : Prop := ∀ i j, i < n → j < n → 0 ≤ ent M i j ∧ ent M i j < q
theorem noL_row (r : List Int) : noL (rowD r) = true := by
  show noLs (r.map PyData.int) = true
  induction r with
  | nil => rfl
  | cons a r ih => exact ih
theorem noL_mat (M : Mx) : noL (mat M) = true := by
  show noLs (M.map rowD) = true
  induction M with
  | nil => rfl
  | cons a r ih =>
    show (noL (rowD a) && noLs (r.map rowD)) = true
    rw [noL_row, ih]
    rfl
theorem canLay_mat (M : Mx) : PyData.canLayAll0 (M.map rowD) = true := by
  induction M with
  | nil => rfl
  | cons a r ih =>
    show (PyData.canLayAll0 (a.map PyData.int) && PyData.canLayAll0 (r.map rowD)) = true
    rw [lay_ints, ih]
    rfl
theorem depth_mat (M : Mx) : PyData.depthAll (M.map rowD) ≤ 1 := by
  induction M with
  | nil => exact Nat.zero_le _
  | cons a r ih =>
    show max (PyData.depthAll (a.map PyData.int) + 1) (PyData.depthAll (r.map rowD)) ≤ 1
    rw [depth_ints]
    omega
theorem shaped_mat (M : Mx) : SeqAt.shaped (mat M) = true := by
  show (PyData.canLayAll0 (M.map rowD) && decide (PyData.depthAll (M.map rowD) + 1 ≤ 64)) = true
  rw [canLay_mat, decide_eq_true (by have := depth_mat M; omega)]
  rfl
theorem shaped_row (r : List Int) : SeqAt.shaped (rowD r) = true := by
  show (PyData.canLayAll0 (r.map PyData.int) && decide (PyData.depthAll (r.map PyData.int) + 1 ≤ 64)) = true
  rw [lay_ints, depth_ints]
  rfl
theorem eqv_same {d : PyData} (h : SeqAt.shaped d = true) : PyData.eqv d d = true := SeqAt.eqv_refl d (SeqAt.canLay_of_shaped h)
theorem mx_ext {n : Nat} {M N : Mx} (a : Sq n M) (b : Sq n N) (h : ∀ i j, i < n → j < n → ent M i j = ent N i j) : M = N := by
  refine List.ext_getElem (a.h.trans b.h.symm) fun i h1 h2 => ?_
  have r1 := a.w _ (List.getElem_mem h1)
  have r2 := b.w _ (List.getElem_mem h2)
  refine List.ext_getElem (r1.trans r2.symm) fun j h3 h4 => ?_
  have e := h i j (by rw [← a.h]; exact h1) (by rw [← r1]; exact h3)
  unfold ent at e
  simpa only [List.getD_eq_getElem?_getD, List.getElem?_eq_getElem h1, List.getElem?_eq_getElem h2, Option.getD_some, List.getElem?_eq_getElem h3, List.getElem?_eq_getElem h4] using e
/-- a matrix's row, an entry, as the heap has them -/
theorem mat_row {K : PySem.W.Frag} {H : Hp} {v : V} {M : Mx} (h : Dp K H v (mat M)) : ∃ (a : Addr) (xs : List V), v = .ref a ∧ SqT K H a xs ∧ xs.length = M.length ∧ ∀ (i : Nat) (r : List Int), M[i]? = some r → ∃ t : Addr, xs[i]? = some (.ref t) ∧ SqT K H t (r.map V.int) := by
  obtain ⟨a, xs, e, hs, hd⟩ := dp_tuple h
  refine ⟨a, xs, e, hs, by rw [DpAll.len hd, List.length_map], fun i r hr => ?_⟩
  obtain ⟨v, e1, k⟩ := DpAll.get (i := i) (d := rowD r) hd (by rw [List.getElem?_map, hr]; rfl)
  obtain ⟨t, ys, rfl, k1, k2⟩ := dp_tuple (ds := r.map PyData.int) k
  rw [dp_ints_eq k2] at k1
  exact ⟨t, e1, k1⟩
theorem dp_row {K : PySem.W.Frag} {H : Hp} {t : Addr} {r : List Int} (h : SqT K H t (r.map V.int)) : Dp K H (.ref t) (rowD r) := .tup h (dp_ints K H r)
theorem row_get {n : Nat} {M : Mx} (h : Sq n M) {i : Nat} (hi : i < n) : ∃ r, M[i]? = some r ∧ r.length = n ∧ ∀ j, j < n → r[j]? = some (ent M i j) := by
  have h1 : i < M.length := by rw [h.h]; exact hi
  refine ⟨M[i], List.getElem?_eq_getElem h1, h.w _ (List.getElem_mem h1), fun j hj => ?_⟩
  have h2 : j < (M[i]).length := by rw [h.w _ (List.getElem_mem h1)]; exact hj
  unfold ent
  rw [List.getD_eq_getElem?_getD, List.getD_eq_getElem?_getD, List.getElem?_eq_getElem h1, Option.getD_some, List.getElem?_eq_getElem h2]
  rfl
theorem at_of {xs : List Int} {j : Nat} {x : Int} (h : xs[j]? = some x) : atI (xs.map V.int) (j : Int) = some (.int x) := atI_nat (by rw [List.getElem?_map, h]; rfl)
/-! what is shown -/
section
variable {X : Cx}
def rRepr (K : PySem.W.Frag) : List V → Hp → VK → Prop := fun xs H Q => ∃ a d, xs = [.ref a] ∧ Dp K H (.ref a) d ∧ d.hasDict = false ∧ d.showable = true ∧ d.depth ≤ 32 ∧ d.shown.length ≤ sizeLine ∧ Q (.str d.shown) H
theorem call_reprD (hg : X.A.guards = some []) (hu : X.A.units + 64 < cLine) : CallR X (.builtin "repr") (rRepr X.K) := by
  intro pins s σ H xs us Q I r h
  obtain ⟨a, d, rfl, hd, n1, n2, n3, n4, q⟩ := h
  obtain ⟨u, rfl, ru⟩ := vals1 r
  obtain rfl : u = Value.ref a := ru
  obtain ⟨as, rd⟩ := Dp.reads I d _ _ hd rfl
  exact repr_of_reads' rd n2 (PyData.noDict_hsm n1) hg (by omega) (fun _ _ e => e) (fun h' u tk hk => ⟨.str d.shown, H, I.kept hk, ⟨u, rfl⟩, q⟩) n4
end
end Vx

namespace Vx
open PySem PySem.Spec PyProof.Rows L2
/-! a matrix of small residues can be shown -/
theorem small_int {x : Int} (h0 : 0 ≤ x) (h : x < 1000000) : PyData.weight (.int x) ≤ 21 ∧ PyData.showable (.int x) = true ∧ PyData.intsShort 13 (.int x) = true := by
  have l : x.natAbs.log2 < 20 := by
    by_cases e : x.natAbs = 0
    · rw [e]; decide
    · exact (Nat.log2_lt e).mpr (by omega)
  refine ⟨?_, decide_eq_true (Nat.lt_of_lt_of_le l (by decide)), ?_⟩
  · show (if (x == 0) = true then 0 else x.natAbs.log2 + 1) ≤ 21
    split <;> omega
  · exact decide_eq_true (PyData.shown_int_le (Nat.lt_of_lt_of_le (show x.natAbs < 1000000 by omega) (by decide)))
theorem small_row {r : List Int} (h : ∀ x ∈ r, 0 ≤ x ∧ x < 1000000) : PyData.weightAll (r.map PyData.int) ≤ 22 * r.length ∧ PyData.showableAll (r.map PyData.int) = true ∧ PyData.intsShortAll 13 (r.map PyData.int) = true := by
  induction r with
  | nil => exact ⟨Nat.le_refl _, rfl, rfl⟩
  | cons a r ih =>
    obtain ⟨h1, h2, h3⟩ := ih fun x hx => h x (List.mem_cons_of_mem _ hx)
    obtain ⟨k1, k2, k3⟩ := small_int (h a List.mem_cons_self).1 (h a List.mem_cons_self).2
    refine ⟨?_, (Bool.and_eq_true _ _).mpr ⟨k2, h2⟩, (Bool.and_eq_true _ _).mpr ⟨k3, h3⟩⟩
    simp only [List.map_cons, PyData.weightAll, List.length_cons]
    omega
theorem small_rows {M : Mx} {n : Nat} (hw : ∀ r ∈ M, r.length = n) (h : ∀ r ∈ M, ∀ x ∈ r, 0 ≤ x ∧ x < 1000000) :
    PyData.weightAll (M.map rowD) ≤ (22 * n + 1) * M.length ∧ PyData.showableAll (M.map rowD) = true ∧ PyData.intsShortAll 13 (M.map rowD) = true := by
  induction M with
  | nil => exact ⟨Nat.zero_le _, rfl, rfl⟩
  | cons a r ih =>
    obtain ⟨h1, h2, h3⟩ := ih (fun x hx => hw x (List.mem_cons_of_mem _ hx)) fun x hx => h x (List.mem_cons_of_mem _ hx)
    obtain ⟨k1, k2, k3⟩ := small_row (h a List.mem_cons_self)
    have e := hw a List.mem_cons_self
    refine ⟨?_, (Bool.and_eq_true _ _).mpr ⟨k2, h2⟩, (Bool.and_eq_true _ _).mpr ⟨k3, h3⟩⟩
    rw [e] at k1
    simp only [List.map_cons, PyData.weightAll, List.length_cons, rowD, PyData.weight]
    rw [Nat.mul_add]
    omega
theorem rs_small {q : Int} {n : Nat} {M : Mx} (hs : Sq n M) (h : Rs q n M) (hq : q ≤ 1000) : ∀ r ∈ M, ∀ x ∈ r, 0 ≤ x ∧ x < 1000000 := by
  intro r hr x hx
  obtain ⟨i, hi, rfl⟩ := List.mem_iff_getElem.mp hr
  obtain ⟨j, hj, rfl⟩ := List.mem_iff_getElem.mp hx
  have h1 : i < n := by rw [← hs.h]; exact hi
  have h2 : j < n := by rw [← hs.w _ (List.getElem_mem hi)]; exact hj
  have e : ent M i j = M[i][j] := by
    unfold ent
    simp only [List.getD_eq_getElem?_getD, List.getElem?_eq_getElem hi, Option.getD_some, List.getElem?_eq_getElem hj]
  have := h i j h1 h2
  rw [e] at this
  omega
/-- what repr asks of a matrix -/
theorem mat_shows {q : Int} {n : Nat} {M : Mx} (hs : Sq n M) (h : Rs q n M) (hq : q ≤ 1000) (hn : n ≤ 30) : (mat M).hasDict = false ∧ (mat M).showable = true ∧ (mat M).depth ≤ 32 ∧ (mat M).shown.length ≤ sizeLine := by
  obtain ⟨k1, k2, k3⟩ := small_rows hs.w (rs_small hs h hq)
  have d := depth_mat M
  have lay : PyData.layable0 (mat M) = true := by
    show (PyData.canLayAll0 (M.map rowD) && decide (PyData.depthAll (M.map rowD) + 1 ≤ 64) && decide (PyData.weightAll (M.map rowD) ≤ 2 ^ 20)) = true
    rw [hs.h] at k1
    have : (22 * n + 1) * n ≤ (22 * 30 + 1) * 30 := Nat.mul_le_mul (by omega) hn
    rw [canLay_mat, decide_eq_true (by omega), decide_eq_true (Nat.le_trans k1 (Nat.le_trans this (by decide)))]
    rfl
  refine ⟨PyData.hasDict_of_layable lay, k2, ?_, PyData.shown_fits_of_layable0 (B := 13) (by decide) (by decide) lay k3⟩
  show PyData.depthAll (M.map rowD) + 1 ≤ 32
  omega
end Vx

namespace Vx
open PySem PySem.Spec PyProof.Rows L2
/-! comprehensions that make data -/
theorem same_mut {H H' : Hp} {p : Addr} {o : HO} (e : Same H H') (h : H p = none) : Same H (upd H' p o) := fun a u ha => by
  rw [upd_ne (ne_of_none ha h)]
  exact e a u ha
/-- from H' to H4: data without lists is kept, and the list at D -/
structure Stay (K : PySem.W.Frag) (D : Addr) (H' H4 : Hp) : Prop where
  d : H4 D = H' D
  k : ∀ vs ds, noLs ds = true → DpAll K H' vs ds → DpAll K H4 vs ds
theorem Stay.same {K : PySem.W.Frag} {D : Addr} {H' H4 : Hp} {o : HO} (s : Same H' H4) (h : H' D = some o) : Stay K D H' H4 := ⟨(s _ _ h).trans h.symm, fun vs ds _ x => dpAll_same s ds vs x⟩
theorem Stay.but {K : PySem.W.Frag} {p D : Addr} {H' H4 : Hp} {o : HO} (s : But p H' H4) (c : Chg H' p) (h : H' D = some o) (n : D ≠ p) : Stay K D H' H4 := ⟨(s _ _ n h).trans h.symm, fun vs ds e x => dpAll_but c s ds vs e x⟩
/-- i items are made: their data -/
def Made (K : PySem.W.Frag) (D : Addr) (f : Nat → PyData → Prop) (G : Hp → Prop) (i : Nat) (H : Hp) : Prop :=
  ∃ acc ds, H D = some (.lst acc) ∧ DpAll K H acc ds ∧ noLs ds = true ∧ ds.length = i ∧ (∀ k d, ds[k]? = some d → f k d) ∧ G H
theorem noLs_app : ∀ {a b : List PyData}, noLs a = true → noLs b = true → noLs (a ++ b) = true
  | [], _, _, h => h
  | x :: a, b, h, k => by
    have h2 := (Bool.and_eq_true _ _).mp h
    exact (Bool.and_eq_true _ _).mpr ⟨h2.1, noLs_app h2.2 k⟩
theorem Made.start {K : PySem.W.Frag} {D : Addr} {f : Nat → PyData → Prop} {G : Hp → Prop} {H : Hp} (g : G (upd H D (.lst []))) : Made K D f G 0 (upd H D (.lst [])) :=
  ⟨[], [], upd_same, .nil, rfl, rfl, fun k d h => by simp at h, g⟩
theorem Made.next {K : PySem.W.Frag} {D : Addr} {f : Nat → PyData → Prop} {G : Hp → Prop} {i : Nat} {H' H4 : Hp} {y : V} {d : PyData} (m : Made K D f G i H') (s : Stay K D H' H4) (n : noL d = true) (hd : Dp K H4 y d) (hf : f i d) (hi : i ≤ 100000)
    (g : ∀ acc, G (upd H4 D (.lst acc))) : ∃ acc, H4 D = some (.lst acc) ∧ acc.length < sizeLine ∧ Made K D f G (i + 1) (upd H4 D (.lst (acc ++ [y]))) := by
  obtain ⟨acc, ds, e, k, no, len, hk, _⟩ := m
  have e4 : H4 D = some (.lst acc) := s.d.trans e
  have c4 : Chg H4 D := .inl ⟨acc, e4⟩
  have k4 := s.k _ _ no k
  have n1 : noLs [d] = true := by show (noL d && true) = true; rw [n]; rfl
  have n2 := noLs_app no n1
  refine ⟨acc, e4, ?_, _, ds ++ [d], upd_same, dpAll_but c4 .upd _ _ n2 (DpAll.app k4 (.cons hd .nil)), n2, by rw [List.length_append, len]; rfl, fun q d' h => ?_, g _⟩
  · rw [DpAll.len k4, len]
    exact Nat.lt_of_le_of_lt hi (by decide)
  · by_cases l : q < ds.length
    · rw [List.getElem?_append_left l] at h
      exact hk q d' h
    · rw [List.getElem?_append_right (by omega)] at h
      have : q = ds.length := by
        by_cases z : q - ds.length = 0
        · omega
        · rw [List.getElem?_eq_none (by simp; omega)] at h
          cases h
      subst this
      rw [Nat.sub_self] at h
      obtain rfl : d = d' := by simpa using h
      rw [len]
      exact hf
/-- the turns of a comprehension over I whose target is the name at j, without a test -/
def LcOf (I : It) (j : Nat) (te : TE) (vs : List Nat) (σ : L2.St) (H1 : Hp) (D : Addr) (Qd : Hp → Prop) : Prop :=
  ∃ U : Nat → Nat → Hp → Prop, (∃ k, U 0 k (upd H1 D (.lst []))) ∧ ∀ n k h, U n k h → (I.stop n h ∧ Qd h) ∨ (I.go n h ∧ ∃ Z : Hp → Prop, (∀ h', Z h' → ∃ k', k' < k ∧ U (n + 1) k' h') ∧
    ∀ z h', I.yld n h z h' → gName j z (wipe σ vs) h' fun ρ h2 => wipe ρ vs = wipe σ vs ∧ tYes ρ h2 fun c h3 => if c = true then te ρ h3 fun y h4 => ∃ made, h4 D = some (.lst made) ∧ made.length < sizeLine ∧ Z (upd h4 D (.lst (made ++ [y]))) else Z h3)
theorem lc_rangeD {K : PySem.W.Frag} {lo : Int} {n j : Nat} {te : TE} {vs : List Nat} {σ : L2.St} {H1 : Hp} {D : Addr} {Qd : Hp → Prop} (G : Hp → Prop) (f : Nat → PyData → Prop) (hn : n ≤ 100000) (h0 : G (upd H1 D (.lst [])))
    (hw : ∀ v, wipe ((wipe σ vs).set j (some v)) vs = wipe σ vs)
    (hs : ∀ i H', i < n → Made K D f G i H' → ∀ Q : VK, (∀ y d H4, Stay K D H' H4 → noL d = true → Dp K H4 y d → f i d → (∀ acc, G (upd H4 D (.lst acc))) → Q y H4) → te ((wipe σ vs).set j (some (.int (lo + i)))) H' Q)
    (hd : ∀ H, Made K D f G n H → Qd H) :
    LcOf (Itr lo n) j te vs σ H1 D Qd := by
  refine lc_range (Made K D f G) (.start h0) (fun i H' hi m => ?_) hd
  refine ⟨hw _, ?_⟩
  show te _ H' _
  exact hs i H' hi m _ fun y d H4 s no hd hf g => m.next s no hd hf (by omega) g
/-- what a comprehension over anything says of a turn: for lists and tuples -/
theorem lc_tupD {K : PySem.W.Frag} {a : Addr} {xs : List V} {j : Nat} {te : TE} {vs : List Nat} {σ : L2.St} {H1 : Hp} {D : Addr} {Qd : Hp → Prop} (G : Hp → Prop) (f : Nat → PyData → Prop) (hn : xs.length ≤ 100000) (h0 : G (upd H1 D (.lst [])))
    (hl : ∀ H', G H' → SqT K H' a xs) (hw : ∀ v, wipe ((wipe σ vs).set j (some v)) vs = wipe σ vs)
    (hs : ∀ i x H', xs[i]? = some x → Made K D f G i H' → ∀ Q : VK, (∀ y d H4, Stay K D H' H4 → noL d = true → Dp K H4 y d → f i d → (∀ acc, G (upd H4 D (.lst acc))) → Q y H4) → te ((wipe σ vs).set j (some x)) H' Q)
    (hd : ∀ H, Made K D f G xs.length H → Qd H) :
    LcOf (Itt K a) j te vs σ H1 D Qd := by
  refine lc_tup (K := K) (a := a) (xs := xs) (Made K D f G) (.start h0) (fun i H' _ m => hl H' m.choose_spec.choose_spec.2.2.2.2.2) (fun i x H' hi m => ?_) hd
  refine ⟨hw _, ?_⟩
  show te _ H' _
  have l := (List.getElem?_eq_some_iff.mp hi).1
  exact hs i x H' hi m _ fun y d H4 s no hd hf g => m.next s no hd hf (by omega) g
theorem lc_listD {K : PySem.W.Frag} {a : Addr} {xs : List V} {j : Nat} {te : TE} {vs : List Nat} {σ : L2.St} {H1 : Hp} {D : Addr} {Qd : Hp → Prop} (G : Hp → Prop) (f : Nat → PyData → Prop) (hn : xs.length ≤ 100000) (h0 : G (upd H1 D (.lst [])))
    (hl : ∀ H', G H' → SqL K H' a xs) (hw : ∀ v, wipe ((wipe σ vs).set j (some v)) vs = wipe σ vs)
    (hs : ∀ i x H', xs[i]? = some x → Made K D f G i H' → ∀ Q : VK, (∀ y d H4, Stay K D H' H4 → noL d = true → Dp K H4 y d → f i d → (∀ acc, G (upd H4 D (.lst acc))) → Q y H4) → te ((wipe σ vs).set j (some x)) H' Q)
    (hd : ∀ H, Made K D f G xs.length H → Qd H) :
    LcOf (Itl K a) j te vs σ H1 D Qd := by
  refine lc_list (K := K) (a := a) (xs := xs) (Made K D f G) (.start h0) (fun i H' _ m => hl H' m.choose_spec.choose_spec.2.2.2.2.2) (fun i x H' hi m => ?_) hd
  refine ⟨hw _, ?_⟩
  show te _ H' _
  have l := (List.getElem?_eq_some_iff.mp hi).1
  exact hs i x H' hi m _ fun y d H4 s no hd hf g => m.next s no hd hf (by omega) g
/-- the data of a made list as a function of the place -/
theorem made_eq {ds : List PyData} {n : Nat} {g : Nat → PyData} (hl : ds.length = n) (h : ∀ k d, ds[k]? = some d → d = g k) : ds = (List.range n).map g := by
  refine List.ext_getElem (by rw [hl, List.length_map, List.length_range]) fun i h1 h2 => ?_
  rw [h i _ (List.getElem?_eq_getElem h1), List.getElem_map, List.getElem_range]
/-- some new data -/
def someD (K : PySem.W.Frag) (d : PyData) (H : Hp) (Q : VK) : Prop := ∀ (a : Addr) (H' : Hp), Same H H' → Dp K H' (.ref a) d → Q (.ref a) H'
/-- o[i] of a list, at a place counted from the left, by values -/
def rGetN (K : PySem.W.Frag) : V → V → Hp → VK → Prop := fun x y H Q => ∃ (p : Addr) (xs : List V) (j : Nat) (v : V), x = .ref p ∧ y = .int (j : Int) ∧ SqL K H p xs ∧ xs[j]? = some v ∧ Q v H
theorem get_list {X : Cx} : PGet X (rGetN X.K) := by
  intro pins s σ H o i ov iv Q I ro ri h
  obtain ⟨p, xs, j, v, rfl, rfl, hq, he, q⟩ := h
  cases ro
  obtain ⟨t, rfl⟩ := ri
  obtain ⟨its, r, pl, hz⟩ := I.list hq
  obtain ⟨w, ew, rw'⟩ := r.get he
  have hl := (List.getElem?_eq_some_iff.mp he).1
  have hn := line63
  exact wpAny_getItem_list pl.isList (by omega) (by omega) (by simpa using ew) ⟨v, H, I, rw', q⟩
end Vx

namespace Vx
open PySem PySem.Spec PyProof.Rows L2
/-! rows and matrices that are written by rules -/
def fnRow (n : Nat) (f : Nat → Int) : List Int := (List.range n).map f
def fnMx (n : Nat) (f : Fm) : Mx := (List.range n).map fun i => fnRow n (f i)
theorem fnRow_get {n j : Nat} {f : Nat → Int} (h : j < n) : (fnRow n f)[j]? = some (f j) := by
  unfold fnRow
  rw [List.getElem?_map, List.getElem?_range h]
  rfl
theorem fnRow_len (n : Nat) (f : Nat → Int) : (fnRow n f).length = n := by unfold fnRow; rw [List.length_map, List.length_range]
theorem fnMx_sq (n : Nat) (f : Fm) : Sq n (fnMx n f) := by
  constructor
  · unfold fnMx
    rw [List.length_map, List.length_range]
  · intro r hr
    unfold fnMx at hr
    obtain ⟨i, _, rfl⟩ := List.mem_map.mp hr
    exact fnRow_len _ _
theorem fnMx_ent {n : Nat} (f : Fm) {i j : Nat} (hi : i < n) (hj : j < n) : ent (fnMx n f) i j = f i j := by
  unfold ent fnMx
  rw [List.getD_eq_getElem?_getD, List.getD_eq_getElem?_getD, List.getElem?_map, List.getElem?_range hi]
  show (fnRow n (f i))[j]?.getD 0 = f i j
  rw [fnRow_get hj]
  rfl
/-- a matrix from its rows -/
theorem mx_rows {n : Nat} {M : Mx} (h : M.length = n) (f : Fm) (k : ∀ i r, M[i]? = some r → r = fnRow n (f i)) : M = fnMx n f := by
  show M = (List.range n).map fun i => fnRow n (f i)
  refine List.ext_getElem (by rw [h, List.length_map, List.length_range]) fun i h1 h2 => ?_
  rw [k i _ (List.getElem?_eq_getElem h1), List.getElem_map, List.getElem_range]
/-- a row of a unitriangular matrix of residues -/
def UtRow (q : Int) (n i : Nat) (r : List Int) : Prop := r.length = n ∧ (∀ j, j < i → r[j]? = some 0) ∧ r[i]? = some 1 ∧ ∀ (j : Nat) (x : Int), r[j]? = some x → 0 ≤ x ∧ x < q
structure UT (q : Int) (n : Nat) (M : Mx) : Prop where
  s : Sq n M
  r : Rs q n M
  u : Ut n (ent M)
theorem ut_rows {q : Int} {n : Nat} {M : Mx} (h : M.length = n) (k : ∀ i r, M[i]? = some r → UtRow q n i r) : UT q n M := by
  have row : ∀ i, i < n → ∃ r, M[i]? = some r ∧ UtRow q n i r := fun i hi => ⟨M[i], List.getElem?_eq_getElem (by omega), k i _ (List.getElem?_eq_getElem (by omega))⟩
  have en : ∀ i j, i < n → j < n → ∃ x, ent M i j = x ∧ ∃ r, UtRow q n i r ∧ r[j]? = some x := fun i j hi hj => by
    obtain ⟨r, e, u⟩ := row i hi
    have hl := u.1
    refine ⟨r[j], ?_, r, u, List.getElem?_eq_getElem (by omega)⟩
    unfold ent
    rw [List.getD_eq_getElem?_getD, List.getD_eq_getElem?_getD, e, Option.getD_some, List.getElem?_eq_getElem (by omega)]
    rfl
  refine ⟨⟨h, fun r hr => ?_⟩, fun i j hi hj => ?_, fun i j hi hj => ⟨fun l => ?_, fun l => ?_⟩⟩
  · obtain ⟨i, hi, rfl⟩ := List.mem_iff_getElem.mp hr
    exact (k i _ (List.getElem?_eq_getElem hi)).1
  · obtain ⟨x, e, r, u, ex⟩ := en i j hi hj
    rw [e]
    exact u.2.2.2 j x ex
  · obtain ⟨x, e, r, u, ex⟩ := en i j hi hj
    rw [u.2.1 j l] at ex
    rw [e]
    exact (Option.some.inj ex).symm
  · obtain ⟨x, e, r, u, ex⟩ := en i j hi hj
    rw [l, u.2.2.1] at ex
    rw [e]
    exact (Option.some.inj ex).symm
/-- zeros, a one, residues -/
theorem ut_row_of {q : Int} {n i : Nat} {rest : List Int} (hq : 1 < q) (hi : i < n) (hl : rest.length = n - (i + 1)) (hr : ∀ x ∈ rest, 0 ≤ x ∧ x < q) : UtRow q n i (List.replicate i 0 ++ [1] ++ rest) := by
  have l1 : (List.replicate i (0 : Int)).length = i := List.length_replicate
  have l2 : (List.replicate i (0 : Int) ++ [1]).length = i + 1 := by rw [List.length_append, l1]; rfl
  refine ⟨by rw [List.length_append, l2, hl]; omega, fun j hj => ?_, ?_, fun j x h => ?_⟩
  · rw [List.getElem?_append_left (by omega), List.getElem?_append_left (by omega), List.getElem?_replicate, if_pos hj]
  · rw [List.getElem?_append_left (by omega), List.getElem?_append_right (by omega), l1, Nat.sub_self]
    try rfl
  · have m := List.mem_of_getElem? h
    rcases List.mem_append.mp m with m | m
    · rcases List.mem_append.mp m with m | m
      · rw [List.eq_of_mem_replicate m]; omega
      · rw [List.mem_singleton.mp m]; omega
    · exact hr x m
/-- the inverse, as its properties say it -/
structure InvOf (q : Int) (n : Nat) (A : Fm) (B : Mx) : Prop where
  u : UT q n B
  r : RI q n A (ent B)
theorem InvOf.left {q : Int} {n : Nat} {A : Fm} {B : Mx} (h : InvOf q n A B) : RI q n (ent B) A := ut_left h.u.u h.r
theorem InvOf.unique {q : Int} {n : Nat} {A : Fm} {B C : Mx} (h : InvOf q n A B) (k : InvOf q n A C) : B = C :=
  mx_ext h.u.s k.u.s fun i j hi hj => ((h.r.unique k.r h.left) i j hi hj).eq (h.u.r i j hi hj).1 (h.u.r i j hi hj).2 (k.u.r i j hi hj).1 (k.u.r i j hi hj).2
/-- the product's matrix -/
def prod (q : Int) (n : Nat) (A B : Fm) : Mx := fnMx n fun i j => mm n A B i j % q
theorem prod_one {q : Int} {n : Nat} {A B : Fm} (hq : 1 < q) (h : RI q n A B) : prod q n A B = fnMx n dl := by
  refine mx_ext (fnMx_sq _ _) (fnMx_sq _ _) fun i j hi hj => ?_
  unfold prod
  rw [fnMx_ent _ hi hj, fnMx_ent _ hi hj]
  have e : mm n A B i j % q = dl i j % q := h i j hi hj
  rw [e]
  show (if i = j then (1 : Int) else 0) % q = if i = j then 1 else 0
  split
  · exact Int.emod_eq_of_lt (by omega) hq
  · exact Int.emod_eq_of_lt (by omega) (by omega)
/-- rows that stand in a list make a matrix's data -/
theorem rows_data {K : PySem.W.Frag} {H : Hp} {n : Nat} {xs : List V} {B : Fm} (hl : xs.length = n) (h : ∀ k, k < n → ∃ t : Addr, xs[k]? = some (.ref t) ∧ SqT K H t ((fnRow n (B k)).map V.int)) : DpAll K H xs ((fnMx n B).map rowD) := by
  refine dpAll_of (by rw [hl, List.length_map, (fnMx_sq n B).h]) fun i d hd => ?_
  have hi : i < n := by
    have := (List.getElem?_eq_some_iff.mp hd).1
    rwa [List.length_map, (fnMx_sq n B).h] at this
  obtain ⟨t, e, k⟩ := h i hi
  refine ⟨.ref t, e, ?_⟩
  rw [List.getElem?_map, show (fnMx n B)[i]? = some (fnRow n (B i)) by unfold fnMx; rw [List.getElem?_map, List.getElem?_range hi]; rfl] at hd
  obtain rfl : rowD (fnRow n (B i)) = d := Option.some.inj hd
  exact dp_row k
theorem fnMx_ents {n : Nat} {M : Mx} (h : Sq n M) : M = fnMx n (ent M) := mx_ext h (fnMx_sq _ _) fun i j hi hj => (fnMx_ent _ hi hj).symm
theorem row_ents {n : Nat} {M : Mx} (h : Sq n M) {i : Nat} (hi : i < n) : M[i]? = some (fnRow n (ent M i)) := by
  have e := fnMx_ents h
  have : (fnMx n (ent M))[i]? = some (fnRow n (ent M i)) := by unfold fnMx; rw [List.getElem?_map, List.getElem?_range hi]; rfl
  rw [← e] at this
  exact this
end Vx

namespace Vx
open PySem PySem.Spec PyProof.Rows L2
/-! enumerate over a tuple -/
theorem meets_enum1 {v : Value} {o : Obj} {H : Heap → Prop} (B : Begins v o H) :
    Meets (Builtin.«enumerate.__new__» ⟨[.type "enumerate", v], []⟩) (fun _ R s => H s.heap ∧
      R (.ok (.ret (.ref (s.heap.push o).objs.size))) { s with heap := (s.heap.push o).push { cls := .type "enumerate", data := .fields #[.none, .bool false, .ref s.heap.objs.size, rawInt 0, .none, .none] } }) := by
  refine .of_wp fun prog w A R s h => ?_
  obtain ⟨hp, g, d, tk, os⟩ := s
  obtain ⟨h1, h⟩ := h
  have isE := sub_enumerate
  have it : ∀ {A' : Around} {E : Value → Shared → Prop} {Q : Value → Shared → Prop}, Q (.ref hp.objs.size) ⟨hp.push o, g, d, tk, os⟩ → wpAny (model prog w) A' (pyIter v) Q E ⟨hp, g, d, tk, os⟩ := fun q => B.iter prog w _ _ ⟨hp, g, d, tk, os⟩ _ h1 q
  wp_walk using it
  refine wpAny_stack_any fun st => wpAny_pure ?_
  split
  · rename_i c _ _ _ _ _
    cases (c == Value.type "enumerate") <;> (wp_walk using it; exact ⟨_, rfl, h⟩)
  · wp_walk using it
    exact ⟨_, rfl, h⟩
theorem enum_of {prog : Program} {w : World} {A : Around} {E : Value → Shared → Prop} {s : Shared} {v : Value} {o : Obj} {H : Heap → Prop} {Q : Value → Shared → Prop} (B : Begins v o H) (h1 : H s.heap)
    (h : ∀ h', IsEnum h' (s.heap.objs.size + 1) s.heap.objs.size 0 .none → h'.get? s.heap.objs.size = some o → (∀ b u, s.heap.get? b = some u → h'.get? b = some u) → Q (.ref (s.heap.objs.size + 1)) { s with heap := h' }) :
    wpAny (model prog w) A (call (.type "enumerate") [v]) Q E s := by
  refine callType_new F.called_enumerate (by decide) (F.typeCall_enumerate_1 _) (F.newCall_enumerate_1 _) (fun obj => F.args_object_init_2 obj _) F.entry_enumerate_new (meets_enum1 B) ⟨h1, ?_⟩
  have z1 : (s.heap.push o).objs.size = s.heap.objs.size + 1 := Heap.size_push ..
  show _ ∧ _
  rw [z1]
  have en : IsEnum ((s.heap.push o).push { cls := .type "enumerate", data := .fields #[.none, .bool false, .ref s.heap.objs.size, rawInt 0, .none, .none] }) (s.heap.objs.size + 1) s.heap.objs.size 0 .none := by
    have := Heap.get?_push_size (s.heap.push o) (o := { cls := .type "enumerate", data := .fields #[.none, .bool false, .ref s.heap.objs.size, rawInt 0, .none, .none] }) rfl
    rwa [z1] at this
  exact ⟨⟨_, en, rfl⟩, h _ en (Heap.get?_push_of_some _ (Heap.get?_push_size _ B.free)) fun b u x => Heap.get?_push_of_some _ (Heap.get?_push_of_some _ x)⟩
/-- the tuple at a, each item in a new pair with its place -/
def IteT (K : PySem.W.Frag) (a : Addr) : It :=
  ⟨fun i H => ∃ (xs : List V) (x : V), SqT K H a xs ∧ xs[i]? = some x, fun i H v H' => ∃ T x, v = .ref T ∧ H T = none ∧ H' = upd H T (.tup [.int (i : Nat), x]) ∧ ∀ xs, SqT K H a xs → xs[i]? = some x, fun i H => ∃ xs : List V, SqT K H a xs ∧ xs.length = i⟩
theorem turn_enumT {P : Program} {w : World} {K : PySem.W.Frag} {elts : List Expr} {kk : Nat} {tpos : Pos} (a e it : Addr) (na : a ≠ it) :
    Turn P w K (.Tuple elts kk tpos) (IteT K a) [e, it] e (fun i h => (∃ old, IsEnum h e it ((i : Nat) : Int) old) ∧ h.IsTupleIter it a i ∧ e ≠ it ∧ e ≠ a) where
  mem := List.mem_cons_self
  obj := fun i h st b hb => by
    obtain ⟨⟨old, he⟩, ⟨o, ho, _, hd⟩, _⟩ := st
    rcases List.mem_cons.mp hb with rfl | hb
    · exact ⟨_, he, fun v q => nomatch q⟩
    · obtain rfl := List.mem_singleton.mp hb
      exact ⟨o, ho, fun v q => by rw [hd] at q; cases q⟩
  keep := fun i h h' st k => by
    obtain ⟨⟨old, he⟩, hi, hne⟩ := st
    exact ⟨⟨old, k e List.mem_cons_self _ he⟩, hi.at fun o q => k it (by simp) o q, hne⟩
  item := by
    intro X hP hw hK hc i pins s σ H E I hf st hg
    subst hP hw hK
    obtain ⟨⟨old, he⟩, hit, hne, hna⟩ := st
    obtain ⟨xs, x, hq, hx⟩ := hg
    obtain ⟨its, rv, p, _⟩ := I.tuple hq
    obtain ⟨u, hu, ru⟩ := rv.get hx
    have hel : e < s.heap.objs.size := Heap.lt_size he
    have hil : it < s.heap.objs.size := by
      obtain ⟨_, q, _⟩ := hit
      exact Heap.lt_size q
    have D := Draws.tuple (prog := X.prog) (w := X.w) (A := X.A.in1) (by show X.A.handled = none; exact I.ok.hd hc) it a na its.toArray
    have hlt : i < its.toArray.size := by
      have := (List.getElem?_eq_some_iff.mp hu).1
      rwa [List.size_toArray]
    refine wpAny_pyNext_enum_itemD D he ⟨hit, p⟩ hlt hne (by simp; exact ⟨hne, hna⟩) ?_
    rintro x' h' tk hx' ho ⟨hit', _⟩ hT hsz hk
    obtain rfl : u = x' := by
      rw [show its.toArray[i]? = some u by simpa using hu] at hx'
      exact Option.some.inj hx'
    refine ⟨_, rfl, wpAny_letOwnedTupleGo_enum (s := { s with heap := h', toks := tk + 1 }) ho fun h'' he' sb => ?_⟩
    have hT2 := (sb.2 _ (Nat.ne_of_gt hel)).trans hT
    have new : ObjOk X.prog X.w (upd H s.heap.objs.size (.tup [.int (i : Nat), x])) h'' s.heap.objs.size (.tup [.int (i : Nat), x]) :=
      ⟨by show 2 ≤ sizeLine; decide, [.int i tk, u], .cons ⟨_, rfl⟩ (.cons ru .nil), ⟨_, hT2, rfl, _, rfl⟩⟩
    have other : ∀ b ob, b ∉ [e, it] → s.heap.get? b = some ob → h''.get? b = some ob := fun b ob hb q => by
      have n1 : b ≠ e := fun z => hb (by simp [z])
      have n2 : b ≠ it := fun z => hb (by simp [z])
      exact (sb.2 b n1).trans (hk b ob n1 n2 q)
    have I1 : Inv X pins σ (upd H s.heap.objs.size (.tup [.int (i : Nat), x])) { s with heap := h'', toks := tk + 1 } := I.turnedNew (ch := [e, it]) other hf (Nat.le_refl _) new
    have fresh := I.hok.fresh (Nat.le_refl s.heap.objs.size)
    refine ⟨.ref s.heap.objs.size, _, I1, rfl, ⟨_, x, rfl, fresh, rfl, fun ys hy => by rw [I.tuple_inj hy hq]; exact hx⟩, ⟨⟨u, ?_⟩, hit'.at fun o q => (sb.2 it (Ne.symm hne)).trans q, hne, hna⟩, fun b hb => ?_⟩
    · rw [show ((i + 1 : Nat) : Int) = (i : Int) + 1 by omega]
      exact he'
    · have hb' : b < s.heap.objs.size := by
        rcases List.mem_cons.mp hb with rfl | hb
        · exact hel
        · obtain rfl := List.mem_singleton.mp hb
          exact hil
      rw [upd_ne (Nat.ne_of_lt hb')]
      exact (hf b hb).1
  done := by
    intro X hP hw hK hc i pins s σ H E I hf st hg
    subst hP hw hK
    obtain ⟨⟨old, he⟩, hit, hne, hna⟩ := st
    obtain ⟨xs, hq, hx⟩ := hg
    obtain ⟨its, rv, p, _⟩ := I.tuple hq
    obtain ⟨f0, f1, f2, f3, f4, f5⟩ := hf it (by simp)
    have hl := rv.length
    have st' : s.heap.IsTupleIter it a i := hit
    have hi : i = its.toArray.size := by rw [List.size_toArray, ← hl]; exact hx.symm
    subst hi
    have D := Draws.tuple (prog := X.prog) (w := X.w) (A := X.A.in1) (by show X.A.handled = none; exact I.ok.hd hc) it a na its.toArray
    exact wpAny_pyNext_enum_endD D he ⟨hit, p⟩ fun h' eb => ⟨rfl, I.turned (t' := s.toks) (fun b o hb q => eb b o hb q) f0 f1 f3 f4 f5⟩
  self := fun A i s Q E st h => by
    obtain ⟨⟨_, he⟩, _⟩ := st
    exact wpAny_pyIter_enum he h
def iEnumT (K : PySem.W.Frag) (ta : TA) : TI := fun σ H R => ta σ H fun vs H1 => ∃ a xs, vs = [.ref a] ∧ SqT K H1 a xs ∧ R (IteT K a) H1
theorem pi_enumT {X : Cx} {e : Expr} {ta : TA} {p pos tpos : Pos} {elts : List Expr} {kk : Nat} (hg : Gl X "enumerate") (hm : X.mg "enumerate" = none) (ha : PA X [e] ta) (hs : starEach [e] X.env = [(false, eval e X.env)] := by rfl) :
    PI X (.Tuple elts kk tpos) (.Call (.Name "enumerate" p) [e] [] pos) (iEnumT X.K ta) := by
  constructor
  intro pins s σ H R I h
  refine Call_ (ld_blt I hg hm boot_enumerate (PyProof.Rows.callWith_type1 (thn (ha.run pos pins s σ H _ I h) ?_) hs rfl))
  rintro us s1 ⟨vs, H1, I1, r1, a, xs, rfl, hq, q⟩
  obtain ⟨u, rfl, ru⟩ := vals1 r1
  obtain rfl : u = Value.ref a := ru
  obtain ⟨its, rv, p', _⟩ := I1.tuple hq
  have lt := p'.lt
  refine enum_of (begins_tuple a its.toArray) p' fun h' he hit hk => wpAny_pyIter_enum he ?_
  have I2 : Inv X pins σ H1 { s1 with heap := h' } := I1.kept (t' := s1.toks) hk
  have fp : ∀ b ∈ [s1.heap.objs.size + 1, s1.heap.objs.size], s1.heap.objs.size ≤ b := fun b hb => by
    rcases List.mem_cons.mp hb with rfl | hb
    · exact Nat.le_succ _
    · rw [List.mem_singleton.mp hb]
      exact Nat.le_refl _
  refine ⟨s1.heap.objs.size + 1, [s1.heap.objs.size + 1, s1.heap.objs.size], _, _, H1, rfl, I2, turn_enumT a (s1.heap.objs.size + 1) s1.heap.objs.size (Nat.ne_of_lt lt), ⟨⟨.none, he⟩, ⟨_, hit, rfl, rfl⟩, Nat.succ_ne_self _, Nat.ne_of_gt (Nat.lt_succ_of_lt lt)⟩, fun b hb => I1.fpOk (fp b hb) (I1.hok.fresh (fp b hb)), q⟩
/-- the turns of a for over an iterator J -/
def ForOf (J : It) (g : TG) (tb : TS) (D : Ends) (σ : L2.St) (H : Hp) : Prop :=
  ∃ U : Nat → Nat → L2.St → Hp → Prop, (∃ k, U 0 k σ H) ∧ ∀ n k ρ h, U n k ρ h → (J.stop n h ∧ D.nx ρ h) ∨ (J.go n h ∧ ∃ Z : L2.St → Hp → Prop, (∀ ρ' h', Z ρ' h' → ∃ k', k' < k ∧ U (n + 1) k' ρ' h') ∧
    ∀ z h', J.yld n h z h' → g z ρ h' fun ρ2 h2 => tb { D with nx := Z, ct := Z, bk := D.nx } ρ2 h2)
theorem for_enumT {K : PySem.W.Frag} {a : Addr} {xs : List V} {g : TG} {tb : TS} {D : Ends} {σ : L2.St} {H : Hp} (Pv : Nat → L2.St → Hp → Prop) (h0 : Pv 0 σ H) (hl : ∀ i ρ h, i ≤ xs.length → Pv i ρ h → SqT K h a xs)
    (hs : ∀ i x T ρ h, xs[i]? = some x → Pv i ρ h → h T = none → g (.ref T) ρ (upd h T (.tup [.int (i : Nat), x])) fun ρ2 h2 => tb { D with nx := Pv (i + 1), ct := Pv (i + 1), bk := D.nx } ρ2 h2) (hd : ∀ ρ h, Pv xs.length ρ h → D.nx ρ h) : ForOf (IteT K a) g tb D σ H := by
  refine ⟨fun i m ρ h => m = xs.length - i ∧ i ≤ xs.length ∧ Pv i ρ h, ⟨_, rfl, Nat.zero_le _, h0⟩, ?_⟩
  rintro i m ρ h ⟨rfl, hi, p⟩
  have q := hl i ρ h hi p
  by_cases l : i < xs.length
  · refine .inr ⟨⟨xs, xs[i], q, by simp [l]⟩, Pv (i + 1), fun ρ' h' p' => ⟨xs.length - (i + 1), by omega, rfl, l, p'⟩, ?_⟩
    rintro z h' ⟨T, x, rfl, hT, rfl, hx⟩
    exact hs i x T ρ h (hx xs q) p hT
  · obtain rfl : i = xs.length := by omega
    exact .inl ⟨⟨xs, q, rfl⟩, hd ρ h p⟩
/-! the rules that read the written part, for a comprehension's block: K said -/
section
variable {X : Cx} (K : PySem.W.Frag)
theorem op_repSK (h : X.K = K := by rfl) : OpR X (binaryOp .Mult) (rRepS K) := h ▸ op_repS
theorem op_catSK (h : X.K = K := by rfl) : OpR X (binaryOp .Add) (rCatS K) := h ▸ op_catS
theorem sl_tupSK (h : X.K = K := by rfl) : SlR X (rSlS K) := h ▸ sl_tupS
theorem sl_listK (h : X.K = K := by rfl) : SlR X (rSlL K) := h ▸ sl_list
theorem ix_listK (h : X.K = K := by rfl) : IxR X (rIxL K) := h ▸ ix_list
theorem ix_tupK (h : X.K = K := by rfl) : IxR X (rIxT K) := h ▸ ix_tup
def rLen (K : PySem.W.Frag) : List V → Hp → VK → Prop := fun xs H Q => ∃ p ys, xs = [.ref p] ∧ (SqL K H p ys ∨ SqT K H p ys) ∧ Q (.int ys.length) H
theorem call_len_seqK (h : X.K = K := by rfl) : CallR X (.builtin "len") (rLen K) := h ▸ call_len_seq
def rTupOf (K : PySem.W.Frag) : List V → Hp → VK → Prop := fun xs H Q => ∃ p ys, xs = [.ref p] ∧ ((SqL K H p ys ∧ ∀ l, H l = none → Q (.ref l) (upd H l (.tup ys))) ∨ (SqT K H p ys ∧ Q (.ref p) H))
theorem call_tuple_ofK (h : X.K = K := by rfl) : CallR X (.type "tuple") (rTupOf K) := h ▸ call_tuple_of
def rListOf (K : PySem.W.Frag) : List V → Hp → VK → Prop := fun xs H Q => ∃ p ys, xs = [.ref p] ∧ (SqL K H p ys ∨ SqT K H p ys) ∧ ∀ l, H l = none → Q (.ref l) (upd H l (.lst ys))
theorem call_list_ofK (h : X.K = K := by rfl) : CallR X (.type "list") (rListOf K) := h ▸ call_list_of
theorem cr_sumK (hc : X.calm = true) (h : X.K = K := by rfl) : CallR X (.builtin "sum") (rSum K) := h ▸ cr_sum hc
theorem op_eqDK (hu : X.A.units + 64 < cLine) (h : X.K = K := by rfl) : OpR X (compareOp .Eq) (rEqD K) := h ▸ op_eqD hu
theorem op_neDK (hu : X.A.units + 64 < cLine) (h : X.K = K := by rfl) : OpR X (compareOp .NotEq) (rNeD K) := h ▸ op_neD hu
end
theorem ty_tup {K : PySem.W.Frag} {H : Hp} {a : Addr} {xs : List V} (h : SqT K H a xs) : TyX K H (.ref a) (.type "tuple") := by
  rcases h with (h | ⟨o, h⟩) | ⟨o, vs, n, hk, hc, _⟩
  · exact .base (.tup h)
  · exact .fTuple h
  · exact .kTuple hk hc
theorem cutV_take (xs : List V) (k : Nat) : cutV xs none (some (k : Int)) = xs.take k := by
  unfold cutV
  rw [HT.sIx_none, HT.sIx_nat, List.drop_zero, Nat.sub_zero]
  by_cases h : k ≤ xs.length
  · rw [Nat.min_eq_left h]
  · rw [Nat.min_eq_right (by omega), List.take_length, List.take_of_length_le (by omega)]
theorem ne_same {d : PyData} {A B : Prop} (h : SeqAt.shaped d = true) (k : B) : if (!PyData.eqv d d) = true then A else B := by
  rw [eqv_same h]
  exact iteF k
theorem ut_take {q : Int} {n i : Nat} {r : List Int} (h : UtRow q n i r) (hi : i < n) : r.take (i + 1) = List.replicate i 0 ++ [1] := by
  obtain ⟨hl, h0, h1, _⟩ := h
  refine List.ext_getElem? fun k => ?_
  have l1 : (List.replicate i (0 : Int)).length = i := List.length_replicate
  by_cases a : k < i
  · rw [List.getElem?_take_of_lt (by omega), h0 k a, List.getElem?_append_left (by omega), List.getElem?_replicate, if_pos a]
  · by_cases b : k = i
    · subst b
      rw [List.getElem?_take_of_lt (by omega), h1, List.getElem?_append_right (by omega), l1, Nat.sub_self]
      rfl
    · rw [List.getElem?_eq_none (by rw [List.length_take]; omega), List.getElem?_eq_none (by rw [List.length_append, l1]; simp; omega)]
theorem ut_row {q : Int} {n : Nat} {M : Mx} (u : UT q n M) {i : Nat} {r : List Int} (hi : i < n) (hr : M[i]? = some r) : UtRow q n i r := by
  obtain ⟨r', e, l, g⟩ := row_get u.s hi
  obtain rfl : r = r' := by rw [e] at hr; exact (Option.some.inj hr).symm
  refine ⟨l, fun j hj => ?_, ?_, fun j x hx => ?_⟩
  · rw [g j (by omega), (u.u i j hi (by omega)).1 hj]
  · rw [g i hi, (u.u i i hi hi).2 rfl]
  · have hj : j < n := by have := (List.getElem?_eq_some_iff.mp hx).1; omega
    rw [g j hj] at hx
    obtain rfl := Option.some.inj hx
    exact u.r i j hi hj
end Vx

namespace Vx
open PySem PySem.Spec PyProof.Rows L2
theorem zt (vs : List Value) : checkTypeCall "zip" ⟨vs, []⟩ = pure () := by kernel_rfl
theorem zo (obj : Value) (vs : List Value) : argsOk "object.__init__" ⟨obj :: vs, []⟩ := by unfold argsOk; kernel_rfl
theorem zn : ∀ (vs : List Value), vs.length ≤ 8 → checkBuiltinCall "zip.__new__" ⟨.type "zip" :: vs, []⟩ = pure ()
  | [], _ => by kernel_rfl
  | [_], _ => by kernel_rfl
  | [_, _], _ => by kernel_rfl
  | [_, _, _], _ => by kernel_rfl
  | [_, _, _, _], _ => by kernel_rfl
  | [_, _, _, _, _], _ => by kernel_rfl
  | [_, _, _, _, _, _], _ => by kernel_rfl
  | [_, _, _, _, _, _, _], _ => by kernel_rfl
  | [_, _, _, _, _, _, _, _], _ => by kernel_rfl
  | _ :: _ :: _ :: _ :: _ :: _ :: _ :: _ :: _ :: _, h => absurd h (by simp)
section
variable {prog : Program} {w : World} {A : Around} {E : Value → Shared → Prop} {s : Shared}
/-- a loop in the machine's own monad, by a word of the turn -/
theorem forIn_by {α β : Type} {M : Model} {A : Around} {E : Value → Shared → Prop} {body : α → β → Sem (ForInStep β)} {Q : β → Shared → Prop} (J : Nat → β → Shared → Prop) : ∀ (l : List α) (k : Nat) (b : β) (s : Shared), J k b s →
    (∀ (j : Nat) (x : α) (b : β) (s : Shared), l[j]? = some x → J (k + j) b s → wpAny M A (body x b) (fun r s' => ∃ b', r = .yield b' ∧ J (k + j + 1) b' s') E s) → (∀ b s, J (k + l.length) b s → Q b s) → wpAny M A (forIn l b body) Q E s
  | [], k, b, s, h, _, hq => by
    rw [List.forIn_nil]
    exact wpAny_pure (hq b s h)
  | x :: l, k, b, s, h, hs, hq => by
    rw [List.forIn_cons]
    refine wpAny_bind (thn (hs 0 x b s rfl h) ?_)
    rintro r s' ⟨b', rfl, h'⟩
    refine forIn_by J l (k + 1) b' s' h' (fun j y c t e g => ?_) (fun c t g => ?_)
    · rw [show k + 1 + j = k + (j + 1) by omega] at g
      rw [show k + 1 + j + 1 = k + (j + 1) + 1 by omega]
      exact hs (j + 1) y c t (by simpa using e) g
    · rw [show k + 1 + l.length = k + (x :: l).length by rw [List.length_cons]; omega] at g
      exact hq c t g
theorem iterAll_tups {ts : List Addr} {items : Nat → Array Value} {Q : List Value → Shared → Prop} (ht : ∀ k t, ts[k]? = some t → s.heap.IsTuple t (items k))
    (h : ∀ h' : Heap, h'.objs.size = s.heap.objs.size + ts.length → (∀ b o, s.heap.get? b = some o → h'.get? b = some o) → (∀ k t, ts[k]? = some t → h'.IsTupleIter (s.heap.objs.size + k) t 0) →
      Q ((List.range ts.length).map fun k => .ref (s.heap.objs.size + k)) { s with heap := h' }) :
    wpAny (model prog w) A (Builtin.SmallTypes.iterAll (ts.map Value.ref)) Q E s := by
  unfold Builtin.SmallTypes.iterAll
  refine wpAny_bind ?_
  refine forIn_by (fun k b s' => b = ((List.range k).map fun k => Value.ref (s.heap.objs.size + k)).toArray ∧ ∃ h', s' = { s with heap := h' } ∧ h'.objs.size = s.heap.objs.size + k ∧ (∀ b o, s.heap.get? b = some o → h'.get? b = some o) ∧ ∀ j t, j < k → ts[j]? = some t → h'.IsTupleIter (s.heap.objs.size + j) t 0) _ 0 _ s ⟨rfl, s.heap, rfl, rfl, fun _ _ e => e, fun j t hj => absurd hj (by omega)⟩ ?_ ?_
  · rintro j x b s' hx ⟨rfl, h', rfl, hz, hk, hi⟩
    rw [Nat.zero_add] at *
    obtain ⟨t, et, rfl⟩ : ∃ t, ts[j]? = some t ∧ x = Value.ref t := by
      rw [List.getElem?_map] at hx
      cases e : ts[j]? with
      | none => rw [e] at hx; cases hx
      | some t => rw [e] at hx; exact ⟨t, rfl, (Option.some.inj hx).symm⟩
    refine wpAny_bind (wpAny_holding (wpAny_pyIter_tuple (s := { s with heap := h' }) ((ht j t et).at fun o e => hk t o e) ?_))
    refine wpAny_pure ⟨_, rfl, ?_, _, rfl, by rw [Heap.size_push, hz]; omega, fun b o e => Heap.get?_push_of_some _ (hk b o e), fun j' t' hj' e' => ?_⟩
    · show Array.push _ (Value.ref h'.objs.size) = _
      rw [hz, List.range_succ, List.map_append]
      simp
    · by_cases c : j' = j
      · subst c
        obtain rfl : t = t' := by rw [et] at e'; exact Option.some.inj e'
        rw [← hz]
        exact ⟨_, Heap.get?_push_size _ rfl, rfl, rfl⟩
      · exact (hi j' t' (by omega) e').at fun o e => Heap.get?_push_of_some _ e
  · rintro b s' ⟨rfl, h', rfl, hz, hk, hi⟩
    rw [Nat.zero_add, List.length_map] at *
    exact wpAny_pure (h h' hz hk fun k t e => hi k t (List.getElem?_eq_some_iff.mp e).1 e)
end
theorem ane {a b : Addr} (h : Nat.lt a b ∨ Nat.lt b a) : a ≠ b := fun e => by
  subst e
  rcases h with h | h <;> exact absurd h (Nat.lt_irrefl _)
/-- the iterators' places -/
def itv (N n : Nat) : List Value := (List.range n).map fun k => Value.ref (N + k)
abbrev tupObj (vs : List Value) : Obj := { cls := .type "tuple", data := .seq vs.toArray }
abbrev zipObj (f0 : Value) (b : Bool) (TI TO : Addr) : Obj := { cls := .type "zip", dict := none, data := .fields #[f0, .bool b, .bool false, .ref TI, .ref TO], slots := #[] }
abbrev zipHeap (h : Heap) (vs : List Value) : Heap := ((h.push (tupObj vs)).push (tupObj (vs.map fun _ => Value.none))).push (zipObj .none false h.objs.size (h.objs.size + 1))
theorem meets_zip (ts : List Addr) (items : Nat → Array Value) (hts : ts.length ≤ sizeLine) :
    Meets (Builtin.«zip.__new__» ⟨.type "zip" :: ts.map Value.ref, []⟩) (fun _ R s => (∀ k t, ts[k]? = some t → s.heap.IsTuple t (items k)) ∧
      ∀ h' : Heap, h'.objs.size = s.heap.objs.size + ts.length → (∀ b o, s.heap.get? b = some o → h'.get? b = some o) → (∀ k t, ts[k]? = some t → h'.IsTupleIter (s.heap.objs.size + k) t 0) →
        R (.ok (.ret (.ref (h'.objs.size + 2)))) { s with heap := zipHeap h' (itv s.heap.objs.size ts.length) }) := by
  refine .of_wp fun prog w A R s h => ?_
  obtain ⟨hp, g, d, tk, os⟩ := s
  obtain ⟨h1, h⟩ := h
  have isZ := sub_zip
  have it : ∀ {A' : Around} {E : Value → Shared → Prop} {Q : List Value → Shared → Prop}, (∀ h' : Heap, h'.objs.size = hp.objs.size + ts.length → (∀ b o, hp.get? b = some o → h'.get? b = some o) → (∀ k t, ts[k]? = some t → h'.IsTupleIter (hp.objs.size + k) t 0) →
      Q (itv hp.objs.size ts.length) ⟨h', g, d, tk, os⟩) → wpAny (model prog w) A' (Builtin.SmallTypes.iterAll (ts.map Value.ref)) Q E ⟨hp, g, d, tk, os⟩ := fun q => iterAll_tups (s := ⟨hp, g, d, tk, os⟩) h1 q
  wp_walk using it
  intro h' hz hk hi
  have len : (itv hp.objs.size ts.length).length = ts.length := by unfold itv; rw [List.length_map, List.length_range]
  refine wpAny_bind (wpAny_newTuple (s := ⟨h', g, d, tk, os⟩) (hsz := by rw [len]; exact hts) ?_)
  refine wpAny_bind (wpAny_newTuple (s := ⟨h'.push _, g, d, tk, os⟩) (hsz := by rw [List.length_map, len]; exact hts) ?_)
  wp_walk
  have e := h h' hz hk hi
  refine ⟨_, rfl, ?_⟩
  simp only [Heap.size_push]
  exact e
section
variable {prog : Program} {w : World} {A : Around} {E : Value → Shared → Prop} {s : Shared} {N n m : Nat} {t : Nat → Addr} {items : Nat → Array Value}
/-- n iterators over tuples of m items stand at N .. and at their place i; their tuple at N + n -/
structure ZSt (N n m : Nat) (t : Nat → Addr) (items : Nat → Array Value) (h : Heap) : Prop where
  TI : h.get? (N + n) = some (tupObj (itv N n))
  tup : ∀ k, k < n → h.IsTuple (t k) (items k)
  low : ∀ k, k < n → t k < N
  sz : ∀ k, k < n → (items k).size = m
/-- the first c of them have been drawn from -/
def Drawn (N n : Nat) (t : Nat → Addr) (i c : Nat) (h : Heap) : Prop := ∀ k, k < n → h.IsTupleIter (N + k) (t k) (if k < c then i + 1 else i)
def col (items : Nat → Array Value) (n i : Nat) : List Value := (List.range n).map fun k => ((items k)[i]?).getD .none
theorem ZSt.other {h h' : Heap} (Z : ZSt N n m t items h) {x : Addr} (sb : Heap.SameBut x h h') (h1 : x ≠ N + n) (h2 : N ≤ x) : ZSt N n m t items h' :=
  ⟨(sb.2 _ (Ne.symm h1)).trans Z.TI, fun k hk => (Z.tup k hk).extBut sb.extBut (fun e => by have := Z.low k hk; rw [e] at this; exact absurd h2 (Nat.not_le.mpr this)), Z.low, Z.sz⟩
theorem itv_get {k : Nat} (h : k < n) : (itv N n)[k]? = some (Value.ref (N + k)) := by
  unfold itv
  rw [List.getElem?_map, List.getElem?_range h]
  rfl
theorem zip_held {z TO T : Addr} {f : Bool} {oT : Obj} {i : Nat} {Q : Value → Shared → Prop} (Z : ZSt N n m t items s.heap) (D : Drawn N n t i 0 s.heap) (hz : s.heap.get? z = some (zipObj (rawInt T) f (N + n) TO)) (hT : s.heap.get? T = some oT) (z1 : N + n < z) (hn : 0 < n) (hn8 : n ≤ 8) (hi : i < m)
    (hQ : ∀ h' : Heap, ZSt N n m t items h' → Drawn N n t (i + 1) 0 h' → h'.get? z = some (zipObj (rawInt T) true (N + n) TO) → h'.get? s.heap.objs.size = some (tupObj (col items n i)) →
      (∀ b o, b ≠ z → (b < N ∨ N + n ≤ b) → s.heap.get? b = some o → h'.get? b = some o) → s.heap.objs.size < h'.objs.size → Q (.ref s.heap.objs.size) { s with heap := h' }) :
    wpAny (model prog w) A (Builtin.«zip.__next__» ⟨[.ref z], []⟩) (fun fin s' => ∃ v, fin = .done (.ret v) ∧ Q v s') E s := by
  show wpAny _ _ (field (.ref z) 2 >>= _) _ _ _
  refine wpAny_bind (wpAny_field hz rfl (x := .bool false) rfl ?_)
  show wpAny _ _ (field (.ref z) 3 >>= _) _ _ _
  refine wpAny_bind (wpAny_field hz rfl (x := .ref (N + n)) rfl (wpAny_bind (wpAny_seqItems Z.TI rfl ?_)))
  have ne : (itv N n).toArray.isEmpty = false := by
    have : (itv N n).length = n := by unfold itv; rw [List.length_map, List.length_range]
    cases e : itv N n with
    | nil => rw [e] at this; simp at this; omega
    | cons a b => rfl
  simp only [ne, Bool.false_eq_true, if_false]
  refine wpAny_bind (wpAny_tupleHeld_zip hz hT fun h1 hz1 hs1 => ?_)
  simp only [Bool.false_eq_true, if_false]
  refine wpAny_bind ?_
  rw [← Array.forIn_toList]
  refine forIn_by (fun c b s' => b = (none, ((List.range c).map fun k => ((items k)[i]?).getD .none).toArray) ∧ ∃ h' : Heap, s' = { s with heap := h' } ∧ h'.objs.size = s.heap.objs.size ∧ ZSt N n m t items h' ∧ Drawn N n t i c h' ∧ h'.get? z = some (zipObj (rawInt T) true (N + n) TO) ∧ ∀ b o, b ≠ z → (b < N ∨ N + n ≤ b) → s.heap.get? b = some o → h'.get? b = some o) _ 0 _ _ ?_ ?_ ?_
  · refine ⟨rfl, h1, rfl, hs1.1, Z.other hs1 (ane (.inr z1)) (by omega), fun k hk => ?_, hz1, fun b o hb _ e => hs1.extBut b o hb e⟩
    exact (D k hk).extBut hs1.extBut (ane (.inl (by show N + k < z; omega)))
  · rintro c x b s' hx ⟨rfl, h2, rfl, sz2, Z2, D2, hz2, k2⟩
    rw [Nat.zero_add] at *
    have hc : c < n := by
      have := (List.getElem?_eq_some_iff.mp hx).1
      simpa [itv] using this
    rw [show (itv N n).toArray.toList = itv N n from rfl, itv_get hc] at hx
    obtain rfl := Option.some.inj hx
    refine wpAny_bind (wpAny_holding ?_)
    show wpAny _ _ (Builtin.SmallTypes.nextOf (.ref (N + c)) >>= _) _ _ _
    have hit := D2 c hc
    rw [if_neg (by omega)] at hit
    have hlt : i < (items c).size := by rw [Z2.sz c hc]; exact hi
    refine wpAny_bind (wpAny_nextOf_tuple_item (s := { s with heap := h2 }) hit (Z2.tup c hc) (Array.getElem?_eq_getElem hlt) fun h3 hit3 hs3 => wpAny_pure (wpAny_pure ?_))
    replace hs3 : Heap.SameBut (N + c) h2 h3 := hs3
    refine ⟨_, rfl, ?_, h3, rfl, hs3.1.trans sz2, Z2.other hs3 (ane (.inl (by show N + c < N + n; omega))) (by omega), fun k hk => ?_, hs3.extBut _ _ (ane (.inr (by show N + c < z; omega))) hz2, fun b o hb hb2 e => hs3.extBut b o (ane (hb2.imp (fun h => Nat.lt_of_lt_of_le h (Nat.le_add_right N c)) fun h => Nat.lt_of_lt_of_le (Nat.add_lt_add_left hc N) h)) (k2 b o hb hb2 e)⟩
    · rw [List.range_succ, List.map_append]
      simp [Array.getElem?_eq_getElem hlt]
    · by_cases e : k = c
      · subst e
        rw [if_pos (by omega)]
        exact hit3
      · have := D2 k hk
        have q := this.extBut hs3.extBut (fun z => e (Nat.add_left_cancel z))
        by_cases l : k < c
        · rw [if_pos (by omega)]; rwa [if_pos l] at q
        · rw [if_neg (by omega)]; rwa [if_neg l] at q
  · rintro b s' ⟨rfl, h2, rfl, sz2, Z2, D2, hz2, k2⟩
    have len : (itv N n).toArray.toList.length = n := by simp [itv]
    rw [Nat.zero_add, len] at D2
    rw [Nat.zero_add, len]
    have sz : (col items n i).length = n := by unfold col; rw [List.length_map, List.length_range]
    show wpAny _ _ (newTuple (col items n i) >>= _) _ _ _
    refine wpAny_bind (wpAny_newTuple (s := { s with heap := h2 }) (hsz := by rw [sz]; exact Nat.le_trans hn8 (by decide)) ?_)
    refine wpAny_pure ⟨_, rfl, ?_⟩
    show Q (.ref h2.objs.size) _
    rw [sz2]
    have up : ∀ b o, h2.get? b = some o → (h2.push (tupObj (col items n i))).get? b = some o := fun b o e => Heap.get?_push_of_some _ e
    refine hQ _ ⟨up _ _ Z2.TI, fun k hk => (Z2.tup k hk).at fun o e => up _ o e, Z2.low, Z2.sz⟩ (fun k hk => ?_) (up _ _ hz2) ?_ (fun b o hb hb2 e => up _ _ (k2 b o hb hb2 e)) (by rw [Heap.size_push, sz2]; exact Nat.lt_succ_self _)
    · have := (D2 k hk).at fun o e => up _ o e
      rw [if_pos hk] at this
      rw [if_neg (by omega)]
      exact this
    · rw [← sz2]
      exact Heap.get?_push_size _ rfl
theorem zip_first {z TO : Addr} {vs : List Value} {Q : Value → Shared → Prop} (Z : ZSt N n m t items s.heap) (D : Drawn N n t 0 0 s.heap) (hz : s.heap.get? z = some (zipObj .none false (N + n) TO)) (hTO : s.heap.get? TO = some (tupObj vs)) (hvs : vs.length = n) (z1 : N + n < z) (t1 : N + n < TO) (zt : z ≠ TO) (hn : 0 < n) (hn8 : n ≤ 8) (hi : 0 < m)
    (hQ : ∀ h' : Heap, ZSt N n m t items h' → Drawn N n t 1 0 h' → h'.get? z = some (zipObj (rawInt s.heap.objs.size) false (N + n) TO) → h'.get? s.heap.objs.size = some (tupObj (col items n 0)) →
      (∀ b o, b ≠ z → b ≠ TO → (b < N ∨ N + n ≤ b) → s.heap.get? b = some o → h'.get? b = some o) → s.heap.objs.size < h'.objs.size → Q (.ref s.heap.objs.size) { s with heap := h' }) :
    wpAny (model prog w) A (Builtin.«zip.__next__» ⟨[.ref z], []⟩) (fun fin s' => ∃ v, fin = .done (.ret v) ∧ Q v s') E s := by
  show wpAny _ _ (field (.ref z) 2 >>= _) _ _ _
  refine wpAny_bind (wpAny_field hz rfl (x := .bool false) rfl ?_)
  show wpAny _ _ (field (.ref z) 3 >>= _) _ _ _
  refine wpAny_bind (wpAny_field hz rfl (x := .ref (N + n)) rfl (wpAny_bind (wpAny_seqItems Z.TI rfl ?_)))
  have ne : (itv N n).toArray.isEmpty = false := by
    have : (itv N n).length = n := by unfold itv; rw [List.length_map, List.length_range]
    cases e : itv N n with
    | nil => rw [e] at this; simp at this; omega
    | cons a b => rfl
  simp only [ne, Bool.false_eq_true, if_false]
  refine wpAny_bind ?_
  unfold Builtin.SmallTypes.ownedTupleIsFree
  refine wpAny_bind (wpAny_field hz rfl (x := .none) rfl (wpAny_pure ?_))
  simp only [if_true]
  refine wpAny_bind (wpAny_rule ?_)
  refine wpAny_bind (wpAny_field hz rfl (x := .ref TO) rfl ?_)
  refine wpAny_bind (wpAny_setField_rec hz (by simp) fun g0 hz0 hs0 => ?_)
  replace hz0 : g0.get? z = some (zipObj .ellipsis false (N + n) TO) := hz0
  refine wpAny_bind ?_
  refine forIn_by (fun c b s' => b = (none, ()) ∧ ∃ (h' : Heap) (arr : Array Value), s' = { s with heap := h' } ∧ h'.objs.size = s.heap.objs.size ∧ ZSt N n m t items h' ∧ Drawn N n t 0 c h' ∧ h'.get? z = some (zipObj .ellipsis false (N + n) TO) ∧
    h'.get? TO = some { cls := .type "tuple", data := .seq arr } ∧ arr.size = n ∧ (∀ k, k < c → arr[k]? = some (((items k)[0]?).getD .none)) ∧ ∀ b o, b ≠ z → b ≠ TO → (b < N ∨ N + n ≤ b) → s.heap.get? b = some o → h'.get? b = some o) _ 0 _ _ ?_ ?_ ?_
  · refine ⟨rfl, g0, _, rfl, hs0.1, Z.other hs0 (ane (.inr z1)) (by omega), fun k hk => ?_, hz0, hs0.extBut _ _ (Ne.symm zt) hTO, by rw [List.size_toArray]; exact hvs, fun k hk => absurd hk (by omega), fun b o hb _ _ e => hs0.extBut b o hb e⟩
    exact (D k hk).extBut hs0.extBut (ane (.inl (by show N + k < z; omega)))
  · rintro c x b s' hx ⟨rfl, h2, arr, rfl, sz2, Z2, D2, hz2, hT2, asz, av, k2⟩
    rw [Nat.zero_add] at *
    rw [List.getElem?_zipIdx] at hx
    have hc : c < n := by
      rw [Option.map_eq_some_iff] at hx
      obtain ⟨_, hx, _⟩ := hx
      have := (List.getElem?_eq_some_iff.mp hx).1
      simpa [itv] using this
    rw [itv_get hc, Option.map_some] at hx
    obtain rfl := Option.some.inj hx
    simp only [Nat.zero_add]
    refine wpAny_bind (wpAny_onRaise ?_)
    show wpAny _ _ (Builtin.SmallTypes.nextOf (.ref (N + c)) >>= _) _ _ _
    have hit := D2 c hc
    rw [if_neg (by omega)] at hit
    have hlt : 0 < (items c).size := by rw [Z2.sz c hc]; exact hi
    refine wpAny_bind (wpAny_nextOf_tuple_item (s := { s with heap := h2 }) hit (Z2.tup c hc) (Array.getElem?_eq_getElem hlt) fun h3 hit3 hs3 => wpAny_pure ?_)
    replace hs3 : Heap.SameBut (N + c) h2 h3 := hs3
    have hT3 : h3.get? TO = some { cls := .type "tuple", data := .seq arr } := hs3.extBut _ _ (ane (.inr (by show N + c < TO; omega))) hT2
    refine wpAny_bind (wpAny_seqItems (s := { s with heap := h3 }) hT3 rfl ?_)
    refine wpAny_bind (wpAny_updateSeq (s := { s with heap := h3 }) hT3 rfl ?_ (by rw [asz]; exact Nat.le_trans hn8 (by decide)) (by rw [Array.size_setIfInBounds, asz]; exact Nat.le_trans hn8 (by decide)))
    refine wpAny_bind (wpAny_letGo (wpAny_pure ⟨_, rfl, rfl, _, arr.setIfInBounds c ((items c)[0]), rfl, ?_⟩))
    generalize hh4 : h3.update TO (Obj.mapSeq fun x_1 => x_1.setIfInBounds c ((items c)[0])) = h4
    have hs4 : Heap.SameBut TO h3 h4 := by rw [← hh4]; exact Heap.SameBut.update ..
    have hT4 : h4.get? TO = some { cls := .type "tuple", data := .seq (arr.setIfInBounds c ((items c)[0])) } := by
      rw [← hh4, Heap.get?_update_self _ hT3 rfl]
      simp [Obj.mapSeq]
    refine ⟨(hs4.1.trans hs3.1).trans sz2, (Z2.other hs3 (ane (.inl (by show N + c < N + n; omega))) (by omega)).other hs4 (ane (.inr t1)) (by omega), fun k hk => ?_, hs4.extBut _ _ zt (hs3.extBut _ _ (ane (.inr (by show N + c < z; omega))) hz2), hT4, by rw [Array.size_setIfInBounds, asz], fun k hk => ?_, fun b o hb hb2 hb3 e => hs4.extBut b o hb2 (hs3.extBut b o (ane (hb3.imp (fun h => Nat.lt_of_lt_of_le h (Nat.le_add_right N c)) fun h => Nat.lt_of_lt_of_le (Nat.add_lt_add_left hc N) h)) (k2 b o hb hb2 hb3 e))⟩
    · have nT : N + k ≠ TO := ane (.inl (by show N + k < TO; omega))
      by_cases e : k = c
      · subst e
        rw [if_pos (by omega)]
        exact hit3.extBut hs4.extBut nT
      · have q := ((D2 k hk).extBut hs3.extBut (fun z => e (Nat.add_left_cancel z))).extBut hs4.extBut nT
        by_cases l : k < c
        · rw [if_pos (by omega)]; rwa [if_pos l] at q
        · rw [if_neg (by omega)]; rwa [if_neg l] at q
    · by_cases e : k = c
      · subst e
        rw [Array.getElem?_setIfInBounds_self, if_pos (by omega), Array.getElem?_eq_getElem hlt]
        rfl
      · rw [Array.getElem?_setIfInBounds_ne (Ne.symm e)]
        exact av k (by omega)
  · rintro b s' ⟨rfl, h2, arr, rfl, sz2, Z2, D2, hz2, hT2, asz, av, k2⟩
    have len : (itv N n).toArray.toList.zipIdx.length = n := by simp [itv]
    rw [Nat.zero_add, len] at D2
    have sz : (col items n 0).length = n := by unfold col; rw [List.length_map, List.length_range]
    have ea : arr.toList = col items n 0 := by
      refine List.ext_getElem? fun k => ?_
      by_cases hk : k < n
      · rw [Array.getElem?_toList, av k (by rw [Nat.zero_add, len]; exact hk), col, List.getElem?_map, List.getElem?_range hk]
        rfl
      · rw [List.getElem?_eq_none (by rw [Array.length_toList, asz]; omega), List.getElem?_eq_none (by rw [sz]; omega)]
    refine wpAny_bind (wpAny_seqItems (s := { s with heap := h2 }) hT2 rfl ?_)
    show wpAny _ _ (newTuple arr.toList >>= _) _ _ _
    rw [ea]
    refine wpAny_bind (wpAny_newTuple (s := { s with heap := h2 }) (hsz := by rw [sz]; exact Nat.le_trans hn8 (by decide)) ?_)
    have up : ∀ b o, h2.get? b = some o → (h2.push (tupObj (col items n 0))).get? b = some o := fun b o e => Heap.get?_push_of_some _ e
    refine wpAny_bind ?_
    show wpAny _ _ (Builtin.SmallTypes.ownedTupleHandOut (.ref z) (.ref h2.objs.size)) _ _ ⟨h2.push (tupObj (col items n 0)), _, _, _, _⟩
    unfold Builtin.SmallTypes.ownedTupleHandOut
    have hz4 : (h2.push (tupObj (col items n 0))).get? z = some (zipObj .ellipsis false (N + n) TO) := up _ _ hz2
    refine wpAny_bind (wpAny_setField_rec hz4 (by simp) fun h5 hz5 hs5 => ?_)
    replace hz5 : h5.get? z = some (zipObj (rawInt h2.objs.size) false (N + n) TO) := hz5
    replace hs5 : Heap.SameBut z (h2.push (tupObj (col items n 0))) h5 := hs5
    refine wpAny_setField_rec hz5 (by simp) fun h6 hz6 hs6 => ?_
    replace hz6 : h6.get? z = some (zipObj (rawInt h2.objs.size) false (N + n) TO) := hz6
    replace hs6 : Heap.SameBut z h5 h6 := hs6
    have zlt : z < h2.objs.size := Heap.lt_size hz2
    have up6 : ∀ b o, b ≠ z → h2.get? b = some o → h6.get? b = some o := fun b o hb e => hs6.extBut b o hb (hs5.extBut b o hb (up b o e))
    refine wpAny_pure ⟨_, rfl, ?_⟩
    show Q (.ref h2.objs.size) _
    have new : h6.get? h2.objs.size = some (tupObj (col items n 0)) := hs6.extBut _ _ (Nat.ne_of_gt zlt) (hs5.extBut _ _ (Nat.ne_of_gt zlt) (Heap.get?_push_size _ rfl))
    rw [sz2] at hz6 new ⊢
    refine hQ h6 ⟨up6 _ _ (ane (.inl z1)) Z2.TI, fun k hk => (Z2.tup k hk).at fun o e => up6 _ o (ane (.inl (Nat.lt_of_lt_of_le (Z2.low k hk) (by omega)))) e, Z2.low, Z2.sz⟩ (fun k hk => ?_) hz6 new (fun b o hb hb2 hb3 e => up6 b o hb (k2 b o hb hb2 hb3 e)) (by rw [hs6.1, hs5.1, Heap.size_push, sz2]; exact Nat.lt_succ_self _)
    have := (D2 k hk).at fun o e => up6 _ o (ane (.inl (by show N + k < z; omega))) e
    rw [if_pos hk] at this
    rw [if_neg (by omega)]
    exact this
theorem zip_end {z TO T : Addr} {f : Bool} {oT : Obj} {Q : Fin → Shared → Prop} (hh : A.handled = none) (Z : ZSt N n m t items s.heap) (D : Drawn N n t m 0 s.heap) (hz : s.heap.get? z = some (zipObj (rawInt T) f (N + n) TO)) (hT : s.heap.get? T = some oT) (z1 : N + n < z) (hn : 0 < n)
    (hE : ∀ h' e, (∀ b o, b ≠ z → (b < N ∨ N + n ≤ b) → s.heap.get? b = some o → h'.get? b = some o) → (∃ o, h'.get? e = some o ∧ o.cls = .type "StopIteration") → E (.ref e) { s with heap := h' }) :
    wpAny (model prog w) A (Builtin.«zip.__next__» ⟨[.ref z], []⟩) Q E s := by
  show wpAny _ _ (field (.ref z) 2 >>= _) _ _ _
  refine wpAny_bind (wpAny_field hz rfl (x := .bool false) rfl ?_)
  show wpAny _ _ (field (.ref z) 3 >>= _) _ _ _
  refine wpAny_bind (wpAny_field hz rfl (x := .ref (N + n)) rfl (wpAny_bind (wpAny_seqItems Z.TI rfl ?_)))
  obtain ⟨c, rfl⟩ : ∃ c, n = c + 1 := ⟨n - 1, by omega⟩
  have e0 : itv N (c + 1) = Value.ref N :: (List.range c).map (fun k => Value.ref (N + (k + 1))) := by
    unfold itv
    rw [List.range_succ_eq_map, List.map_cons, List.map_map]
    rfl
  have ne : (itv N (c + 1)).toArray.isEmpty = false := by rw [e0]; rfl
  simp only [ne, Bool.false_eq_true, if_false]
  refine wpAny_bind (wpAny_tupleHeld_zip hz hT fun h1 hz1 hs1 => ?_)
  simp only [Bool.false_eq_true, if_false]
  refine wpAny_bind ?_
  rw [← Array.forIn_toList, show (itv N (c + 1)).toArray.toList = itv N (c + 1) from rfl, e0, List.forIn_cons]
  refine wpAny_bind (wpAny_bind (wpAny_holding ?_))
  show wpAny _ _ (Builtin.SmallTypes.nextOf (.ref N) >>= _) _ _ _
  have hit := (D 0 hn).extBut hs1.extBut (ane (.inl (by show N + 0 < z; omega)))
  rw [if_neg (by omega)] at hit
  have tup := (Z.tup 0 hn).extBut hs1.extBut (ane (.inl (Nat.lt_of_lt_of_le (Z.low 0 hn) (by omega))))
  refine wpAny_bind (wpAny_nextOf_tuple_end (s := { s with heap := h1 }) hh hit tup (Array.getElem?_eq_none (by rw [Z.sz 0 hn]; exact Nat.le_refl _)) fun h2 e hs2 he => ?_)
  exact hE h2 e (fun b o hb hb2 q => hs2 b o (ane (hb2.imp (fun h => h) fun h => Nat.lt_of_lt_of_le (by omega) h)) (hs1.extBut b o hb q)) he
theorem zip_no_len : typeLookup (.type "zip") "__len__" = pure none := by
  rw [typeLookup_type, builtinLookup_eq_fast]; kernel_rfl
theorem zip_no_hint : typeLookup (.type "zip") "__length_hint__" = pure none := by
  rw [typeLookup_type, builtinLookup_eq_fast]; kernel_rfl
/-- i columns stand in the list at S -/
structure Fill (N n m : Nat) (t : Nat → Addr) (items : Nat → Array Value) (h0 : Heap) (i : Nat) (h : Heap) (acc : Array Value) : Prop where
  Z : ZSt N n m t items h
  D : Drawn N n t i 0 h
  zf : (i = 0 ∧ h.get? (N + n + 2) = some (zipObj .none false (N + n) (N + n + 1)) ∧ ∃ vs : List Value, h.get? (N + n + 1) = some (tupObj vs) ∧ vs.length = n) ∨ (0 < i ∧ ∃ (T : Addr) (f : Bool), acc[0]? = some (.ref T) ∧ h.get? (N + n + 2) = some (zipObj (rawInt T) f (N + n) (N + n + 1)))
  ac : acc.size = i
  made : ∀ j, j < i → ∃ T : Addr, acc[j]? = some (.ref T) ∧ N + n + 3 < T ∧ h.get? T = some (tupObj (col items n j))
  keep : ∀ b o, b < N → h0.get? b = some o → h.get? b = some o
  inj : ∀ (i j : Nat) (T : Addr), acc[i]? = some (.ref T) → acc[j]? = some (.ref T) → i = j
theorem fill_step {h0 : Heap} {i : Nat} {acc : Array Value} {Q : Option Value → Shared → Prop} (Fi : Fill N n m t items h0 i s.heap acc) (hn : 0 < n) (hn8 : n ≤ 8) (hi : i < m) (hsz : N + n + 3 < s.heap.objs.size)
    (hQ : ∀ (h' : Heap) (T : Addr), Fill N n m t items h0 (i + 1) h' (acc.push (.ref T)) → (∀ o, s.heap.get? (N + n + 3) = some o → h'.get? (N + n + 3) = some o) → s.heap.objs.size < h'.objs.size → Q (some (.ref T)) { s with heap := h' }) :
    wpAny (model prog w) A (pyNext (.ref (N + n + 2))) Q E s := by
  have nw : s.heap.get? s.heap.objs.size = none := Heap.get?_none_of_le (Nat.le_refl _)
  have old : ∀ (h' : Heap), (∀ b o, b ≠ N + n + 2 → b ≠ N + n + 1 → (b < N ∨ N + n ≤ b) → s.heap.get? b = some o → h'.get? b = some o) → h'.get? s.heap.objs.size = some (tupObj (col items n i)) →
      (∀ j, j < i + 1 → ∃ T : Addr, (acc.push (Value.ref s.heap.objs.size))[j]? = some (.ref T) ∧ N + n + 3 < T ∧ h'.get? T = some (tupObj (col items n j))) ∧ (∀ b o, b < N → h0.get? b = some o → h'.get? b = some o) ∧ ∀ o, s.heap.get? (N + n + 3) = some o → h'.get? (N + n + 3) = some o := by
    intro h' k new
    refine ⟨fun j hj => ?_, fun b o hb e => k b o (ane (.inl (by show b < N + n + 2; exact Nat.lt_of_lt_of_le hb (by omega)))) (ane (.inl (Nat.lt_of_lt_of_le hb (by omega)))) (.inl hb) (Fi.keep b o hb e), fun o e => k _ o (ane (.inr (Nat.lt_succ_self _))) (ane (.inr (by show N + n + 1 < N + n + 3; omega))) (.inr (by omega)) e⟩
    by_cases c : j = i
    · subst c
      refine ⟨s.heap.objs.size, ?_, hsz, new⟩
      rw [Array.getElem?_push, Fi.ac, if_pos rfl]
    · obtain ⟨T, e1, e2, e3⟩ := Fi.made j (by omega)
      refine ⟨T, ?_, e2, k T _ (ane (.inr (Nat.lt_trans (Nat.lt_succ_self _) e2))) (ane (.inr (Nat.lt_trans (by show N + n + 1 < N + n + 3; omega) e2))) (.inr (Nat.le_of_lt (Nat.lt_of_le_of_lt (by omega) e2))) e3⟩
      rw [Array.getElem?_push, Fi.ac, if_neg c]
      exact e1
  have inj : ∀ (a b : Nat) (T : Addr), (acc.push (Value.ref s.heap.objs.size))[a]? = some (.ref T) → (acc.push (Value.ref s.heap.objs.size))[b]? = some (.ref T) → a = b := by
    have low : ∀ (a : Nat) (T : Addr), acc[a]? = some (.ref T) → T < s.heap.objs.size := by
      intro a T e
      obtain ⟨T', e', _, g⟩ := Fi.made a (by rw [← Fi.ac]; exact (Array.getElem?_eq_some_iff.mp e).1)
      rw [e] at e'; cases e'
      exact Heap.lt_size g
    intro a b T ha hb
    rw [Array.getElem?_push] at ha hb
    by_cases ca : a = acc.size
    · by_cases cb : b = acc.size
      · rw [ca, cb]
      · rw [if_pos ca] at ha; rw [if_neg cb] at hb
        cases ha
        exact absurd (low _ _ hb) (Nat.lt_irrefl _)
    · rw [if_neg ca] at ha
      by_cases cb : b = acc.size
      · rw [if_pos cb] at hb
        cases hb
        exact absurd (low _ _ ha) (Nat.lt_irrefl _)
      · rw [if_neg cb] at hb
        exact Fi.inj a b T ha hb
  have go : ∀ (f0 : Value) (b0 : Bool) (hz : s.heap.get? (N + n + 2) = some (zipObj f0 b0 (N + n) (N + n + 1))), (∀ E' : Value → Shared → Prop, wpAny (model prog w) A.in1 (Builtin.«zip.__next__» ⟨[.ref (N + n + 2)], []⟩) (fun fin s' => ∃ v, fin = .done (.ret v) ∧ Q (some v) s') E' s) → wpAny (model prog w) A (pyNext (.ref (N + n + 2))) Q E s := by
    intro f0 b0 hz hw
    have hTy : s.TypeIs (.ref (N + n + 2)) "zip" := ⟨_, hz, rfl⟩
    unfold pyNext
    refine wpAny_bind (wpAny_attempt (wpAny_callSpecial?_slot (name := Str.ofString "__next__") hTy F.slot_zip_next (wpAny_call_entry F.slot_zip_next hTy F.entry_zip_next ?_ (F.args_zip_next_1 _))))
    refine thn (hw _) ?_
    rintro fin' s' ⟨v, e, q⟩
    exact ⟨v, e, wpAny_pure q⟩
  rcases Fi.zf with ⟨i0, hz, vs, hT, hv⟩ | ⟨i0, T, f, e1, hz⟩
  · subst i0
    refine go _ _ hz fun E' => (zip_first Fi.Z Fi.D hz hT hv (by show N + n < N + n + 2; omega) (by show N + n < N + n + 1; omega) (ane (.inr (Nat.lt_succ_self _))) hn hn8 hi ?_)
    intro h' Z' D' z' new k sz
    obtain ⟨m1, m2, m3⟩ := old h' k new
    refine hQ h' _ ⟨Z', D', .inr ⟨by omega, _, _, ?_, z'⟩, by rw [Array.size_push, Fi.ac], m1, m2, inj⟩ m3 sz
    rw [Array.getElem?_push, Fi.ac, if_pos (by omega)]
  · obtain ⟨T', e2, e3, e4⟩ := Fi.made 0 i0
    obtain rfl : T = T' := by rw [e1] at e2; cases e2; rfl
    refine go _ _ hz fun E' => (zip_held Fi.Z Fi.D hz e4 (by show N + n < N + n + 2; omega) hn hn8 hi ?_)
    intro h' Z' D' z' new k sz
    obtain ⟨m1, m2, m3⟩ := old h' (fun b o b1 _ b3 => k b o b1 b3) new
    refine hQ h' _ ⟨Z', D', .inr ⟨by omega, T, _, ?_, z'⟩, by rw [Array.size_push, Fi.ac], m1, m2, inj⟩ m3 sz
    rw [Array.getElem?_push, Fi.ac, if_neg (by omega)]
    exact e1
/-- list(zip(..)) fills its list -/
theorem zip_loop {h0 : Heap} {R : Result → Shared → Prop} {res : Value} (hh : A.handled = none) (hn : 0 < n) (hn8 : n ≤ 8) (hm : 0 < m) (hm2 : m ≤ 1000) : ∀ (k i : Nat) (s : Shared) (acc : Array Value) (c : Nat), m - i = k → i ≤ m → Fill N n m t items h0 i s.heap acc → N + n + 3 < s.heap.objs.size →
    s.heap.get? (N + n + 3) = some { cls := .type "list", dict := none, data := .seq acc c, slots := #[] } →
    (∀ (h' : Heap) (acc' : Array Value) (c' : Nat), (∀ b o, b < N → h0.get? b = some o → h'.get? b = some o) → h'.get? (N + n + 3) = some { cls := .type "list", dict := none, data := .seq acc' c', slots := #[] } → acc'.size = m →
      (∀ j, j < m → ∃ T : Addr, acc'[j]? = some (.ref T) ∧ N + n + 3 < T ∧ h'.get? T = some (tupObj (col items n j))) → (∀ (i j : Nat) (T : Addr), acc'[i]? = some (.ref T) → acc'[j]? = some (.ref T) → i = j) → R (.ok (.ret res)) { s with heap := h' }) →
    codeAny (model prog w) A (.builtin "list.extend.loop" ⟨[.ref (N + n + 3), .ref (N + n + 2), res], []⟩) R s := by
  intro k
  induction k with
  | zero =>
    intro i s acc c hk hi Fi sz hS hR
    obtain rfl : i = m := by omega
    refine codeAny_builtin F.entry_extend_loop ?_
    rw [Around.under_plainId F.plain_extend_loop _]
    show wpAny _ A.in1 (pyNext (.ref (N + n + 2)) >>= _) _ _ s
    refine wpAny_bind ?_
    rcases Fi.zf with ⟨i0, _⟩ | ⟨i0, T, f, e1, hz⟩
    · omega
    obtain ⟨T', e2, e3, e4⟩ := Fi.made 0 i0
    obtain rfl : T = T' := by rw [e1] at e2; cases e2; rfl
    have hTy : s.TypeIs (.ref (N + n + 2)) "zip" := ⟨_, hz, rfl⟩
    unfold pyNext
    refine wpAny_bind (wpAny_attempt (wpAny_callSpecial?_slot (name := Str.ofString "__next__") hTy F.slot_zip_next (wpAny_call_entry F.slot_zip_next hTy F.entry_zip_next
      (zip_end hh Fi.Z Fi.D hz e4 (by show N + n < N + n + 2; omega) hn fun h' e ks he => ?_) (F.args_zip_next_1 _))))
    obtain ⟨o, ho, hc⟩ := he
    refine wpAny_bind (wpAny_isInstance (T := "StopIteration") (b := true) ⟨o, ho, hc⟩ isSubtype_stop ?_)
    refine wpAny_pure (wpAny_pure (hR h' acc c (fun b o hb q => ks b o (ane (.inl (Nat.lt_of_lt_of_le hb (by omega)))) (.inl hb) (Fi.keep b o hb q)) (ks _ _ (ane (.inr (Nat.lt_succ_self _))) (.inr (by omega)) hS) Fi.ac (fun j hj => ?_) Fi.inj))
    obtain ⟨T2, q1, q2, q3⟩ := Fi.made j hj
    exact ⟨T2, q1, q2, ks T2 _ (ane (.inr (Nat.lt_trans (Nat.lt_succ_self _) q2))) (.inr (Nat.le_of_lt (Nat.lt_of_le_of_lt (by omega) q2))) q3⟩
  | succ k ih =>
    intro i s acc c hk hi Fi sz hS hR
    refine codeAny_builtin F.entry_extend_loop ?_
    rw [Around.under_plainId F.plain_extend_loop _]
    show wpAny _ A.in1 (pyNext (.ref (N + n + 2)) >>= _) _ _ s
    refine wpAny_bind (fill_step Fi hn hn8 (by omega) sz fun h' T Fi' kS sz' => ?_)
    have hS' := kS _ hS
    show wpAny _ A.in1 (updateSeq (N + n + 3) (·.push (Value.ref T)) >>= _) _ _ _
    refine wpAny_bind (wpAny_updateSeq (s := { s with heap := h' }) hS' rfl (wpAny_pure ⟨plainId_quiet F.plain_extend_loop _, ?_⟩) (by rw [Fi.ac]; exact Nat.le_of_lt (small1000 (by omega))) (by show (acc.push _).size ≤ _; rw [Array.size_push, Fi.ac]; exact Nat.succ_le_succ (Nat.le_of_lt (small1000 (by omega)))))
    generalize hh5 : h'.update (N + n + 3) (Obj.mapSeq fun x => x.push (Value.ref T)) = h5
    have up : ∀ b o, b ≠ N + n + 3 → h'.get? b = some o → h5.get? b = some o := fun b o hb e => by rw [← hh5]; exact (Heap.get?_update_other _ _ (Ne.symm hb)).trans e
    have new : h5.get? (N + n + 3) = some { cls := .type "list", dict := none, data := .seq (acc.push (Value.ref T)) (c + 1), slots := #[] } := by
      rw [← hh5, Heap.get?_update_self _ hS' rfl]
      simp [Obj.mapSeq]
    have s5 : h5.objs.size = h'.objs.size := by rw [← hh5]; exact (Heap.SameBut.update ..).1
    have F5 : Fill N n m t items h0 (i + 1) h5 (acc.push (.ref T)) := by
      refine ⟨⟨up _ _ (ane (.inl (by show N + n < N + n + 3; omega))) Fi'.Z.TI, fun k hk => (Fi'.Z.tup k hk).at fun o e => up _ o (ane (.inl (Nat.lt_of_lt_of_le (Fi'.Z.low k hk) (by omega)))) e, Fi'.Z.low, Fi'.Z.sz⟩, fun k hk => (Fi'.D k hk).at fun o e => up _ o (ane (.inl (by show N + k < N + n + 3; omega))) e, ?_, Fi'.ac, fun j hj => ?_, fun b o hb e => up b o (ane (.inl (Nat.lt_of_lt_of_le hb (by omega)))) (Fi'.keep b o hb e), Fi'.inj⟩
      · rcases Fi'.zf with ⟨i0, _⟩ | ⟨i0, T1, f, e1, hz⟩
        · omega
        · exact .inr ⟨i0, T1, f, e1, up _ _ (ane (.inl (Nat.lt_succ_self _))) hz⟩
      · obtain ⟨T2, q1, q2, q3⟩ := Fi'.made j hj
        exact ⟨T2, q1, q2, up T2 _ (ane (.inr q2)) q3⟩
    exact ih (i + 1) { s with heap := h5 } (acc.push (.ref T)) (c + 1) (by omega) (by omega) F5 (by show N + n + 3 < h5.objs.size; rw [s5]; exact Nat.lt_trans sz sz') new hR
/-- list(z) of a zip that has just been made -/
theorem zip_init {R : Result → Shared → Prop} (hh : A.handled = none) (hn : 0 < n) (hn8 : n ≤ 8) (hm : 0 < m) (hm2 : m ≤ 1000) (Fi : Fill N n m t items s.heap 0 s.heap #[]) (sz : s.heap.objs.size = N + n + 4) (hS : s.heap.get? (N + n + 3) = some { cls := .type "list", data := .seq #[] })
    (hR : ∀ (h' : Heap) (acc' : Array Value) (c' : Nat), (∀ b o, b < N → s.heap.get? b = some o → h'.get? b = some o) → h'.get? (N + n + 3) = some { cls := .type "list", dict := none, data := .seq acc' c', slots := #[] } → acc'.size = m →
      (∀ j, j < m → ∃ T : Addr, acc'[j]? = some (.ref T) ∧ N + n + 3 < T ∧ h'.get? T = some (tupObj (col items n j))) → (∀ (i j : Nat) (T : Addr), acc'[i]? = some (.ref T) → acc'[j]? = some (.ref T) → i = j) → R (.ok (.ret .none)) { s with heap := h' }) :
    wpAny (model prog w) A.in1 (Builtin.«list.__init__» ⟨[.ref (N + n + 3), .ref (N + n + 2)], []⟩)
      (fun fin s' => match fin with | .done f => R (.ok f) s' | .again c' => c'.quiet = true ∧ codeAny (model prog w) A c' R s') (fun e s' => R (.error e) s') s := by
  rcases Fi.zf with ⟨_, hz, vs, hT, hv⟩ | ⟨i0, _⟩
  rotate_left
  · exact absurd i0 (Nat.lt_irrefl _)
  show wpAny _ A.in1 (Builtin.List.listItems (.ref (N + n + 3)) >>= fun old => Builtin.List.listUpdate (.ref (N + n + 3)) (fun _ => #[]) >>= fun _ => letGo old.toList.reverse >>= fun _ => Builtin.List.listExtendWith (.ref (N + n + 3)) (.ref (N + n + 2)) .none) _ _ s
  refine wpAny_bind ?_
  unfold Builtin.List.listItems
  refine wpAny_bind (wpAny_seqItems hS rfl (wpAny_pure ?_))
  show wpAny _ A.in1 (updateSeq (N + n + 3) (fun _ => #[]) >>= fun _ => letGo (#[] : Array Value).toList.reverse >>= fun _ => Builtin.List.listExtendWith (.ref (N + n + 3)) (.ref (N + n + 2)) .none) _ _ s
  -- every change of the list's own object keeps the rest
  have step : ∀ (g : Heap) (f : Array Value → Array Value) (xs : Array Value) (c : Nat), g.get? (N + n + 3) = some { cls := .type "list", dict := none, data := .seq xs c, slots := #[] } → ∃ g' c', g.update (N + n + 3) (Obj.mapSeq f) = g' ∧ g'.get? (N + n + 3) = some { cls := .type "list", dict := none, data := .seq (f xs) c', slots := #[] } ∧ g'.objs.size = g.objs.size ∧ ∀ b o, b ≠ N + n + 3 → g.get? b = some o → g'.get? b = some o := by
    intro g f xs c hg
    exact ⟨_, _, rfl, Heap.get?_update_self _ hg rfl, (Heap.SameBut.update ..).1, fun b o hb e => (Heap.get?_update_other _ _ (Ne.symm hb)).trans e⟩
  have carry : ∀ (g g' : Heap), g'.objs.size = g.objs.size → (∀ b o, b ≠ N + n + 3 → g.get? b = some o → g'.get? b = some o) → Fill N n m t items s.heap 0 g #[] → Fill N n m t items s.heap 0 g' #[] := by
    intro g g' _ up Fg
    refine ⟨⟨up _ _ (ane (.inl (by show N + n < N + n + 3; omega))) Fg.Z.TI, fun k hk => (Fg.Z.tup k hk).at fun o e => up _ o (ane (.inl (Nat.lt_of_lt_of_le (Fg.Z.low k hk) (by omega)))) e, Fg.Z.low, Fg.Z.sz⟩, fun k hk => (Fg.D k hk).at fun o e => up _ o (ane (.inl (by show N + k < N + n + 3; omega))) e, ?_, rfl, fun j hj => absurd hj (Nat.not_lt_zero _), fun b o hb e => up b o (ane (.inl (Nat.lt_of_lt_of_le hb (by omega)))) (Fg.keep b o hb e), Fg.inj⟩
    rcases Fg.zf with ⟨_, q1, ws, q2, q3⟩ | ⟨i0, _⟩
    · exact .inl ⟨rfl, up _ _ (ane (.inl (Nat.lt_succ_self _))) q1, ws, up _ _ (ane (.inl (by show N + n + 1 < N + n + 3; omega))) q2, q3⟩
    · exact absurd i0 (Nat.lt_irrefl _)
  obtain ⟨g1, c1, e1, l1, z1, k1⟩ := step s.heap (fun _ => #[]) #[] _ hS
  have F1 := carry _ _ z1 k1 Fi
  refine wpAny_bind (wpAny_updateSeq hS rfl (wpAny_bind (wpAny_letGo ?_)))
  rw [e1]
  unfold Builtin.List.listExtendWith
  have hz1 : g1.get? (N + n + 2) = some (zipObj .none false (N + n) (N + n + 1)) := k1 _ _ (ane (.inl (Nat.lt_succ_self _))) hz
  have hTy : (⟨g1, s.gens, s.drawn, s.toks, s.os⟩ : Shared).TypeIs (.ref (N + n + 2)) "zip" := ⟨_, hz1, rfl⟩
  refine wpAny_bind (wpAny_typeOf hTy ?_)
  have h1 : Builtin.List.listSameRef (.ref (N + n + 3)) (.ref (N + n + 2)) = false := by simp [Builtin.List.listSameRef]
  have h2 : (Value.type "zip" == Value.type "list") = false := by decide
  have h3 : (Value.type "zip" == Value.type "tuple") = false := by decide
  simp only [h1, h2, h3, Bool.or_false, Bool.false_eq_true, if_false]
  refine wpAny_bind (wpAny_pyIter_zip (s := ⟨g1, s.gens, s.drawn, s.toks, s.os⟩) hz1 (wpAny_bind (wpAny_holding ?_)))
  unfold Builtin.List.listLengthHint
  refine wpAny_bind (wpAny_specialOf hTy zip_no_len ?_)
  show wpAny _ A.in1 (specialOf (Value.ref (N + n + 2)) (Str.ofString "__length_hint__") >>= _) _ _ _
  refine wpAny_bind (wpAny_specialOf hTy zip_no_hint (wpAny_pure ?_))
  show wpAny _ A.in1 (rule "list.extend.makes-room" >>= fun _ => Builtin.List.listTouch (.ref (N + n + 3)) >>= fun _ =>
    again (.builtin "list.extend.loop" ⟨[.ref (N + n + 3), .ref (N + n + 2), .none], []⟩)) _ _ _
  refine wpAny_bind (wpAny_rule ?_)
  refine wpAny_bind ?_
  show wpAny _ A.in1 (updateSeq (N + n + 3) (·.push .none) >>= fun _ => updateSeq (N + n + 3) (·.pop)) _ _ _
  obtain ⟨g2, c2, e2, l2, z2, k2⟩ := step g1 (·.push .none) #[] _ l1
  have F2 := carry _ _ z2 k2 F1
  refine wpAny_bind (wpAny_updateSeq (s := ⟨g1, s.gens, s.drawn, s.toks, s.os⟩) l1 rfl ?_)
  rw [e2]
  obtain ⟨g3, c3, e3, l3, z3, k3⟩ := step g2 (·.pop) _ _ l2
  have F3 := carry _ _ z3 k3 F2
  refine wpAny_updateSeq (s := ⟨g2, s.gens, s.drawn, s.toks, s.os⟩) l2 rfl ?_
  rw [e3]
  have hsz3 : N + n + 3 < g3.objs.size := by rw [z3, z2, z1, sz]; omega
  refine wpAny_pure ⟨plainId_quiet F.plain_extend_loop _, zip_loop hh hn hn8 hm hm2 m 0 ⟨g3, s.gens, s.drawn, s.toks, s.os⟩ #[] c3 (Nat.sub_zero _) (Nat.zero_le _) F3 hsz3 l3 ?_⟩
  exact hR
end
end Vx

namespace Vx
open PySem PySem.Spec PyProof.Rows L2
/-- a built-in class called with one starred argument -/
theorem callWith_typeS {M : Model} {A : Around} {E : Value → Shared → Prop} {s : Shared} {pos p : Pos} {T : String} {env : Env} {e : Expr} {Q : Value → Shared → Prop}
    (h : wpAny M A (eval e env) (fun v s₁ => PySem.W.StarOf M A E v (fun us s₂ => wpAny M A (call (.type T) us) Q E s₂) s₁) E s) (he : starEach [.Starred e p] env = [(true, eval e env)] := by rfl) :
    wpAny M A (callWith pos (.type T) [] (backTo pos (starEach [.Starred e p] env)) []) Q E s := by
  rw [he]
  refine PySem.W.ks_call (P := fun _ => True) rfl (fun h _ => ⟨.machine, .inr (.inl rfl), .of_pure rfl⟩) (PySem.W.ks_lone (Q := fun a s₁ => True ∧ wpAny M A (call (.type T) ([] ++ a.pos) a.kw) Q E s₁) ?_)
  refine thn h fun v s₁ h₁ => ?_
  unfold PySem.W.StarOf at h₁ ⊢
  exact thn h₁ fun b s₂ h₂ => ⟨h₂.1, thn h₂.2 fun us s₃ h₃ => ⟨trivial, h₃⟩⟩
section
variable {prog : Program} {w : World} {A : Around} {E : Value → Shared → Prop} {s : Shared}
theorem call_zipN {ts : List Addr} {items : Nat → Array Value} {Q : Value → Shared → Prop} (h8 : ts.length ≤ 8) (ht : ∀ k t, ts[k]? = some t → s.heap.IsTuple t (items k))
    (hQ : ∀ h' : Heap, h'.objs.size = s.heap.objs.size + ts.length → (∀ b o, s.heap.get? b = some o → h'.get? b = some o) → (∀ k t, ts[k]? = some t → h'.IsTupleIter (s.heap.objs.size + k) t 0) →
      Q (.ref (h'.objs.size + 2)) { s with heap := zipHeap h' (itv s.heap.objs.size ts.length) }) : wpAny (model prog w) A (call (.type "zip") (ts.map Value.ref)) Q E s := by
  refine callType_new F.called_zip (by decide) (zt _) (zn _ (by rw [List.length_map]; exact h8)) (fun obj => zo obj _) F.entry_zip_new (meets_zip ts items (Nat.le_trans h8 (by decide))) ⟨ht, fun h' hz hk hi => ?_⟩
  have e : ((h'.push (tupObj (itv s.heap.objs.size ts.length))).push (tupObj ((itv s.heap.objs.size ts.length).map fun _ => Value.none))).objs.size = h'.objs.size + 2 := by rw [Heap.size_push, Heap.size_push]
  have g : (zipHeap h' (itv s.heap.objs.size ts.length)).get? (h'.objs.size + 2) = some (zipObj .none false h'.objs.size (h'.objs.size + 1)) := by
    rw [← e]
    exact Heap.get?_push_size _ rfl
  exact ⟨⟨_, g, rfl⟩, hQ h' hz hk hi⟩
/-- list(zip(..)): n tuples of m items each -/
theorem call_listZip {n m : Nat} {ts : List Addr} {items : Nat → Array Value} {Q : Value → Shared → Prop} (hh : A.handled = none) (hl : ts.length = n) (hn : 0 < n) (hn8 : n ≤ 8) (hm : 0 < m) (hm2 : m ≤ 1000)
    (ht : ∀ k t, ts[k]? = some t → s.heap.IsTuple t (items k)) (hs : ∀ k, k < n → (items k).size = m)
    (hQ : ∀ (h' : Heap) (acc' : Array Value) (c' : Nat) (L : Addr), s.heap.objs.size ≤ L → (∀ b o, s.heap.get? b = some o → h'.get? b = some o) → h'.get? L = some { cls := .type "list", dict := none, data := .seq acc' c', slots := #[] } → acc'.size = m →
      (∀ j, j < m → ∃ T : Addr, acc'[j]? = some (.ref T) ∧ L < T ∧ h'.get? T = some (tupObj (col items n j))) → (∀ (i j : Nat) (T : Addr), acc'[i]? = some (.ref T) → acc'[j]? = some (.ref T) → i = j) → Q (.ref L) { s with heap := h' }) :
    wpAny (model prog w) A (call (.type "zip") (ts.map Value.ref)) (fun v s1 => wpAny (model prog w) A (call (.type "list") [v]) Q E s1) E s := by
  subst hl
  refine call_zipN hn8 ht fun h' hz hk hi => ?_
  generalize hN : s.heap.objs.size = N at *
  have sz : (zipHeap h' (itv N ts.length)).objs.size = N + ts.length + 3 := by simp only [Heap.size_push, hz]
  have g1 : (zipHeap h' (itv N ts.length)).get? (N + ts.length) = some (tupObj (itv N ts.length)) := by
    refine Heap.get?_push_of_some _ (Heap.get?_push_of_some _ ?_)
    rw [← hz]
    exact Heap.get?_push_size _ rfl
  have g2 : (zipHeap h' (itv N ts.length)).get? (N + ts.length + 1) = some (tupObj ((itv N ts.length).map fun _ => Value.none)) := by
    refine Heap.get?_push_of_some _ ?_
    have e : (h'.push (tupObj (itv N ts.length))).objs.size = N + ts.length + 1 := by rw [Heap.size_push, hz]
    rw [← e]
    exact Heap.get?_push_size _ rfl
  have g3 : (zipHeap h' (itv N ts.length)).get? (N + ts.length + 2) = some (zipObj .none false (N + ts.length) (N + ts.length + 1)) := by
    have e : ((h'.push (tupObj (itv N ts.length))).push (tupObj ((itv N ts.length).map fun _ => Value.none))).objs.size = N + ts.length + 2 := by rw [Heap.size_push, Heap.size_push, hz]
    rw [← e, ← hz]
    exact Heap.get?_push_size _ rfl
  have up0 : ∀ b o, h'.get? b = some o → (zipHeap h' (itv N ts.length)).get? b = some o := fun b o e => Heap.get?_push_of_some _ (Heap.get?_push_of_some _ (Heap.get?_push_of_some _ e))
  rw [show h'.objs.size + 2 = N + ts.length + 2 by rw [hz]]
  generalize hZ : zipHeap h' (itv N ts.length) = hp at *
  refine callType_codes (Q₁ := fun obj s₁ => obj = .ref (N + ts.length + 3) ∧ s₁ = { s with heap := hp.push { cls := .type "list", data := .seq #[] } }) F.called_list (F.typeCall_list_1 _) F.entry_list_init
    (code_list_new _ ⟨by rw [show ({ s with heap := hp } : Shared).heap.objs.size = N + ts.length + 3 from sz], rfl⟩) fun obj s₁ h₁ => ?_
  obtain ⟨rfl, rfl⟩ := h₁
  have hS : (hp.push { cls := .type "list", data := .seq #[] }).get? (N + ts.length + 3) = some { cls := .type "list", data := .seq #[] } := by
    rw [← sz]
    exact Heap.get?_push_size _ rfl
  have up1 : ∀ b o, hp.get? b = some o → (hp.push { cls := .type "list", data := .seq #[] }).get? b = some o := fun b o e => Heap.get?_push_of_some _ e
  have tk : ∀ k, k < ts.length → ts[k]? = some (ts[k]?.getD 0) := fun k hk => by rw [List.getElem?_eq_getElem hk]; rfl
  have Fi : Fill N ts.length m (fun k => ts[k]?.getD 0) items (hp.push { cls := .type "list", data := .seq #[] }) 0 (hp.push { cls := .type "list", data := .seq #[] }) #[] := by
    refine ⟨⟨up1 _ _ g1, fun k hk' => ?_, fun k hk' => ?_, hs⟩, fun k hk' => ?_, .inl ⟨rfl, up1 _ _ g3, _, up1 _ _ g2, ?_⟩, rfl, fun j hj => absurd hj (Nat.not_lt_zero _), fun b o _ e => e, fun i j T e => by simp at e⟩
    · exact (ht k _ (tk k hk')).at fun o e => up1 _ o (up0 _ o (hk _ o e))
    · obtain ⟨o, ho, _⟩ := ht k _ (tk k hk')
      rw [← hN]
      exact Heap.lt_size ho
    · rw [if_neg (Nat.not_lt_zero _)]
      exact (hi k _ (tk k hk')).at fun o e => up1 _ o (up0 _ o e)
    · unfold itv; rw [List.length_map, List.length_map, List.length_range]
  refine ⟨⟨_, hS, rfl⟩, F.args_list_init_2 _ _, zip_init (A := A.in1) hh hn hn8 hm hm2 Fi (by show (hp.push _).objs.size = _; rw [Heap.size_push, sz]) hS fun h2 acc c kp gL sz2 made inj => ?_⟩
  refine ⟨rfl, hQ h2 acc c _ (by omega) (fun b o e => kp b o ?_ (up1 _ _ (up0 _ _ (hk b o e)))) gL sz2 made inj⟩
  rw [← hN]
  exact Heap.lt_size e
end
end Vx

namespace Vx
open PySem PySem.Spec PyProof.Rows L2
/-- several objects are new at once -/
theorem inv_many {X : Cx} {pins : List (Addr × Obj)} {σ : L2.St} {H H' : Hp} {s : Shared} {h' : Heap} {t' : Nat} (I : Inv X pins σ H s) (k : ∀ b u, s.heap.get? b = some u → h'.get? b = some u) (same : Same H H')
    (new : ∀ b u, H b = none → H' b = some u → ObjOk X.prog X.w H' h' b u ∧ s.heap.objs.size ≤ b) : Inv X pins σ H' { s with heap := h', toks := t' } := by
  refine I.un ⟨fun b o e _ _ _ => k b o e, fun b o e _ _ _ => ⟨o.slots, k b o e⟩, fun b o e n _ => ?_, fun b o e _ => ⟨o, k b o e⟩, fun b xs e => same _ _ e, fun b o u e => same _ _ e, fun b ps e => ⟨#[], by rw [same _ _ e]; simp⟩⟩ fun b u e => ?_
  · cases q : H' b with
    | none => rfl
    | some u => exact absurd (Nat.lt_of_lt_of_le (Heap.lt_size e) (new b u n q).2) (Nat.lt_irrefl _)
  · cases q : H b with
    | none => exact (new b u q e).1
    | some v =>
      obtain rfl : v = u := by rw [same _ _ q] at e; exact Option.some.inj e
      exact (I.hok b v q).stay (fun c v' _ z => k c v' z) (fun c z => same _ _ z) fun c xs z => same _ _ z
def colV (rows : List (List V)) (j : Nat) : List V := rows.map fun r => (r[j]?).getD .non
def tLZ (K : PySem.W.Frag) (te : TE) : TE := fun σ H Q => te σ H fun x H1 => ∃ (p : Addr) (ps : List Addr) (rows : List (List V)) (m : Nat), x = V.ref p ∧ (SqT K H1 p (ps.map V.ref) ∨ SqL K H1 p (ps.map V.ref)) ∧ ps.length = rows.length ∧ 0 < ps.length ∧ ps.length ≤ 8 ∧ 0 < m ∧ m ≤ 1000 ∧
  (∀ (k : Nat) (q : Addr) (r : List V), ps[k]? = some q → rows[k]? = some r → SqT K H1 q r ∧ r.length = m) ∧
  ∀ (L : Addr) (Ts : List Addr) (H2 : Hp), Same H1 H2 → H1 L = none → H2 L = some (.lst (Ts.map V.ref)) → Ts.length = m → (∀ (j : Nat) (t : Addr), Ts[j]? = some t → H1 t = none ∧ t ≠ L ∧ H2 t = some (.tup (colV rows j))) → Q (.ref L) H2
open Classical in
theorem pe_listZip {X : Cx} {e : Expr} {te : TE} {p p2 sp_ pos pos2 : Pos} (hc : X.calm = true) (hg : Gl X "list") (hm : X.mg "list" = none) (hg2 : Gl X "zip") (hm2 : X.mg "zip" = none) (he : PE X e te)
    (na : starEach [.Call (.Name "zip" p2) [.Starred e sp_] [] pos2] X.env = (false, eval (.Call (.Name "zip" p2) [.Starred e sp_] [] pos2) X.env) :: starEach [] X.env := by rfl)
    (hst : starEach [.Starred e sp_] X.env = [(true, eval e X.env)] := by rfl) : PE X (.Call (.Name "list" p) [.Call (.Name "zip" p2) [.Starred e sp_] [] pos2] [] pos) (tLZ X.K te) := by
  refine ⟨fun pins s σ H Q I h => ?_⟩
  refine Call_ (ld_blt I hg hm boot_list (PyProof.Rows.callWith_type1 (args_cons ?_ na) na))
  refine Call_ (ld_blt I hg2 hm2 PyProof.Rows.boot_zip (callWith_typeS (thn (he.run pins s σ H _ I h) fun v s1 ⟨y, H1, I1, ry, q⟩ => ?_) hst))
  obtain ⟨a, ps, rows, m, rfl, hsq, hlen, hn, hn8, hm0, hm1, hrow, q⟩ := q
  obtain rfl : v = Value.ref a := ry
  refine StX.star_any I1 hsq fun us s2 I2 rv => ?_
  have us_eq : us = ps.map Value.ref := by
    have all : ∀ (l : List Addr) (us : List Value), Vals (l.map V.ref) us → us = l.map Value.ref := by
      intro l
      induction l with
      | nil => intro us r; cases r; rfl
      | cons x l ih =>
        intro us r
        cases r with
        | cons r1 r2 =>
          cases r1
          rw [ih _ r2] <;> rfl
    exact all ps us rv
  subst us_eq
  have ex : ∀ k : Nat, ∃ its : Array Value, ∀ (b : Addr) (r : List V), ps[k]? = some b → rows[k]? = some r → s2.heap.IsTuple b its ∧ Vals r its.toList := by
    intro k
    cases e1 : ps[k]? with
    | none => exact ⟨#[], fun b r z => by cases z⟩
    | some b =>
      cases e2 : rows[k]? with
      | none => exact ⟨#[], fun b r _ z => by cases z⟩
      | some r =>
        obtain ⟨its, r1, p1, _⟩ := I2.tuple (hrow k b r e1 e2).1
        refine ⟨its.toArray, fun b' r' z1 z2 => ?_⟩
        cases z1; cases z2
        exact ⟨p1, by simpa using r1⟩
  have rk : ∀ (k : Nat) (b : Addr), ps[k]? = some b → ∃ r, rows[k]? = some r := by
    intro k b e
    have := (List.getElem?_eq_some_iff.mp e).1
    exact ⟨_, List.getElem?_eq_getElem (by omega)⟩
  have pk : ∀ k : Nat, k < ps.length → ∃ (b : Addr) (r : List V), ps[k]? = some b ∧ rows[k]? = some r := fun k hk => ⟨_, _, List.getElem?_eq_getElem hk, List.getElem?_eq_getElem (by omega)⟩
  refine wpAny_mono (call_listZip (n := ps.length) (m := m) (items := fun k => (ex k).choose) (Q := fun r s3 => EP X pins σ Q r s3) (I2.ok.hd hc) rfl hn hn8 hm0 hm1 ?_ ?_ ?_) ?_ fun _ _ z => z
  · intro k t e
    obtain ⟨r, er⟩ := rk k t e
    exact ((ex k).choose_spec t r e er).1
  · intro k hk
    obtain ⟨b, r, e1, e2⟩ := pk k hk
    have z := ((ex k).choose_spec b r e1 e2).2.length
    rw [(hrow k b r e1 e2).2] at z
    simpa using z.symm
  · intro h' acc c L hL kp gL sz made inj
    have addr : ∃ Ts : List Addr, acc.toList = Ts.map Value.ref := by
      refine ⟨(List.range m).map fun j => if hj : j < m then (made j hj).choose else 0, ?_⟩
      refine List.ext_getElem (by simp [sz]) fun j h1 h2 => ?_
      have hj : j < m := by simpa [sz] using h1
      have z := (made j hj).choose_spec.1
      rw [List.getElem_map, List.getElem_map, List.getElem_range, dif_pos hj]
      have z2 : acc[j]? = some (acc.toList[j]) := by rw [Array.getElem_toList]; exact Array.getElem?_eq_getElem (by rw [sz]; exact hj)
      exact Option.some.inj (z2.symm.trans z)
    obtain ⟨Ts, eT⟩ := addr
    have tl : Ts.length = m := by
      have := congrArg List.length eT
      simpa [sz] using this.symm
    have tget : ∀ (j : Nat) (t : Addr), Ts[j]? = some t → acc[j]? = some (Value.ref t) := by
      intro j t e
      rw [← Array.getElem?_toList, eT, List.getElem?_map, e]
      rfl
    have tmade : ∀ (j : Nat) (t : Addr), Ts[j]? = some t → L < t ∧ h'.get? t = some (tupObj (col (fun k => (ex k).choose) ps.length j)) := by
      intro j t e
      have hj : j < m := by rw [← tl]; exact (List.getElem?_eq_some_iff.mp e).1
      obtain ⟨T, e1, e2, e3⟩ := made j hj
      rw [tget j t e] at e1
      cases e1
      exact ⟨e2, e3⟩
    have tinj : ∀ (i j : Nat) (t : Addr), Ts[i]? = some t → Ts[j]? = some t → i = j := fun i j t a b => inj i j t (tget i t a) (tget j t b)
    let H2 : Hp := fun b => if b = L then some (.lst (Ts.map V.ref)) else if e : ∃ j : Nat, Ts[j]? = some b then some (.tup (colV rows e.choose)) else H1 b
    have h2L : H2 L = some (.lst (Ts.map V.ref)) := if_pos rfl
    have h2T : ∀ (j : Nat) (t : Addr), Ts[j]? = some t → H2 t = some (.tup (colV rows j)) := by
      intro j t e
      have ne : t ≠ L := fun z => by have := (tmade j t e).1; rw [z] at this; exact Nat.lt_irrefl _ this
      have ex2 : ∃ j : Nat, Ts[j]? = some t := ⟨j, e⟩
      show (if t = L then _ else if e : ∃ j : Nat, Ts[j]? = some t then some (HO.tup (colV rows e.choose)) else H1 t) = _
      rw [if_neg ne, dif_pos ex2, tinj _ _ _ ex2.choose_spec e]
    have frT : ∀ (j : Nat) (t : Addr), Ts[j]? = some t → H1 t = none := fun j t e => I2.hok.fresh (Nat.le_trans hL (Nat.le_of_lt (tmade j t e).1))
    have frL : H1 L = none := I2.hok.fresh hL
    have same : Same H1 H2 := by
      intro b u e
      have n1 : b ≠ L := fun z => by rw [z, frL] at e; cases e
      have n2 : ¬ ∃ j : Nat, Ts[j]? = some b := fun ⟨j, z⟩ => by rw [frT j b z] at e; cases e
      show (if b = L then _ else if e : ∃ j : Nat, Ts[j]? = some b then some (HO.tup (colV rows e.choose)) else H1 b) = _
      rw [if_neg n1, dif_neg n2]
      exact e
    refine ⟨.ref L, H2, inv_many (t' := s2.toks) I2 kp same fun b u n e => ?_, rfl, q L Ts H2 same frL h2L tl fun j t e => ⟨frT j t e, fun z => by have := (tmade j t e).1; rw [z] at this; exact Nat.lt_irrefl _ this, h2T j t e⟩⟩
    by_cases n1 : b = L
    · subst n1
      rw [h2L] at e
      cases e
      refine ⟨⟨?_, acc.toList, c, ?_, by rw [Array.toArray_toList]; exact gL⟩, hL⟩
      · rw [List.length_map, tl]; exact Nat.le_of_lt (small1000 hm1)
      · rw [eT]
        have all : ∀ l : List Addr, Vals (l.map V.ref) (l.map Value.ref) := fun l => by
          induction l with
          | nil => exact .nil
          | cons x l ih => exact .cons rfl ih
        exact all Ts
    · by_cases n2 : ∃ j : Nat, Ts[j]? = some b
      · obtain ⟨j, z⟩ := n2
        rw [h2T j b z] at e
        cases e
        obtain ⟨m1, m2⟩ := tmade j b z
        refine ⟨⟨?_, _, ?_, ⟨_, m2, rfl, _, rfl⟩⟩, Nat.le_trans hL (Nat.le_of_lt m1)⟩
        · show (colV rows j).length ≤ _
          unfold colV
          rw [List.length_map, ← hlen]
          exact Nat.le_trans hn8 (by decide)
        · have hj : j < m := by rw [← tl]; exact (List.getElem?_eq_some_iff.mp z).1
          refine vals_of_at (by unfold colV col; rw [List.length_map, List.length_map, List.length_range, hlen]) fun k x u e1 e2 => ?_
          have hk : k < ps.length := by
            have := (List.getElem?_eq_some_iff.mp e1).1
            unfold colV at this
            rw [List.length_map, ← hlen] at this
            exact this
          obtain ⟨b', r, q1, q2⟩ := pk k hk
          obtain ⟨_, rv'⟩ := (ex k).choose_spec b' r q1 q2
          unfold colV at e1
          unfold col at e2
          rw [List.getElem?_map, q2] at e1
          rw [List.getElem?_map, List.getElem?_range hk] at e2
          cases e1
          cases e2
          have hr : j < r.length := by rw [(hrow k b' r q1 q2).2]; exact hj
          obtain ⟨w, ew, rw'⟩ := rv'.get (List.getElem?_eq_getElem hr)
          rw [Array.getElem?_toList] at ew
          show RelV ((r[j]?).getD .non) (((ex k).choose[j]?).getD .none)
          rw [List.getElem?_eq_getElem hr, ew]
          exact rw'
      · exfalso
        have : H2 b = H1 b := by
          show (if b = L then _ else if e : ∃ j : Nat, Ts[j]? = some b then some (HO.tup (colV rows e.choose)) else H1 b) = _
          rw [if_neg n1, dif_neg n2]
        rw [this, n] at e
        cases e
  · intro v s3 h3
    exact args_nil h3
end Vx

namespace Vx
open PySem PySem.Spec PyProof.Rows L2
/-- a comprehension over zip of two tuples of one length -/
theorem lc_zipT {K : PySem.W.Frag} {a b : Addr} {xs ys : List V} {g : TG} {tt : TT} {te : TE} {vs : List Nat} {σ : L2.St} {H1 : Hp} {D : Addr} {Qd : Hp → Prop} (hl : xs.length = ys.length) (Pv : Nat → Hp → Prop) (h0 : Pv 0 (upd H1 D (.lst [])))
    (hq : ∀ i H, i ≤ xs.length → Pv i H → SqT K H a xs ∧ SqT K H b ys)
    (hs : ∀ (i : Nat) (x y : V) (T : Addr) (H : Hp), xs[i]? = some x → ys[i]? = some y → Pv i H → H T = none → g (.ref T) (wipe σ vs) (upd H T (.tup [x, y])) fun σ2 H2 => wipe σ2 vs = wipe σ vs ∧ tt σ2 H2 fun b H3 =>
      if b = true then te σ2 H3 fun y H4 => ∃ acc, H4 D = some (.lst acc) ∧ acc.length < sizeLine ∧ Pv (i + 1) (upd H4 D (.lst (acc ++ [y]))) else Pv (i + 1) H3) (hd : ∀ H, Pv xs.length H → Qd H) :
    ∃ W : Nat → Nat → Hp → Prop, (∃ m, W 0 m (upd H1 D (.lst []))) ∧ ∀ i m H, W i m H →
      ((RZ.ItzT K a b).stop i H ∧ Qd H) ∨ ((RZ.ItzT K a b).go i H ∧ ∃ Nx : Hp → Prop, (∀ H', Nx H' → ∃ m', m' < m ∧ W (i + 1) m' H') ∧ ∀ x H', (RZ.ItzT K a b).yld i H x H' → g x (wipe σ vs) H' fun σ2 H2 => wipe σ2 vs = wipe σ vs ∧ tt σ2 H2 fun b H3 =>
        if b = true then te σ2 H3 fun y H4 => ∃ acc, H4 D = some (.lst acc) ∧ acc.length < sizeLine ∧ Nx (upd H4 D (.lst (acc ++ [y]))) else Nx H3) := by
  refine ⟨fun i m H => m = xs.length - i ∧ i ≤ xs.length ∧ Pv i H, ⟨xs.length, by simp, Nat.zero_le _, h0⟩, ?_⟩
  rintro i m H ⟨rfl, hi, p⟩
  obtain ⟨q1, q2⟩ := hq i H hi p
  by_cases hlt : i < xs.length
  · refine .inr ⟨⟨xs, ys, xs[i], ys[i]'(by omega), q1, q2, by simp [hlt], by simp [show i < ys.length by omega]⟩, Pv (i + 1), fun H' p' => ⟨xs.length - (i + 1), by omega, rfl, hlt, p'⟩, ?_⟩
    rintro z H' ⟨T, x, y, rfl, hT, rfl, hx, hy⟩
    exact hs i x y T H (hx xs q1) (hy ys q2) p hT
  · obtain rfl : i = xs.length := by omega
    exact .inl ⟨⟨xs, ys, q1, q2, .inl (Nat.le_refl _)⟩, hd H p⟩
/-- a target that takes a tuple or a list -/
def gOr (g1 g2 : TG) : TG := fun v σ H Q => g1 v σ H Q ∨ g2 v σ H Q
theorem pg_or {X : Cx} {tg : Expr} {g1 g2 : TG} (h1 : PG X tg g1) (h2 : PG X tg g2) : PG X tg (gOr g1 g2) := by
  constructor
  intro pins s σ H v u Q I r h
  rcases h with h | h
  · exact h1.run pins s σ H v u Q I r h
  · exact h2.run pins s σ H v u Q I r h
section
variable {X : Cx} (K : PySem.W.Frag)
theorem pi_listK {tg e : Expr} {te : TE} (he : PE X e te) (h : X.K = K := by rfl) : PI X tg e (iList K te) := h ▸ pi_list he
theorem pi_tupK {tg e : Expr} {te : TE} (he : PE X e te) (h : X.K = K := by rfl) : PI X tg e (iTup K te) := h ▸ pi_tup he
theorem pi_zipAK {e e2 : Expr} {ta : TA} {p pos tpos : Pos} {elts : List Expr} {kk : Nat} (hg : Gl X "zip") (hm : X.mg "zip" = none) (ha : PA X [e, e2] ta)
    (hs : starEach [e, e2] X.env = (false, eval e X.env) :: starEach [e2] X.env := by rfl) (hpl : (backTo pos (starEach [e2] X.env)).any (·.1) = false := by rfl) (h : X.K = K := by rfl) :
    PI X (.Tuple elts kk tpos) (.Call (.Name "zip" p) [e, e2] [] pos) (RZ.iZipA K ta) := h ▸ RZ.pi_zipA hg hm ha hs hpl
theorem pg_tupK {es : List Expr} {k : Nat} {t : TGs} {n : Nat} {pos : Pos} (hc : X.calm = true) (ht : PGs X es t)
    (hn : (assignEach es X.env).length = n := by rfl) (hst : (assignEach es X.env).findIdx? (·.1) = none := by rfl) (h : X.K = K := by rfl) : PG X (.Tuple es k pos) (gTup K n t) := h ▸ pg_tup hc ht hn hst
theorem pe_listZipK {e : Expr} {te : TE} {p p2 sp_ pos pos2 : Pos} (hc : X.calm = true) (hg : Gl X "list") (hm : X.mg "list" = none) (hg2 : Gl X "zip") (hm2 : X.mg "zip" = none) (he : PE X e te)
    (na : starEach [.Call (.Name "zip" p2) [.Starred e sp_] [] pos2] X.env = (false, eval (.Call (.Name "zip" p2) [.Starred e sp_] [] pos2) X.env) :: starEach [] X.env := by rfl)
    (hst : starEach [.Starred e sp_] X.env = [(true, eval e X.env)] := by rfl) (h : X.K = K := by rfl) : PE X (.Call (.Name "list" p) [.Call (.Name "zip" p2) [.Starred e sp_] [] pos2] [] pos) (tLZ K te) := h ▸ pe_listZip hc hg hm hg2 hm2 he na hst
end
end Vx

namespace Vx
open PySem PySem.Spec PyProof.Rows L2
/-! sets of texts: made of a list, sorted -/
def txt (v : Value) : Str := match v with
  | .str x _ => x
  | _ => ⟨#[]⟩
def Tx (w : World) (e : Int × Value) : Prop := ∃ x u, e = (hashStr w x, Value.str x u)
def keysT (es : Array (Int × Value)) : List Str := es.toList.map fun e => txt e.2
abbrev setObj (es : Array (Int × Value)) (ep : Nat) (t : SetTable) : Obj := { cls := .type "set", dict := none, data := .set es ep t, slots := #[] }
/-- a table that can be walked -/
structure Tab (w : World) (es : Array (Int × Value)) (t : SetTable) : Prop where
  tx : ∀ e ∈ es.toList, Tx w e
  nd : (keysT es).Nodup
  bd : es.size < scanBound
  ft : t.fits es.size = true
  rs : Ris t.place.toList
  ld : w.params.followText "set-order" = true ∨ t.led = true
/-- the set of texts at a, the texts in some order -/
def TxS (w : World) (h : Heap) (a : Addr) (ks : List Str) : Prop := ∃ es ep t, h.get? a = some (setObj es ep t) ∧ Tab w es t ∧ keysT es = ks
theorem TxS.at {w : World} {h h' : Heap} {a : Addr} {ks : List Str} (R : TxS w h a ks) (k : ∀ o, h.get? a = some o → h'.get? a = some o) : TxS w h' a ks := by
  obtain ⟨es, ep, t, e, r⟩ := R
  exact ⟨es, ep, t, k _ e, r⟩
theorem tx_is {P : Program} {w : World} {e : Int × Value} (h : Tx w e) (k : Str) : (strKind P w).is k e.2 = true ↔ txt e.2 = k := by
  obtain ⟨x, u, rfl⟩ := h
  show ((x == k) = true) ↔ x = k
  exact beq_iff_eq
theorem tx_elems {P : Program} {w : World} {l : List (Int × Value)} (h : ∀ e ∈ l, Tx w e) : ElemsOf (strKind P w) l := by
  intro e he
  obtain ⟨x, u, rfl⟩ := h e he
  exact ⟨⟨x, (tx_is (P := P) ⟨x, u, rfl⟩ x).mpr rfl, rfl⟩, rfl⟩
theorem keys_len (es : Array (Int × Value)) : (keysT es).length = es.size := by unfold keysT; rw [List.length_map, Array.length_toList]
section
variable {P : Program} {w : World} {A : Around} {E : Value → Shared → Prop} {s : Shared} {a : Addr}
/-- behind a place that was found: store, perhaps all laid anew -/
theorem txs_tail {f : Bool → Sem Unit} {es0 es1 : Array (Int × Value)} {ep : Nat} {t0 t1 : SetTable} {wd : Bool} {R : Option Bool → Shared → Prop}
    (hf : ∀ b s1 (Q' : Unit → Shared → Prop), Q' () s1 → wpAny (model P w) A (f b) Q' E s1) (ho : s.heap.get? a = some (setObj es0 ep t0)) (T : Tab w es1 t1)
    (hR : ∀ h' es2, Heap.SameBut a s.heap h' → TxS w h' a es2 → es2.Perm (keysT es1) → R (some true) { s with heap := h' }) :
    wpAny (model P w) A (do
      storeSet a es1 t1
      if (!wd && t1.tooFull) = true then do
        f (relayAll t1 es1 (SetTable.grown es1.size)).2.2
        storeSet a (relayAll t1 es1 (SetTable.grown es1.size)).1 (relayAll t1 es1 (SetTable.grown es1.size)).2.1
        pure (some true)
      else pure (some true)) R E s := by
  have at1 : (s.heap.update a (Obj.putSet es1 t1)).get? a = some (setObj es1 (ep + 1) t1) := Heap.get?_update_self (Obj.putSet es1 t1) ho rfl
  have b1 : Heap.SameBut a s.heap (s.heap.update a (Obj.putSet es1 t1)) := .update ..
  refine wpAny_bind (wpAny_storeSet_of ho rfl ?_ (fits_of_scanBound T.bd))
  by_cases c : (!wd && t1.tooFull) = true
  · rw [if_pos c]
    have p1 := relayAll_perm t1 es1 (SetTable.grown es1.size)
    have p2 := relayAll_fits t1 es1 (SetTable.grown es1.size)
    have p3 := relayAll_ris t1 es1 (SetTable.grown es1.size)
    have p4 := relayAll_led t1 es1 (SetTable.grown es1.size)
    revert p1 p2 p3 p4
    obtain ⟨es2, t2, gv⟩ := relayAll t1 es1 (SetTable.grown es1.size)
    intro p1 p2 p3 p4
    replace p1 : es2.toList.Perm es1.toList := p1
    have n2 : es2.size = es1.size := by simpa using p1.length_eq
    have T2 : Tab w es2 t2 := ⟨fun e he => T.tx e (p1.mem_iff.mp he), (p1.map _).nodup_iff.mpr T.nd, n2 ▸ T.bd, p2, p3, T.ld.imp id fun z => p4.trans z⟩
    refine wpAny_bind (hf _ _ _ (wpAny_bind (wpAny_storeSet_of at1 rfl (wpAny_pure ?_) (fits_of_scanBound T2.bd))))
    exact hR _ (keysT es2) (b1.trans (.update ..)) ⟨es2, _, t2, Heap.get?_update_self (Obj.putSet es2 t2) at1 rfl, T2, rfl⟩ (p1.map _)
  · rw [if_neg c]
    exact wpAny_pure (hR _ _ b1 ⟨es1, _, t1, at1, T, rfl⟩ (.refl _))
/-- a text is put in -/
theorem txs_add {k : Str} {u : Tok} {ks : List Str} {Q : Bool → Shared → Prop} (R : TxS w s.heap a ks) (room : ks.length + 1 < scanBound)
    (hQ : ∀ b h' ks', Heap.SameBut a s.heap h' → TxS w h' a ks' → (∀ x, x ∈ ks' ↔ x = k ∨ x ∈ ks) → ks'.length ≤ ks.length + 1 → Q b { s with heap := h' }) :
    wpAny (model P w) A (setAddHashed a (.str k u) (hashStr w k)) Q E s := by
  obtain ⟨es, ep, t, ho, T, rfl⟩ := R
  have is_k : (strKind P w).is k (.str k u) = true := (tx_is (P := P) (w := w) ⟨k, u, rfl⟩ k).mpr rfl
  have el : ElemsOf (strKind P w) es.toList := tx_elems T.tx
  have lay := layNew_perm t es (hashStr w k) (.str k u)
  have lay2 := layNew_fits t es (hashStr w k) (.str k u)
  have lay3 := layNew_ris t es (hashStr w k) (.str k u) T.rs
  have lay4 := layNew_led t es (hashStr w k) (.str k u)
  unfold setAddHashed setAddHashedIn
  refine wpAny_holding (wpAny_bind (wpAny_setState_of ho rfl T.ft ?_))
  simp only [byScan_of (x := .str k u) rfl T.bd el, ↓reduceIte]
  unfold setAddByScan
  refine wpAny_bind (wpAny_bind (wpAny_rule (wpAny_bind (wpAny_setScan_of is_k ho rfl T.ft el ?_))))
  have mem : ∀ x, x ∈ keysT es ↔ ∃ e ∈ es.toList, txt e.2 = x := fun x => by unfold keysT; exact List.mem_map
  cases fi : es.toList.findIdx? fun e => (strKind P w).is k e.2 with
  | some j =>
    obtain ⟨hj, pj, _⟩ := List.findIdx?_eq_some_iff_getElem.mp fi
    have hin : k ∈ keysT es := (mem k).mpr ⟨_, List.getElem_mem hj, (tx_is (T.tx _ (List.getElem_mem hj)) k).mp pj⟩
    refine wpAny_pure (wpAny_pure (hQ _ s.heap (keysT es) (.refl ..) ⟨es, ep, t, ho, T, rfl⟩ (fun x => ⟨.inr, ?_⟩) (Nat.le_succ _)))
    rintro (rfl | h)
    · exact hin
    · exact h
  | none =>
    have out : k ∉ keysT es := fun z => by
      obtain ⟨e, he, q⟩ := (mem k).mp z
      have no := List.findIdx?_eq_none_iff.mp fi e he
      rw [(tx_is (P := P) (T.tx e he) k).mpr q] at no
      exact Bool.noConfusion no
    dsimp only
    revert lay lay2 lay3 lay4
    show _ → _ → _ → _ → _
    generalize layNew t es (hashStr w k) (.str k u) = Z
    obtain ⟨es1, t1, wd, gv⟩ := Z
    intro lay lay2 lay3 lay4
    dsimp only at lay lay2 lay3 lay4 ⊢
    rw [Array.toList_push] at lay
    have pm : es1.toList.Perm ((hashStr w k, Value.str k u) :: es.toList) := lay.trans (List.perm_append_singleton _ _)
    have pk : (keysT es1).Perm (k :: keysT es) := List.Perm.map (fun e : Int × Value => txt e.2) pm
    have sz : es1.size = es.size + 1 := by simpa using pm.length_eq
    have n1 : (k :: keysT es).Nodup := List.nodup_cons.mpr ⟨out, T.nd⟩
    have bd1 : es1.size < scanBound := by rw [sz, ← keys_len es]; exact room
    have T1 : ∀ pl : Bool, Tab w es1 { t1 with plain := pl } := fun pl => by
      refine ⟨fun e he => ?_, pk.nodup_iff.mpr n1, bd1, lay2, lay3, T.ld.imp id fun z => lay4.trans z⟩
      rcases List.mem_cons.mp (pm.mem_iff.mp he) with rfl | he
      · exact ⟨k, u, rfl⟩
      · exact T.tx e he
    have give : ∀ (b : Bool) (s1 : Shared) (Q' : Unit → Shared → Prop), Q' () s1 → wpAny (model P w) A (match b with | true => rule "set.scan.the-table-gave-way" | false => pure ()) Q' E s1 := by
      intro b s1 Q' q
      cases b
      · exact wpAny_pure q
      · exact wpAny_rule q
    have last : ∀ h' ks', Heap.SameBut a s.heap h' → TxS w h' a ks' → ks'.Perm (keysT es1) → Q true { s with heap := h' } := fun h' ks' sb R' p' => by
      have p2 := p'.trans pk
      refine hQ true h' ks' sb R' (fun x => by rw [p2.mem_iff, List.mem_cons]) (by rw [p2.length_eq]; exact Nat.le_refl _)
    refine wpAny_bind (give _ _ _ ?_)
    by_cases c : t1.plain = true
    · rw [if_pos c]
      refine wpAny_bind ?_
      rw [hashByValue_scannable 8 (x := .str k u) rfl]
      refine wpAny_pure ?_
      refine txs_tail (t1 := { t1 with plain := false }) ?_ ho (T1 false) fun h' ks' sb R' p' => wpAny_pure (last h' ks' sb R' p')
      exact fun b s1 Q' q => give b s1 Q' q
    · rw [if_neg c]
      refine wpAny_bind (wpAny_pure ?_)
      refine txs_tail (t1 := t1) ?_ ho ?_ fun h' ks' sb R' p' => wpAny_pure (last h' ks' sb R' p')
      · exact fun b s1 Q' q => give b s1 Q' q
      · have z := T1 t1.plain
        exact z
/-- the texts that an iterator gives are put in -/
theorem txs_loop {I D : Addr} {fp wr : List Addr} {G : Array GenState → Array GenState → Prop} {n : Nat} {Pv : Nat → Value → Prop} {St : Nat → Shared → Prop} {xs : List Str} {R : Result → Shared → Prop}
    (W : WalksS P w A.in1 I fp wr G n Pv St) (hD : D ∉ fp) (hn : n = xs.length) (hb : n + 1 < scanBound) (hv : ∀ i v, Pv i v → ∃ x u, xs[i]? = some x ∧ v = Value.str x u) :
    ∀ (k i : Nat) (s : Shared), n - i = k → i ≤ n → St i s → (∃ ks, TxS w s.heap D ks ∧ ks.length ≤ i ∧ ∀ x, x ∈ ks ↔ x ∈ xs.take i) →
      (∀ s' ks, Moved (D :: wr) G s s' → TxS w s'.heap D ks → ks.length ≤ n → (∀ x, x ∈ ks ↔ x ∈ xs) → R (.ok (.ret .none)) s') → codeAny (model P w) A (.builtin "set.update.loop" ⟨[.ref D, .ref I], []⟩) R s := by
  have nD : D ∉ wr := fun z => hD (W.sub _ z)
  have up : ∀ {c : Addr}, c ∈ wr → c ∈ D :: wr := fun z => List.mem_cons_of_mem _ z
  intro k
  induction k with
  | zero =>
    rintro i s hk hi st ⟨ks, hS, hl, hm⟩ hR
    obtain rfl : i = n := by omega
    refine codeAny_builtin F.entry_set_update_loop ?_
    rw [Around.under_plainId F.plain_set_update_loop _]
    refine wpAny_bind (W.done s _ _ st fun s' mv => wpAny_pure ?_)
    rw [List.take_of_length_le (by omega)] at hm
    exact hR s' ks (mv.mono fun b hb => up hb) (hS.at fun o e => mv.heap D o nD e) hl hm
  | succ k ih =>
    rintro i s hk hi st ⟨ks, hS, hl, hm⟩ hR
    refine codeAny_builtin F.entry_set_update_loop ?_
    rw [Around.under_plainId F.plain_set_update_loop _]
    refine wpAny_bind (W.item i s _ _ (by omega) st fun v s1 pv st1 mv => ?_)
    obtain ⟨x, u, hx, rfl⟩ := hv i v pv
    show wpAny _ A.in1 (holding [Value.str x u] (setAdd D (.str x u)) >>= _) _ _ s1
    refine wpAny_bind (wpAny_holding ?_)
    unfold setAdd
    refine wpAny_holding (wpAny_bind ((strKind P w).pyHash (k := x) ((tx_is (P := P) (w := w) ⟨x, u, rfl⟩ x).mpr rfl) ?_))
    have hS1 : TxS w s1.heap D ks := hS.at fun o e => mv.heap D o nD e
    refine txs_add (s := { s1 with toks := s1.toks + 1 }) hS1 (by omega) fun b h' ks' sb hS2 hm2 hl2 => ?_
    replace sb : Heap.SameBut D s1.heap h' := sb
    have other : ∀ c o, c ≠ D → s1.heap.get? c = some o → h'.get? c = some o := fun c o ne e => (sb.2 c ne).trans e
    refine wpAny_pure ⟨plainId_quiet F.plain_set_update_loop _, ih (i + 1) _ (by omega) (by omega) (W.frame _ s1 _ _ st1 (Nat.le_succ _) fun c hc o e => other c o (fun z => hD (z ▸ hc)) e) ⟨ks', hS2, by omega, fun y => ?_⟩ fun s2 ks2 mv2 => ?_⟩
    · rw [hm2, hm, List.take_add_one, hx, List.mem_append]
      simp only [Option.toList_some, List.mem_singleton]
      exact Or.comm
    · exact hR s2 ks2 (Moved.trans W.gtrans ((mv.mono fun b hb => up hb).then_heap (Nat.le_succ _) fun c o hc e => other c o (fun z => hc (z ▸ List.mem_cons_self)) e) mv2)
/-- a class of the built-ins is called whose __init__ is the machine's own: its two parts as codes -/
theorem callType_two {T newId initId : String} {args : List Value} {Q Q1 : Value → Shared → Prop} (ft : TypeCalled T newId initId) (hct : checkTypeCall T ⟨args, []⟩ = pure ())
    (hnew : codeAny (model P w) A.in1 (.call (.builtin newId) ⟨.type T :: args, []⟩) (wants Q1 E) s)
    (hini : ∀ obj s1, Q1 obj s1 → s1.TypeIs obj T ∧ codeAny (model P w) A.in1 (.call (.builtin initId) ⟨obj :: args, []⟩) (wants (fun r s2 => r = .none ∧ Q obj s2) E) s1) :
    wpAny (model P w) A (call (.type T) args) Q E s := by
  obtain ⟨c0, tl, m0⟩ := ft.mro
  have m1 := ft.made
  have m2 := ft.sub
  have m3 := ft.notType
  have m4 := ft.canCreate
  refine wpAny_call (codeAny_of_tree ?_)
  show wpAny _ _ (callAny (.type T) ⟨args, []⟩) _ _ _
  refine wpAny_pure ⟨Code.quiet_builtin _ (by decide +kernel), codeAny_builtin F.entry_type_call ?_⟩
  rw [Around.under_plain (weight_type_call_type T args []) rfl]
  repeat (any_goals (first | assumption | wp_step))
  refine codeAny_mono hnew ?_
  rintro (e | fl) s1 z
  · exact z
  · match fl, z with
    | .ret obj, z =>
      obtain ⟨i1, i2⟩ := hini obj s1 z
      have m5 := ft.init.lookup
      have m6 := ft.init.bind obj
      repeat (any_goals (first | assumption | wp_step))
      refine codeAny_mono i2 ?_
      rintro (e | fl2) s2 z2
      · exact z2
      · match fl2, z2 with
        | .ret r, z2 =>
          obtain ⟨rfl, q⟩ := z2
          repeat (any_goals (first | assumption | wp_step))
        | .next, z2 => exact False.elim z2
        | .brk, z2 => exact False.elim z2
        | .cont, z2 => exact False.elim z2
    | .next, z => exact False.elim z
    | .brk, z => exact False.elim z
    | .cont, z => exact False.elim z
/-- an empty set, as it is made -/
def newSetObj (w : World) : Obj := setObj #[] 0 (.fresh 0 0 (!w.params.followText "set-order"))
theorem txs_new {h : Heap} {a : Addr} (e : h.get? a = some (newSetObj w)) : TxS w h a [] := by
  refine ⟨#[], 0, _, e, ⟨fun x hx => by simp at hx, List.Pairwise.nil, by decide, rfl, List.Pairwise.nil, ?_⟩, rfl⟩
  show _ ∨ (!w.params.followText "set-order") = true
  cases w.params.followText "set-order"
  · exact .inr rfl
  · exact .inl rfl
theorem call_setL {l : Addr} {items : Array Value} {xs : List Str} {Q : Value → Shared → Prop} (hh : A.handled = none) (hl : s.heap.IsList l items) (hx : StrsAre items.toList xs) (hb : xs.length + 1 < scanBound)
    (h : ∀ (h' : Heap) (tk : Nat) (ks : List Str), TxS w h' s.heap.objs.size ks → ks.length ≤ xs.length → (∀ x, x ∈ ks ↔ x ∈ xs) → (∀ b o, s.heap.get? b = some o → h'.get? b = some o) → Q (.ref s.heap.objs.size) { s with heap := h', toks := tk }) :
    wpAny (model P w) A (call (.type "set") [.ref l]) Q E s := by
  generalize hN : s.heap.objs.size = N at h
  refine callType_two (Q1 := fun obj s1 => obj = .ref N ∧ s1 = { s with heap := s.heap.push (newSetObj w) }) F.called_set (F.typeCall_set_1 _) (code_set_led1 _ ⟨by rw [hN], rfl⟩) ?_
  rintro obj s1 ⟨rfl, rfl⟩
  have gN : (s.heap.push (newSetObj w)).get? N = some (newSetObj w) := by rw [← hN]; exact Heap.get?_push_size _ rfl
  have tN : Shared.TypeIs { s with heap := s.heap.push (newSetObj w) } (.ref N) "set" := ⟨_, gN, rfl⟩
  refine ⟨tN, codeAny_call_builtin F.called_set.init.plain F.entry_set_init (check_set_init_1 tN ?_)⟩
  obtain ⟨⟨oc, od, odt, osl⟩, ho, rfl, n0, rfl⟩ := hl
  have e1 : (s.heap.push (newSetObj w)).get? l = some { cls := .type "list", dict := od, data := .seq items n0, slots := osl } := Heap.get?_push_of_some _ ho
  have lN : l < N := by rw [← hN]; exact Heap.lt_size ho
  have e2 : (s.heap.push (newSetObj w)).IsList l items := ⟨_, e1, rfl, n0, rfl⟩
  have z1 : (s.heap.push (newSetObj w)).objs.size = N + 1 := by rw [Heap.size_push, hN]
  have g1 := F.sub_list_set
  have g2 := F.sub_list_frozenset
  have g3 : (Value.type "list" == Value.type "dict") = false := by decide
  unfold Builtin.«set.__init__» noKeywords Builtin.Frozenset.updateFrom
  generalize hpi : pyIter = pit
  wp_walk
  subst hpi
  refine wpAny_pyIter_list e2 (wpAny_bind (wpAny_runValue ?_))
  have sz : items.size = xs.length := by have := StrsAre.length hx; simpa using this
  rw [show ({ s with heap := s.heap.push (newSetObj w) } : Shared).heap.objs.size = N + 1 from z1]
  have at_ : ∀ (i : Nat) (v : Value), items[i]? = some v → ∃ x u, xs[i]? = some x ∧ v = Value.str x u := by
    intro i v e
    have hi : i < xs.length := by rw [← sz]; exact (Array.getElem?_eq_some_iff.mp e).1
    obtain ⟨u, q⟩ := hx.get i xs[i] (List.getElem?_eq_getElem hi)
    rw [Array.getElem?_toList, e] at q
    exact ⟨_, u, List.getElem?_eq_getElem hi, Option.some.inj q⟩
  have nI : l ≠ N + 1 := Nat.ne_of_lt (Nat.lt_succ_of_lt lN)
  have nN : N ∉ [N + 1, l] := by
    intro z
    rcases List.mem_cons.mp z with z | z
    · exact absurd z (Nat.ne_of_lt (Nat.lt_succ_self _))
    · exact absurd (List.mem_singleton.mp z) (Nat.ne_of_gt lN)
  have hdl : A.in1.in1.in1.handled = none := hh
  have new : ((s.heap.push (newSetObj w)).push { cls := .type "list_iterator", data := .fields #[.ref l, .int 0 0] }).get? N = some (newSetObj w) := Heap.get?_push_of_some _ gN
  have itr : ((s.heap.push (newSetObj w)).push { cls := .type "list_iterator", data := .fields #[.ref l, .int 0 0] }).get? (N + 1) = some { cls := .type "list_iterator", data := .fields #[.ref l, .int 0 0] } := by
    rw [← z1]
    exact Heap.get?_push_size _ rfl
  refine txs_loop (Walks.list hdl (N + 1) l nI items).toS nN sz (by rw [sz]; exact hb) at_ items.size 0 _ (Nat.sub_zero _) (Nat.zero_le _) ⟨⟨_, itr, rfl, rfl⟩, e2.push _⟩ ⟨[], txs_new new, Nat.le_refl _, fun x => by simp⟩ ?_
  intro s' ks mv hS hk hm
  refine wpAny_pure (wpAny_pure ?_)
  have e' := Moved.eq_with mv
  refine ⟨rfl, ?_⟩
  rw [e']
  refine h s'.heap s'.toks ks hS (by rw [← sz]; exact hk) hm fun b o e => mv.heap b o (fun z => ?_) (Heap.get?_push_of_some _ (Heap.get?_push_of_some _ e))
  have lb : b < N := by rw [← hN]; exact Heap.lt_size e
  rcases List.mem_cons.mp z with rfl | z
  · exact Nat.lt_irrefl _ lb
  · rw [List.mem_singleton.mp z] at lb
    exact absurd lb (Nat.not_lt.mpr (Nat.le_succ _))
theorem texts_of {w : World} : ∀ (l : List (Int × Value)), (∀ e ∈ l, Tx w e) → StrsAre (l.map (·.2)) (l.map fun e => txt e.2)
  | [], _ => .nil
  | e :: l, h => by
    obtain ⟨x, u, rfl⟩ := h _ List.mem_cons_self
    exact .cons x u (texts_of l fun e he => h e (List.mem_cons_of_mem _ he))
/-- sorted(a set of texts) -/
theorem sorted_setT {ks : List Str} {Q : Value → Shared → Prop} (R : TxS w s.heap a ks) (hh : A.handled = none) (few : ks.length < 64)
    (hQ : ∀ (s' : Shared) (p : Addr) (out : Array Value) (c : Nat) (ys : List Str), (∀ b o, s.heap.get? b = some o → s'.heap.get? b = some o) → s'.gens = s.gens → s'.os = s.os → s.heap.objs.size ≤ p →
      s'.heap.get? p = some (seqObj "list" out c) → StrsAre out.toList ys → ys.Perm ks → sortedS ys = true → Q (.ref p) s') : wpAny (model P w) A (call (.builtin "sorted") [.ref a]) Q E s := by
  obtain ⟨es, ep, t, ho, T, rfl⟩ := R
  refine Calls.call_function_entry kind_sorted plain_sorted entry_sorted (args_sorted1 _) ?_
  unfold Builtin.«sorted»
  refine wpAny_bind (m := checkCount "sorted" 1 1 _) (wpAny_pure (wpAny_bind (collect_set (A := A.in1) hh ⟨_, ho, rfl, rfl⟩ T.ft T.bd T.rs T.ld ?_)))
  intro s1 vs kp up1 hg1 ho1 pm
  obtain ⟨ws, hw, pw⟩ : ∃ ws, StrsAre vs ws ∧ ws.Perm (keysT es) := by
    refine ⟨vs.map txt, ?_, ?_⟩
    · have : ∀ l : List Value, (∀ v ∈ l, ∃ x u, v = Value.str x u) → StrsAre l (l.map txt) := by
        intro l
        induction l with
        | nil => exact fun _ => .nil
        | cons v l ih =>
          intro h
          obtain ⟨x, u, rfl⟩ := h _ List.mem_cons_self
          exact .cons x u (ih fun y hy => h y (List.mem_cons_of_mem _ hy))
      refine this vs fun v hv => ?_
      obtain ⟨e, he, rfl⟩ := List.mem_map.mp (pm.mem_iff.mp hv)
      obtain ⟨x, u, rfl⟩ := T.tx e he
      exact ⟨x, u, rfl⟩
    · have q := pm.map txt
      rw [List.map_map] at q
      exact q
  have nv : vs.length < 64 := by rw [StrsAre.length hw, pw.length_eq]; exact few
  refine wpAny_bind (wpAny_newList ?_ (Nat.le_of_lt (Nat.lt_trans nv (by decide))))
  have gL : (s1.heap.push (seqObj "list" vs.toArray 0)).get? s1.heap.objs.size = some (seqObj "list" vs.toArray 0) := Heap.get?_push_size _ rfl
  refine wpAny_bind (wpAny_holding (wpAny_call_entry slot_list_sort ⟨_, gL, rfl⟩ entry_list_sort (list_sort_treeK strKind_oneLt gL hw.keysOf (fun v1 v2 r e => keyKind_strs (by rw [← e]; exact hw)) nv ?_) (args_list_sort _)))
  intro st hp hsrt
  obtain ⟨ys, y1, y2, y3⟩ := sorted_out_str hw hp hsrt
  obtain ⟨c, gc⟩ := sortedHeap_at (vs := vs) (out := (arrOf st).map (·.2)) gL
  refine ⟨_, rfl, wpAny_pure ⟨_, rfl, hQ _ s1.heap.objs.size _ c ys (fun b o e => ?_) hg1 ho1 up1 gc y1 (y2.trans pw) y3⟩⟩
  have lt := Heap.lt_size (kp b o e)
  show (sortedHeap _ _ _ _).get? b = some o
  rw [sortedHeap_old (Nat.ne_of_lt lt) (by rw [Heap.size_push]; exact Nat.lt_succ_of_lt lt)]
  exact Heap.get?_push_of_some _ (kp b o e)
end
/-! as rules -/
def TxO (w : World) (a : Addr) (ks : List Str) : HO := .ext fun h => TxS w h a ks
def rSetT (K : PySem.W.Frag) (w : World) : List V → Hp → VK → Prop := fun vs H Q => ∃ (l : Addr) (xs : List Str), vs = [.ref l] ∧ SqL K H l (xs.map V.str) ∧ xs.length ≤ 1000 ∧ ∀ p ks, H p = none → ks.Nodup → ks.length ≤ xs.length → (∀ x, x ∈ ks ↔ x ∈ xs) → Q (.ref p) (upd H p (TxO w p ks))
def rSortT (w : World) : List V → Hp → VK → Prop := fun vs H Q => ∃ (p : Addr) (ks : List Str), vs = [.ref p] ∧ H p = some (TxO w p ks) ∧ ks.length < 64 ∧ ∀ q ys, H q = none → ys.Perm ks → sortedS ys = true → Q (.ref q) (upd H q (.lst (ys.map V.str)))
theorem TxS.nodup {w : World} {h : Heap} {a : Addr} {ks : List Str} (R : TxS w h a ks) : ks.Nodup := by
  obtain ⟨es, ep, t, ho, T, rfl⟩ := R
  exact T.nd
theorem txo_ok {P : Program} {w : World} {H : Hp} {h : Heap} {a : Addr} {ks : List Str} (R : TxS w h a ks) : ObjOk P w H h a (TxO w a ks) := by
  obtain ⟨es, ep, t, ho, r⟩ := id R
  exact ⟨R, ⟨_, ho⟩, fun h1 h2 z k => TxS.at z k⟩
section
variable {X : Cx}
theorem call_setT (hc : X.calm = true) : CallR X (.type "set") (rSetT X.K X.w) := by
  intro pins s σ H vs us Q I r h
  obtain ⟨l, xs, rfl, hq, hz, q⟩ := h
  obtain ⟨u, rfl, ru⟩ := vals1 r
  obtain rfl : u = Value.ref l := ru
  obtain ⟨its, rv, pl, _⟩ := I.list hq
  refine call_setL (I.ok.hd hc) pl.isList (xs := xs) (by simpa using rv.strs) (by show _ < 4096; omega) fun h' tk ks R hk hm kp => ?_
  exact ⟨.ref _, _, I.laid kp (Nat.le_refl _) (txo_ok R), rfl, q _ ks (I.hok.fresh (Nat.le_refl _)) R.nodup hk hm⟩
theorem cr_sortT (hc : X.calm = true) : CallR X (.builtin "sorted") (rSortT X.w) := by
  intro pins s σ H vs us Q I r h
  obtain ⟨p, ks, rfl, hp, h64, q⟩ := h
  obtain ⟨u, rfl, ru⟩ := vals1 r
  obtain rfl : u = Value.ref p := ru
  obtain ⟨R, _⟩ := I.hok p _ hp
  refine sorted_setT R (I.ok.hd hc) h64 fun s' p' out c ys kp hg ho hz gp hs pm srt => ?_
  have fr : H p' = none := I.hok.fresh hz
  have len : (ys.map V.str).length ≤ sizeLine := by
    rw [List.length_map, pm.length_eq]
    exact Nat.le_of_lt (Nat.lt_trans h64 (by decide))
  obtain ⟨h2, g2, d2, t2, o2⟩ := s'
  replace hg : g2 = s.gens := hg
  replace ho : o2 = s.os := ho
  subst hg
  subst ho
  have new : ObjOk X.prog X.w (upd H p' (.lst (ys.map V.str))) h2 p' (.lst (ys.map V.str)) := ⟨len, out.toList, c, vals_of_strs hs, gp⟩
  have J : Inv X pins σ (upd H p' (.lst (ys.map V.str))) { s with heap := h2, gens := s.gens, drawn := d2, toks := t2 } := I.call (ch := []) (.laid kp hz fr) (I.hok.laid kp hz new) I.bare fun _ z => nomatch z
  exact ⟨.ref p', _, J, rfl, q p' ys fr pm srt⟩
end
end Vx

namespace Vx
open PySem PySem.Spec PyProof.Rows L2
/-- an expression, and a word of what it gives -/
def tCutE (te : TE) : TE := fun σ H Q => ∃ P : V → Hp → Prop, te σ H P ∧ ∀ x H', P x H' → Q x H'
theorem pe_cut {X : Cx} {e : Expr} {te : TE} (he : PE X e te) : PE X e (tCutE te) := by
  constructor
  rintro pins s σ H Q I ⟨P, h, k⟩
  exact thn (he.run pins s σ H P I h) fun v s1 ⟨x, H', I', r, p⟩ => ⟨x, H', I', r, k x H' p⟩
/-! formulas as data -/
inductive Fml where
  | var (x : Str)
  | num (i : Int)
  | neg (a : Fml)
  | bin (w : Str) (a b : Fml)
namespace Fml
def d : Fml → PyData
  | .var x => .str x
  | .num i => .int i
  | .neg a => .tuple [.str "not", a.d]
  | .bin w a b => .tuple [.str w, a.d, b.d]
/-- how deep, a leaf is 0 -/
def dep : Fml → Nat
  | .var _ => 0
  | .num _ => 0
  | .neg a => a.dep + 1
  | .bin _ a b => max a.dep b.dep + 1
def lvs : Fml → Nat
  | .var _ => 1
  | .num _ => 1
  | .neg a => a.lvs
  | .bin _ a b => a.lvs + b.lvs
/-- the names at the leaves, from the left, each occurrence -/
def nms : Fml → List Str
  | .var x => [x]
  | .num _ => []
  | .neg a => a.nms
  | .bin _ a b => a.nms ++ b.nms
def cmb (w : Str) (x y : Int) : Int := if w = "plus" then x + y else if w = "minus" then x - y else if w = "or" then 1 - (1 - x) * (1 - y) else x * y
def val (q : Int) (g : Str → Int) : Fml → Int
  | .var x => g x % q
  | .num i => i % q
  | .neg a => (1 - a.val q g) % q
  | .bin w a b => cmb w (a.val q g) (b.val q g) % q
/-- an operator of two -/
def isW (w : Str) : Prop := w = "plus" ∨ w = "minus" ∨ w = "times" ∨ w = "and" ∨ w = "or"
theorem isW.ne {w : Str} (h : isW w) : w ≠ "not" := by
  rcases h with rfl | rfl | rfl | rfl | rfl <;> decide +kernel
/-- every word is an operator of two -/
def ok : Fml → Prop
  | .var _ => True
  | .num _ => True
  | .neg a => a.ok
  | .bin w a b => isW w ∧ a.ok ∧ b.ok
theorem nms_len : ∀ F : Fml, F.nms.length ≤ F.lvs
  | .var _ => Nat.le_refl _
  | .num _ => Nat.zero_le _
  | .neg a => nms_len a
  | .bin _ a b => by
    have h1 := nms_len a
    have h2 := nms_len b
    show (a.nms ++ b.nms).length ≤ a.lvs + b.lvs
    rw [List.length_append]
    omega
theorem lvs_pos : ∀ F : Fml, 0 < F.lvs
  | .var _ => Nat.one_pos
  | .num _ => Nat.one_pos
  | .neg a => lvs_pos a
  | .bin _ a b => Nat.add_pos_left (lvs_pos a) _
theorem val_rs {q : Int} (hq : 0 < q) (g : Str → Int) : ∀ F : Fml, 0 ≤ F.val q g ∧ F.val q g < q
  | .var x => ⟨Int.emod_nonneg _ (by omega), Int.emod_lt_of_pos _ hq⟩
  | .num i => ⟨Int.emod_nonneg _ (by omega), Int.emod_lt_of_pos _ hq⟩
  | .neg a => ⟨Int.emod_nonneg _ (by omega), Int.emod_lt_of_pos _ hq⟩
  | .bin w a b => ⟨Int.emod_nonneg _ (by omega), Int.emod_lt_of_pos _ hq⟩
/-- the polynomial's value, not reduced -/
def pol (g : Str → Int) : Fml → Int
  | .var x => g x
  | .num i => i
  | .neg a => 1 - a.pol g
  | .bin w a b => cmb w (a.pol g) (b.pol g)
theorem cmb_cg {q : Int} (w : Str) {a b c d : Int} (h : Cg q a b) (k : Cg q c d) : Cg q (cmb w a c) (cmb w b d) := by
  unfold cmb
  by_cases h1 : w = "plus"
  · rw [if_pos h1, if_pos h1]; exact h.add k
  rw [if_neg h1, if_neg h1]
  by_cases h2 : w = "minus"
  · rw [if_pos h2, if_pos h2]; exact h.sub k
  rw [if_neg h2, if_neg h2]
  by_cases h3 : w = "or"
  · rw [if_pos h3, if_pos h3]; exact (Cg.refl q 1).sub (((Cg.refl q 1).sub h).mul ((Cg.refl q 1).sub k))
  rw [if_neg h3, if_neg h3]; exact h.mul k
theorem val_cg (q : Int) (g : Str → Int) : ∀ F : Fml, Cg q (F.val q g) (F.pol g)
  | .var x => Cg.mod q _
  | .num i => Cg.mod q _
  | .neg a => (Cg.mod q _).trans ((Cg.refl q 1).sub (val_cg q g a))
  | .bin w a b => (Cg.mod q _).trans (cmb_cg w (val_cg q g a) (val_cg q g b))
theorem val_pol {q : Int} (hq : 0 < q) (g : Str → Int) (F : Fml) : F.val q g = F.pol g % q := by
  obtain ⟨h0, h1⟩ := val_rs hq g F
  have e : F.val q g % q = F.pol g % q := val_cg q g F
  rw [← e, Int.emod_eq_of_lt h0 h1]
theorem cmb_plus (x y : Int) : cmb "plus" x y = x + y := by unfold cmb; rw [if_pos rfl]
theorem cmb_minus (x y : Int) : cmb "minus" x y = x - y := by unfold cmb; rw [if_neg (by decide +kernel), if_pos rfl]
theorem cmb_or (x y : Int) : cmb "or" x y = 1 - (1 - x) * (1 - y) := by unfold cmb; rw [if_neg (by decide +kernel), if_neg (by decide +kernel), if_pos rfl]
theorem cmb_times (x y : Int) : cmb "times" x y = x * y := by unfold cmb; rw [if_neg (by decide +kernel), if_neg (by decide +kernel), if_neg (by decide +kernel)]
theorem cmb_and (x y : Int) : cmb "and" x y = x * y := by unfold cmb; rw [if_neg (by decide +kernel), if_neg (by decide +kernel), if_neg (by decide +kernel)]
/-- a leaf, or a word and one or two operands -/
theorem view (F : Fml) : (∃ x, F = .var x) ∨ (∃ i, F = .num i) ∨ (∃ a, F = .neg a) ∨ ∃ w a b, F = .bin w a b := by
  cases F with
  | var x => exact .inl ⟨x, rfl⟩
  | num i => exact .inr (.inl ⟨i, rfl⟩)
  | neg a => exact .inr (.inr (.inl ⟨a, rfl⟩))
  | bin w a b => exact .inr (.inr (.inr ⟨w, a, b, rfl⟩))
end Fml
theorem dp_str {K : PySem.W.Frag} {H : Hp} {v : V} {x : Str} (h : Dp K H v (.str x)) : v = .str x := by cases h; rfl
theorem dp_tup2 {K : PySem.W.Frag} {H : Hp} {v : V} {d e : PyData} (h : Dp K H v (.tuple [d, e])) : ∃ (a : Addr) (u u2 : V), v = .ref a ∧ SqT K H a [u, u2] ∧ Dp K H u d ∧ Dp K H u2 e := by
  obtain ⟨a, xs, rfl, hs, hd⟩ := dp_tuple h
  cases hd with
  | cons h1 hd =>
    cases hd with
    | cons h2 hd =>
      cases hd
      exact ⟨a, _, _, rfl, hs, h1, h2⟩
theorem dp_tup3 {K : PySem.W.Frag} {H : Hp} {v : V} {d e f : PyData} (h : Dp K H v (.tuple [d, e, f])) : ∃ (a : Addr) (u u2 u3 : V), v = .ref a ∧ SqT K H a [u, u2, u3] ∧ Dp K H u d ∧ Dp K H u2 e ∧ Dp K H u3 f := by
  obtain ⟨a, xs, rfl, hs, hd⟩ := dp_tuple h
  cases hd with
  | cons h1 hd =>
    cases hd with
    | cons h2 hd =>
      cases hd with
      | cons h3 hd =>
        cases hd
        exact ⟨a, _, _, _, rfl, hs, h1, h2, h3⟩
theorem dp_neg {K : PySem.W.Frag} {H : Hp} {v : V} {F : Fml} (h : Dp K H v (Fml.neg F).d) : ∃ (a : Addr) (u : V), v = .ref a ∧ SqT K H a [.str "not", u] ∧ Dp K H u F.d := by
  rw [Fml.d] at h
  obtain ⟨a, u, u2, rfl, hs, h1, h2⟩ := dp_tup2 h
  have e := dp_str h1
  rw [e] at hs
  exact ⟨a, u2, rfl, hs, h2⟩
theorem dp_bin {K : PySem.W.Frag} {H : Hp} {v : V} {w : Str} {F G : Fml} (h : Dp K H v (Fml.bin w F G).d) : ∃ (a : Addr) (u u2 : V), v = .ref a ∧ SqT K H a [.str w, u, u2] ∧ Dp K H u F.d ∧ Dp K H u2 G.d := by
  rw [Fml.d] at h
  obtain ⟨a, u, u2, u3, rfl, hs, h1, h2, h3⟩ := dp_tup3 h
  have e := dp_str h1
  rw [e] at hs
  exact ⟨a, u2, u3, rfl, hs, h2, h3⟩
theorem dpvar (K : PySem.W.Frag) (H : Hp) (x : Str) : Dp K H (.str x) (Fml.var x).d := .str x
theorem dpnum (K : PySem.W.Frag) (H : Hp) (i : Int) : Dp K H (.int i) (Fml.num i).d := .int i
theorem dpneg {K : PySem.W.Frag} {H : Hp} {t : Addr} {u : V} {a : Fml} (h : SqT K H t [.str "not", u]) (hu : Dp K H u a.d) : Dp K H (.ref t) (Fml.neg a).d := by
  rw [Fml.d]
  exact .tup h (.cons (.str _) (.cons hu .nil))
theorem dpbin {K : PySem.W.Frag} {H : Hp} {t : Addr} {w : Str} {u v : V} {a b : Fml} (h : SqT K H t [.str w, u, v]) (hu : Dp K H u a.d) (hv : Dp K H v b.d) : Dp K H (.ref t) (Fml.bin w a b).d := by
  rw [Fml.d]
  exact .tup h (.cons (.str _) (.cons hu (.cons hv .nil)))
/-- a formula's tuple is made -/
theorem new_neg {K : PySem.W.Frag} {H : Hp} {t : Addr} {u : V} {a : Fml} (n : H t = none) (hu : Dp K H u a.d) : Same H (upd H t (.tup [.str "not", u])) ∧ Dp K (upd H t (.tup [.str "not", u])) (.ref t) (Fml.neg a).d :=
  ⟨same_new n _, dpneg (SqT.of upd_same) (dp_same (same_new n _) _ _ hu)⟩
theorem new_bin {K : PySem.W.Frag} {H : Hp} {t : Addr} {w : Str} {u v : V} {a b : Fml} (n : H t = none) (hu : Dp K H u a.d) (hv : Dp K H v b.d) : Same H (upd H t (.tup [.str w, u, v])) ∧ Dp K (upd H t (.tup [.str w, u, v])) (.ref t) (Fml.bin w a b).d :=
  ⟨same_new n _, dpbin (SqT.of upd_same) (dp_same (same_new n _) _ _ hu) (dp_same (same_new n _) _ _ hv)⟩
/-! dicts with written keys -/
theorem putK_fresh {kvs : List (Key × V)} {k : Key} {v : V} (h : k ∉ kvs.map (·.1)) : putK kvs k v = kvs ++ [(k, v)] := by
  unfold putK
  rw [if_neg]
  intro c
  obtain ⟨p, hp, e⟩ := List.any_eq_true.mp c
  exact h (List.mem_map.mpr ⟨p, hp, of_decide_eq_true e⟩)
theorem mergeK_app : ∀ (more acc : List (Key × V)), ((acc ++ more).map (·.1)).Nodup → mergeK acc more = acc ++ more
  | [], acc, _ => by rw [List.append_nil]; rfl
  | (k, v) :: r, acc, h => by
    have e : acc ++ (k, v) :: r = (acc ++ [(k, v)]) ++ r := by rw [List.append_assoc]; rfl
    have n : k ∉ acc.map (·.1) := fun z => by
      rw [List.map_append, List.map_cons] at h
      exact (List.nodup_append.mp h).2.2 k z k List.mem_cons_self rfl
    show mergeK (putK acc k v) r = _
    rw [putK_fresh n, mergeK_app r (acc ++ [(k, v)]) (by rw [← e]; exact h), e]
theorem mergeK_all {kvs : List (Key × V)} (h : (kvs.map (·.1)).Nodup) : mergeK [] kvs = kvs := mergeK_app kvs [] h
theorem valN {a b : Str} {v : V} {r : List (Key × V)} {u : V} (h : a ≠ b) (k : valV r (.inr b) = some u) : valV ((.inr a, v) :: r) (.inr b) = some u := (valV_neg fun z => h (Sum.inr.inj z)).trans k
theorem val1 {a : Str} {v : V} {r : List (Key × V)} : valV ((.inr a, v) :: r) (.inr a : Key) = some v := valV_pos rfl
/-- a loop over a locked dict's keys -/
theorem for_keys {d : Addr} {o : Obj} {kvs : List (Key × V)} {g : TG} {tb : TS} {D : Ends} {σ : L2.St} {H : Hp} (Pv : Nat → L2.St → Hp → Prop) (h0 : Pv 0 σ H) (hl : ∀ i σ H, i ≤ kvs.length → Pv i σ H → H d = some (.frz o (.dK kvs)))
    (hs : ∀ (i : Nat) (k : Key) (v : V) (σ : L2.St) (H : Hp), kvs[i]? = some (k, v) → Pv i σ H → g (kV k) σ H fun σ2 H2 => tb { D with nx := Pv (i + 1), ct := Pv (i + 1), bk := D.nx } σ2 H2) (hd : ∀ σ H, Pv kvs.length σ H → D.nx σ H) :
    ForOf (Itk d o kvs) g tb D σ H := by
  refine ⟨fun i m ρ h => m = kvs.length - i ∧ i ≤ kvs.length ∧ Pv i ρ h, ⟨_, rfl, Nat.zero_le _, h0⟩, ?_⟩
  rintro i m ρ h ⟨rfl, hi, p⟩
  have q := hl i ρ h hi p
  by_cases l : i < kvs.length
  · refine .inr ⟨⟨q, l⟩, Pv (i + 1), fun ρ' h' p' => ⟨kvs.length - (i + 1), by omega, rfl, l, p'⟩, ?_⟩
    rintro z h' ⟨rfl, k, v, e, rfl⟩
    exact hs i k v ρ h' e p
  · obtain rfl : i = kvs.length := by omega
    exact .inl ⟨⟨q, Nat.le_refl _⟩, hd ρ h p⟩
/-! a comprehension of two fors that lays lists end to end -/
theorem cutV_drop (xs : List V) (k : Nat) : cutV xs (some (k : Int)) none = xs.drop k := by
  unfold cutV
  rw [HT.sIx_none, HT.sIx_nat]
  by_cases h : k ≤ xs.length
  · rw [Nat.min_eq_left h, List.take_of_length_le (by rw [List.length_drop]; exact Nat.le_refl _)]
  · rw [Nat.min_eq_right (by omega), List.drop_length, List.drop_of_length_le (by omega), List.take_nil]
/-- the first k lists, end to end -/
def flatN (ys : Nat → List V) : Nat → List V
  | 0 => []
  | k + 1 => flatN ys k ++ ys k
theorem lc2_flat {K : PySem.W.Frag} {a : Addr} {xs : List V} {g : TG} {wi1 : TI} {j2 : Nat} {vs vs1 : List Nat} {σ : L2.St} {H1 : Hp} {D : Addr} {Qd : Hp → Prop} (ys : Nat → List V) (hD : H1 D = none) (hs0 : SqT K H1 a xs)
    (big : ∀ k, k ≤ xs.length → (flatN ys k).length ≤ 100000)
    (hs : ∀ i x H', xs[i]? = some x → Same H1 H' → ∀ C : L2.St → Hp → Prop, (∀ σ2, wipe σ2 vs = wipe σ vs → (∀ y, wipe (((wipe σ2 vs1).set j2 (some y))) vs1 = wipe σ2 vs1 ∧ ((wipe σ2 vs1).set j2 (some y))[j2]? = some (some y)) →
        (∀ R : It → Hp → Prop, (∀ (L : Addr) (H'' : Hp), Same H' H'' → H' L = none → H'' L = some (.lst (ys i)) → R (Itl K L) H'') → wi1 σ2 H' R) → C σ2 H') → g x (wipe σ vs) H' C)
    (hd : ∀ H', Same H1 H' → H' D = some (.lst (flatN ys xs.length)) → Qd H') :
    ∃ W : Nat → Nat → Hp → Prop, (∃ m, W 0 m (upd H1 D (.lst []))) ∧ ∀ i m H, W i m H →
      ((Itt K a).stop i H ∧ Qd H) ∨ ((Itt K a).go i H ∧ ∃ Nx : Hp → Prop, (∀ H', Nx H' → ∃ m', m' < m ∧ W (i + 1) m' H') ∧ ∀ x H', (Itt K a).yld i H x H' → g x (wipe σ vs) H' fun σ2 H2 => wipe σ2 vs = wipe σ vs ∧ tYes σ2 H2 fun b H3 =>
        if b = true then wi1 σ2 H3 fun J1 H4 => ∃ W1 : Nat → Nat → Hp → Prop, (∃ m, W1 0 m H4) ∧ ∀ j k H, W1 j k H →
          (J1.stop j H ∧ Nx H) ∨ (J1.go j H ∧ ∃ Nx1 : Hp → Prop, (∀ H', Nx1 H' → ∃ k', k' < k ∧ W1 (j + 1) k' H') ∧ ∀ x H', J1.yld j H x H' → gName j2 x (wipe σ2 vs1) H' fun σ3 H5 => wipe σ3 vs1 = wipe σ2 vs1 ∧ tYes σ3 H5 fun b H6 =>
            if b = true then tVar j2 σ3 H6 fun y H7 => ∃ acc, H7 D = some (.lst acc) ∧ acc.length < sizeLine ∧ Nx1 (upd H7 D (.lst (acc ++ [y]))) else Nx1 H6)
        else Nx H3) := by
  refine ⟨fun i m H => m = xs.length - i ∧ i ≤ xs.length ∧ Same H1 H ∧ H D = some (.lst (flatN ys i)), ⟨_, rfl, Nat.zero_le _, same_new hD _, upd_same⟩, ?_⟩
  rintro i m H ⟨rfl, hi, sm, eD⟩
  have q := Same.seqT sm hs0
  by_cases l : i < xs.length
  rotate_left
  · obtain rfl : i = xs.length := by omega
    exact .inl ⟨⟨xs, q, Nat.le_refl _⟩, hd H sm eD⟩
  refine .inr ⟨⟨xs, xs[i], q, by simp [l]⟩, fun H' => Same H1 H' ∧ H' D = some (.lst (flatN ys (i + 1))), fun H' p => ⟨xs.length - (i + 1), by omega, rfl, l, p.1, p.2⟩, ?_⟩
  rintro x _ ⟨rfl, hx⟩
  refine hs i x _ (hx xs q) sm _ fun σ2 e2 hj hw => ⟨e2, ?_⟩
  unfold tYes
  dsimp only
  rw [if_pos rfl]
  refine hw _ fun L H2 s2 fL eL => ?_
  have nL : L ≠ D := fun z => by rw [z, eD] at fL; cases fL
  have bg := big (i + 1) l
  refine ⟨fun j k H => k = (ys i).length - j ∧ j ≤ (ys i).length ∧ Same H1 H ∧ H L = some (.lst (ys i)) ∧ H D = some (.lst (flatN ys i ++ (ys i).take j)), ⟨_, rfl, Nat.zero_le _, sm.trans s2, eL, by rw [List.take_zero, List.append_nil]; exact s2 _ _ eD⟩, ?_⟩
  rintro j k H3 ⟨rfl, hj2, s3, eL3, eD3⟩
  by_cases l2 : j < (ys i).length
  rotate_left
  · obtain rfl : j = (ys i).length := by omega
    rw [List.take_length] at eD3
    exact .inl ⟨⟨ys i, SqL.of eL3, Nat.le_refl _⟩, s3, eD3⟩
  refine .inr ⟨⟨ys i, (ys i)[j], SqL.of eL3, by simp [l2]⟩, fun H' => Same H1 H' ∧ H' L = some (.lst (ys i)) ∧ H' D = some (.lst (flatN ys i ++ (ys i).take (j + 1))), fun H' p => ⟨(ys i).length - (j + 1), by omega, rfl, l2, p⟩, ?_⟩
  rintro y _ ⟨rfl, hy⟩
  obtain ⟨w1, w2⟩ := hj y
  refine ⟨w1, ?_⟩
  rw [if_pos rfl]
  refine ⟨y, w2, _, eD3, ?_, ?_⟩
  · have : (flatN ys i ++ (ys i).take j).length ≤ (flatN ys (i + 1)).length := by
      show _ ≤ (flatN ys i ++ ys i).length
      rw [List.length_append, List.length_append, List.length_take]
      omega
    exact Nat.lt_of_le_of_lt (Nat.le_trans this bg) (by decide)
  · refine ⟨same_mut s3 hD, by rw [upd_ne nL]; exact eL3, ?_⟩
    have ey : (ys i)[j]? = some y := hy _ (SqL.of eL3)
    rw [upd_same, List.take_add_one, ey, List.append_assoc]
    rfl
end Vx

namespace Vx
open PySem PySem.Spec PyProof.Rows L2
/-! a dict of texts and ints is shown -/
def kD : Key → PyData
  | .inl i => .int i
  | .inr x => .str x
def vD : V → PyData
  | .int i => .int i
  | _ => .none
def dkD (kvs : List (Key × V)) : PyData := .dict (kvs.map fun kv => (kD kv.1, vD kv.2))
/-- short names, small numbers -/
def Plain (kv : Key × V) : Prop := ∃ (x : Str) (i : Int), kv = (.inr x, .int i) ∧ (∀ c ∈ x.cps.toList, c < 16 ^ 8) ∧ x.cps.size ≤ 100 ∧ i.natAbs < 10 ^ 12
theorem plain_showable : ∀ kvs : List (Key × V), (∀ kv ∈ kvs, Plain kv) → PyData.showableKv (kvs.map fun kv => (kD kv.1, vD kv.2)) = true
  | [], _ => rfl
  | kv :: r, h => by
    obtain ⟨x, i, rfl, _, _, hi⟩ := h kv List.mem_cons_self
    have ih := plain_showable r fun q hq => h q (List.mem_cons_of_mem _ hq)
    show (true && decide (i.natAbs.log2 < 1920) && PyData.showableKv _) = true
    have l : i.natAbs.log2 < 40 := by
      by_cases e : i.natAbs = 0
      · rw [e]; decide
      · exact (Nat.log2_lt e).mpr (Nat.lt_trans hi (by decide))
    rw [ih, decide_eq_true (Nat.lt_of_lt_of_le l (by decide))]
    rfl
theorem plain_short : ∀ kvs : List (Key × V), (∀ kv ∈ kvs, Plain kv) → PyData.leavesShortKv 13 (kvs.map fun kv => (kD kv.1, vD kv.2)) = true ∧ PyData.bulkKv (kvs.map fun kv => (kD kv.1, vD kv.2)) ≤ 102 * kvs.length ∧ PyData.depthKv (kvs.map fun kv => (kD kv.1, vD kv.2)) = 0
  | [], _ => ⟨rfl, Nat.zero_le _, rfl⟩
  | kv :: r, h => by
    obtain ⟨x, i, rfl, hc, hs, hi⟩ := h kv List.mem_cons_self
    obtain ⟨h1, h2, h3⟩ := plain_short r fun q hq => h q (List.mem_cons_of_mem _ hq)
    refine ⟨?_, ?_, ?_⟩
    · show ((x.cps.toList.all fun c => decide (c < 16 ^ 8)) && decide ((PyData.shown (.int i)).length ≤ 13) && PyData.leavesShortKv 13 _) = true
      rw [h1, decide_eq_true (PyData.shown_int_le hi), List.all_eq_true.mpr fun c hcm => decide_eq_true (hc c hcm)]
      rfl
    · show x.cps.size + 0 + 2 + PyData.bulkKv _ ≤ 102 * (r.length + 1)
      omega
    · show max (max 0 0) (PyData.depthKv _) = 0
      rw [h3]; rfl
theorem plain_reads {P : Program} {w : World} {h : Heap} : ∀ {kvs : List (Key × V)} {vs : List (Key × Value)} {es : List DictEntry}, (∀ kv ∈ kvs, Plain kv) → KV kvs vs → Pairs (mixKind P w) es vs →
    ReadsAll h (es.map (·.key)) ((kvs.map fun kv => (kD kv.1, vD kv.2)).map (·.1)) [] ∧ ReadsAll h (es.map (·.val)) ((kvs.map fun kv => (kD kv.1, vD kv.2)).map (·.2)) []
  | [], _, _, _, .nil, .nil => ⟨.nil, .nil⟩
  | kv :: kvs, kw :: vs, e :: es, hp, .cons r rr, .cons a b c => by
    obtain ⟨x, i, rfl, _⟩ := hp _ List.mem_cons_self
    obtain ⟨h1, h2⟩ := plain_reads (fun q hq => hp q (List.mem_cons_of_mem _ hq)) rr c
    obtain ⟨r1, r2⟩ := r
    replace a : keyIs kw.1 e.key = true := a
    rw [← r1] at a
    obtain ⟨t, u⟩ : (∃ t, e.key = Value.str x t) ∧ ∃ t, e.val = Value.int i t := by
      constructor
      · rcases keyIs_shape a with ⟨j, t, q, _⟩ | ⟨y, t, q, q2⟩
        · cases q
        · cases q
          exact ⟨t, q2⟩
      · obtain ⟨t, q⟩ : ∃ t, kw.2 = Value.int i t := r2
        exact ⟨t, b.trans q⟩
    obtain ⟨t, et⟩ := t
    obtain ⟨u, eu⟩ := u
    refine ⟨?_, ?_⟩
    · show ReadsAll h (e.key :: _) (PyData.str x :: _) ([] ++ [])
      rw [et]
      exact .cons (.str x t) h1
    · show ReadsAll h (e.val :: _) (PyData.int i :: _) ([] ++ [])
      rw [eu]
      exact .cons (.int i u) h2
/-- repr(a dict of short names and small numbers) -/
def rReprDK : List V → Hp → VK → Prop := fun xs H Q => ∃ a kvs, xs = [.ref a] ∧ H a = some (.dK kvs) ∧ (∀ kv ∈ kvs, Plain kv) ∧ kvs.length ≤ 1000 ∧ Q (.str (dkD kvs).shown) H
theorem call_reprDK {X : Cx} (hg : X.A.guards = some []) (hu : X.A.units + 64 < cLine) : CallR X (.builtin "repr") rReprDK := by
  intro pins s σ H xs us Q I r h
  obtain ⟨a, kvs, rfl, ha, hp, hl, q⟩ := h
  obtain ⟨u, rfl, ru⟩ := vals1 r
  obtain rfl : u = Value.ref a := ru
  obtain ⟨_, ns, vs, rk, o, es, ep, ho, hx, hd, _, hpr, _⟩ := I.hok a _ ha
  obtain ⟨r1, r2⟩ := plain_reads (h := s.heap) hp rk hpr
  have rd : Reads s.heap (.ref a) (dkD kvs) (a :: [] ++ []) := .dict ho hx.1 hd r1 r2
  obtain ⟨p1, p2, p3⟩ := plain_short kvs hp
  have dep : (dkD kvs).depth = 1 := by show PyData.depthKv _ + 1 = 1; rw [p3]
  refine repr_of_reads' rd (plain_showable kvs hp) (fun _ => ?_) hg (by rw [dep]; omega) (fun _ _ e => e) (fun h' u tk hk => ⟨.str (dkD kvs).shown, H, I.kept hk, ⟨u, rfl⟩, q⟩) ?_
  · intro z
    rw [List.append_nil, List.mem_singleton] at z
    rw [← z] at ns
    exact absurd ns (by decide)
  · exact PyData.shown_fits_bulk (B := 13) (by decide) (by decide) p1 (Nat.le_trans p2 (by omega))
end Vx
namespace Vx
open PySem PySem.Spec PyProof.Rows L2
/-! the names in order are one list -/
theorem str_ext {a b : Str} (h : a.cps.toList = b.cps.toList) : a = b := by
  cases a with
  | mk x => cases b with
    | mk y => exact congrArg Str.mk (Array.toList_inj.mp h)
theorem rising_all : ∀ (l : List Str) (p : Str), risingS p l = true → (∀ x ∈ l, p.cps.toList ≤ x.cps.toList) ∧ l.Pairwise fun a b => a.cps.toList ≤ b.cps.toList
  | [], _, _ => ⟨(fun x h => nomatch h), List.Pairwise.nil⟩
  | y :: l, p, h => by
    obtain ⟨h1, h2⟩ := (Bool.and_eq_true _ _).mp (show (!ltCps y.cps.toList p.cps.toList && risingS y l) = true from h)
    obtain ⟨i1, i2⟩ := rising_all l y h2
    have le : p.cps.toList ≤ y.cps.toList := by
      rw [ltCps_eq] at h1
      exact List.not_lt.mp (of_decide_eq_false (by simpa using h1))
    refine ⟨fun x hx => ?_, .cons (fun x hx => i1 x hx) i2⟩
    rcases List.mem_cons.mp hx with rfl | hx
    · exact le
    · exact List.le_trans le (i1 x hx)
theorem sorted_pw : ∀ l : List Str, sortedS l = true → l.Pairwise fun a b => a.cps.toList ≤ b.cps.toList
  | [], _ => List.Pairwise.nil
  | y :: l, h => by
    obtain ⟨i1, i2⟩ := rising_all l y h
    exact .cons (fun x hx => i1 x hx) i2
theorem sorted_eq : ∀ {l m : List Str}, l.Nodup → m.Nodup → (l.Pairwise fun a b => a.cps.toList ≤ b.cps.toList) → (m.Pairwise fun a b => a.cps.toList ≤ b.cps.toList) → (∀ x, x ∈ l ↔ x ∈ m) → l = m
  | [], [], _, _, _, _, _ => rfl
  | [], y :: m, _, _, _, _, h => absurd ((h y).mpr List.mem_cons_self) (fun z => nomatch z)
  | y :: l, [], _, _, _, _, h => absurd ((h y).mp List.mem_cons_self) (fun z => nomatch z)
  | x :: l, y :: m, n1, n2, p1, p2, h => by
    obtain ⟨a1, a2⟩ := List.nodup_cons.mp n1
    obtain ⟨b1, b2⟩ := List.nodup_cons.mp n2
    obtain ⟨c1, c2⟩ := List.pairwise_cons.mp p1
    obtain ⟨d1, d2⟩ := List.pairwise_cons.mp p2
    have e : x = y := by
      rcases List.mem_cons.mp ((h x).mp List.mem_cons_self) with e | hx
      · exact e
      · rcases List.mem_cons.mp ((h y).mpr List.mem_cons_self) with e | hy
        · exact e.symm
        · exact str_ext (List.le_antisymm (c1 y hy) (d1 x hx))
    subst e
    rw [sorted_eq a2 b2 c2 d2 fun z => ?_]
    constructor
    · intro hz
      rcases List.mem_cons.mp ((h z).mp (List.mem_cons_of_mem _ hz)) with rfl | q
      · exact absurd hz a1
      · exact q
    · intro hz
      rcases List.mem_cons.mp ((h z).mpr (List.mem_cons_of_mem _ hz)) with rfl | q
      · exact absurd hz b1
      · exact q
end Vx

namespace Vx
open PySem PySem.Spec PyProof.Rows L2
/-! formulas that are drawn -/
def nameB (x : Str) : Bool := decide (0 < x.cps.size) && decide (x.cps.size ≤ 6) && x.cps.toList.all fun c => decide (97 ≤ c) && decide (c ≤ 122)
def Fml.lok (q : Int) : Fml → Prop
  | .var x => nameB x = true
  | .num i => 0 ≤ i ∧ i < q
  | .neg a => a.lok q
  | .bin _ a b => a.lok q ∧ b.lok q
theorem Fml.lok_nms {q : Int} : ∀ {F : Fml}, F.lok q → ∀ x ∈ F.nms, nameB x = true
  | .var y, h, x, hx => by rw [List.mem_singleton.mp hx]; exact h
  | .num i, _, x, hx => nomatch hx
  | .neg a, h, x, hx => Fml.lok_nms (F := a) h x hx
  | .bin _ a b, h, x, hx => by
    rcases List.mem_append.mp hx with z | z
    · exact Fml.lok_nms h.1 x z
    · exact Fml.lok_nms h.2 x z
theorem nameB_low {x : Str} (h : nameB x = true) : (∀ c ∈ x.cps.toList, c < 16 ^ 8) ∧ x.cps.size ≤ 100 := by
  unfold nameB at h
  simp only [Bool.and_eq_true, decide_eq_true_eq, List.all_eq_true] at h
  obtain ⟨⟨h1, h2⟩, h3⟩ := h
  exact ⟨fun c hc => Nat.lt_of_le_of_lt (h3 c hc).2 (by decide), by omega⟩
mutual
theorem Fml.noL : ∀ F : Fml, Vx.noL F.d = true
  | .var x => rfl
  | .num i => rfl
  | .neg a => by
    rw [Fml.d]
    show (true && (Vx.noL a.d && true)) = true
    rw [Fml.noL a]; rfl
  | .bin w a b => by
    rw [Fml.d]
    show (true && (Vx.noL a.d && (Vx.noL b.d && true))) = true
    rw [Fml.noL a, Fml.noL b]; rfl
end
/-- how many tuples -/
def Fml.tps : Fml → Nat
  | .var _ => 0
  | .num _ => 0
  | .neg a => a.tps + 1
  | .bin _ a b => a.tps + b.tps + 1
theorem tps_zero {F : Fml} (h : F.dep = 0) : F.tps = 0 := by cases F <;> first | rfl | (rw [Fml.dep] at h; omega)
/-- the pen's list and the counter's list may have changed -/
structure Dn (p t : Addr) (H H' : Hp) : Prop where
  but : ∀ b o, b ≠ p → b ≠ t → H b = some o → H' b = some o
  pen : ∀ c i m, H p = some (.lst [.ref c, .int i, .int m]) → ∃ j k, H' p = some (.lst [.ref c, .int j, .int k])
theorem Dn.refl (p t : Addr) (H : Hp) : Dn p t H H := ⟨fun _ _ _ _ h => h, fun c i m h => ⟨i, m, h⟩⟩
theorem Dn.trans {p t : Addr} {H H1 H2 : Hp} (a : Dn p t H H1) (b : Dn p t H1 H2) : Dn p t H H2 := ⟨fun c o n m h => b.but c o n m (a.but c o n m h), fun c i m h => by
  obtain ⟨j, k, h1⟩ := a.pen c i m h
  exact b.pen c j k h1⟩
theorem Dn.dr {p t : Addr} {H H' : Hp} (d : Dr p H H') : Dn p t H H' := ⟨fun b o n _ h => d.1 b o n h, d.2⟩
theorem Dn.same {p t : Addr} {H H' : Hp} (s : Same H H') : Dn p t H H' := .dr (.same s)
theorem Dn.put {p t : Addr} {H : Hp} {o : HO} (n : t ≠ p) : Dn p t H (upd H t o) := ⟨fun b u _ n2 h => by rw [upd_ne n2]; exact h, fun c i m h => ⟨i, m, by rw [upd_ne (Ne.symm n)]; exact h⟩⟩
theorem Dn.data {K : PySem.W.Frag} {p t : Addr} {H H' : Hp} {d : PyData} {v : V} (n : Dn p t H H') (cp : Chg H p) (ct : Chg H t) (hd : noL d = true) (h : Dp K H v d) : Dp K H' v d := by
  let Hm : Hp := fun b => if b = t then H b else H' b
  have b1 : But p H Hm := fun b o nb hb => by
    show (if b = t then H b else H' b) = some o
    by_cases e : b = t
    · rw [if_pos e]; exact hb
    · rw [if_neg e]; exact n.but b o nb e hb
  have b2 : But t Hm H' := fun b o nb hb => by
    have : (if b = t then H b else H' b) = some o := hb
    rw [if_neg nb] at this
    exact this
  have c2 : Chg Hm t := by
    rcases ct with ⟨xs, e⟩ | ⟨kvs, e⟩
    · exact .inl ⟨xs, (if_pos rfl).trans e⟩
    · exact .inr ⟨kvs, (if_pos rfl).trans e⟩
  exact dp_but c2 b2 d v hd (dp_but cp b1 d v hd h)
theorem Pen.dn {K : PySem.W.Frag} {p t : Addr} {H H' : Hp} {k k' : Int} (h : Pen K H p) (n : Dn p t H H') (e : H t = some (.lst [.int k])) (e' : H' t = some (.lst [.int k'])) : Pen K H' p := by
  obtain ⟨c, ns, i, m, h1, h2, h3⟩ := h
  obtain ⟨j, l, h4⟩ := n.pen c i m h1
  by_cases z : c = t
  · subst z
    rcases h2 with (h2 | ⟨o, h2⟩) | h2
    · exact ⟨c, [k'], j, l, h4, SqL.of e', h3⟩
    · rw [e] at h2; cases h2
    · exact ⟨c, ns, j, l, h4, .inr h2, h3⟩
  · refine ⟨c, ns, j, l, h4, ?_, h3⟩
    rcases h2 with (h2 | ⟨o, h2⟩) | h2
    · exact .inl (.inl (n.but _ _ h3 z h2))
    · exact .inl (.inr ⟨o, n.but _ _ h3 z h2⟩)
    · exact .inr h2
theorem pen_ne {K : PySem.W.Frag} {H : Hp} {p t : Addr} {k : Int} (h : Pen K H p) (e : H t = some (.lst [.int k])) : t ≠ p := fun z => by
  obtain ⟨c, ns, i, m, h1, _⟩ := h
  rw [← z, e] at h1
  cases h1
theorem at_memV {xs : List V} {i : Int} (h0 : 0 ≤ i) (h : i < xs.length) : ∃ v ∈ xs, atI xs i = some v := by
  have hk : i.toNat < xs.length := by omega
  have e : i = ((i.toNat : Nat) : Int) := by omega
  refine ⟨xs[i.toNat], List.getElem_mem hk, ?_⟩
  generalize hg : xs[i.toNat] = v
  rw [e]
  subst hg
  exact atI_nat (List.getElem?_eq_getElem hk)
end Vx
namespace Vx
open PySem PySem.Spec PyProof.Rows L2
/-! assignments that are drawn -/
theorem pairs_of {K : PySem.W.Frag} {H : Hp} {Pk : Nat → Str → Int → Prop} : ∀ {acc : List V} {ds : List PyData} (o : Nat), DpAll K H acc ds → (∀ (k : Nat) d, ds[k]? = some d → ∃ x i, d = .tuple [.str x, .int i] ∧ Pk (o + k) x i) →
    ∃ (ps : List Addr) (kvs : List (Key × V)), acc = ps.map V.ref ∧ Paired (fun p (kv : Key × V) => SqT K H p [kV kv.1, kv.2]) ps kvs ∧ kvs.length = ds.length ∧ ∀ (k : Nat) kv, kvs[k]? = some kv → ∃ x i, kv = (.inr x, .int i) ∧ Pk (o + k) x i
  | [], [], _, _, _ => ⟨[], [], rfl, .nil, rfl, fun k kv h => by simp at h⟩
  | v :: acc, d :: ds, o, .cons h1 h2, hk => by
    obtain ⟨x, i, rfl, p0⟩ := hk 0 d rfl
    obtain ⟨ps, kvs, rfl, pr, hl, hh⟩ := pairs_of (Pk := Pk) (o + 1) h2 fun k d' hd => by
      have := hk (k + 1) d' (by simpa using hd)
      rwa [show o + (k + 1) = o + 1 + k by omega] at this
    obtain ⟨a, u, u2, rfl, hT, e1, e2⟩ := dp_tup2 h1
    obtain rfl := dp_str e1
    obtain rfl := dp_int e2
    refine ⟨a :: ps, (.inr x, .int i) :: kvs, rfl, .cons hT pr, by rw [List.length_cons, List.length_cons, hl], fun k kv h => ?_⟩
    match k, h with
    | 0, h => exact ⟨x, i, (Option.some.inj h).symm, p0⟩
    | k + 1, h =>
      obtain ⟨y, j, e, q⟩ := hh k kv (by simpa using h)
      exact ⟨y, j, e, by rwa [show o + (k + 1) = o + 1 + k by omega]⟩
/-- names with residues -/
structure AsgD (q : Int) (ns : List Str) (kvs : List (Key × V)) : Prop where
  all : ∀ kv ∈ kvs, ∃ (x : Str) (i : Int), kv = (.inr x, .int i) ∧ nameB x = true ∧ 0 ≤ i ∧ i < q
  has : ∀ x ∈ ns, (Sum.inr x : Key) ∈ kvs.map (·.1)
  few : kvs.length ≤ 100
def gOf (kvs : List (Key × V)) (x : Str) : Int := match valV kvs (.inr x) with
  | some (.int i) => i
  | _ => 0
theorem AsgD.val {q : Int} {ns : List Str} {kvs : List (Key × V)} (h : AsgD q ns kvs) {x : Str} (hx : x ∈ ns) : valV kvs (.inr x) = some (.int (gOf kvs x)) := by
  have hm := h.has x hx
  obtain ⟨kv, hkv, e⟩ := List.mem_map.mp hm
  have ex : ∃ kv', kvs.find? (fun kv => decide (kv.1 = (Sum.inr x : Key))) = some kv' := by
    cases c : kvs.find? fun kv => decide (kv.1 = (Sum.inr x : Key)) with
    | none => exact absurd (decide_eq_true e) (by have := List.find?_eq_none.mp c kv hkv; simpa using this)
    | some kv' => exact ⟨kv', rfl⟩
  obtain ⟨kv', f⟩ := ex
  obtain ⟨y, i, rfl, _⟩ := h.all kv' (List.mem_of_find?_eq_some f)
  have e2 : valV kvs (.inr x) = some (.int i) := by unfold valV; rw [f]; rfl
  unfold gOf
  rw [e2]
theorem AsgD.asg {q : Int} {ns : List Str} {kvs : List (Key × V)} {H : Hp} {m : Addr} (h : AsgD q ns kvs) (e : H m = some (.dK kvs)) : ∃ g : Str → Int, ∃ kvs', H m = some (.dK kvs') ∧ ∀ x, x ∈ ns → valV kvs' (.inr x) = some (.int (g x)) := ⟨gOf kvs, kvs, e, fun x hx => h.val hx⟩
theorem AsgD.plain {q : Int} {ns : List Str} {kvs : List (Key × V)} (h : AsgD q ns kvs) (hq : q ≤ 1000) : ∀ kv ∈ kvs, Plain kv := fun kv hkv => by
  obtain ⟨x, i, rfl, hx, i0, i1⟩ := h.all kv hkv
  obtain ⟨n1, n2⟩ := nameB_low hx
  refine ⟨x, i, rfl, n1, n2, ?_⟩
  have : i.natAbs < 1000 := by omega
  exact Nat.lt_trans this (by decide)
theorem AsgD.put {q : Int} {ns : List Str} {kvs : List (Key × V)} {x : Str} {i : Int} (h : AsgD q ns kvs) (hx : nameB x = true) (i0 : 0 ≤ i) (i1 : i < q) (few : kvs.length ≤ 99) : AsgD q ns (putK kvs (.inr x) (.int i)) := by
  unfold putK
  by_cases c : (kvs.any fun kv => decide (kv.1 = (Sum.inr x : Key))) = true
  · rw [if_pos c]
    refine ⟨fun kv hkv => ?_, fun y hy => ?_, by rw [List.length_map]; omega⟩
    · obtain ⟨kv', h', rfl⟩ := List.mem_map.mp hkv
      by_cases e : kv'.1 = (Sum.inr x : Key)
      · rw [if_pos e, e]; exact ⟨x, i, rfl, hx, i0, i1⟩
      · rw [if_neg e]; exact h.all kv' h'
    · obtain ⟨kv', h', e⟩ := List.mem_map.mp (h.has y hy)
      refine List.mem_map.mpr ⟨_, List.mem_map.mpr ⟨kv', h', rfl⟩, ?_⟩
      split
      · exact e
      · exact e
  · rw [if_neg c]
    refine ⟨fun kv hkv => ?_, fun y hy => ?_, by rw [List.length_append]; show _ + 1 ≤ 100; omega⟩
    · rcases List.mem_append.mp hkv with hkv | hkv
      · exact h.all kv hkv
      · rw [List.mem_singleton.mp hkv]; exact ⟨x, i, rfl, hx, i0, i1⟩
    · rw [List.map_append]; exact List.mem_append_left _ (h.has y hy)
theorem dp_strs (K : PySem.W.Frag) (H : Hp) : ∀ ys : List Str, DpAll K H (ys.map V.str) (ys.map PyData.str)
  | [] => .nil
  | y :: ys => .cons (.str y) (dp_strs K H ys)
theorem nameB_ok {x : Str} (h : nameB x = true) : PyData.strOk x = true := by
  unfold nameB at h
  simp only [Bool.and_eq_true, decide_eq_true_eq, List.all_eq_true] at h
  obtain ⟨_, h3⟩ := h
  unfold PyData.strOk
  refine Array.all_eq_true'.mpr fun c hc => decide_eq_true ?_
  have := (h3 c (Array.mem_toList_iff.mpr hc)).2
  omega
theorem shaped_strs (ys : List Str) (h : ∀ y ∈ ys, nameB y = true) : SeqAt.shaped (.tuple (ys.map PyData.str)) = true := by
  have h1 : PyData.canLayAll0 (ys.map PyData.str) = true := by
    induction ys with
    | nil => rfl
    | cons y ys ih =>
      show (PyData.strOk y && PyData.canLayAll0 (ys.map PyData.str)) = true
      rw [ih fun z hz => h z (List.mem_cons_of_mem _ hz), nameB_ok (h y List.mem_cons_self)]; rfl
  have h2 : PyData.depthAll (ys.map PyData.str) = 0 := by
    clear h1 h
    induction ys with
    | nil => rfl
    | cons y ys ih =>
      show max 0 (PyData.depthAll (ys.map PyData.str)) = 0
      rw [ih]; rfl
  show (PyData.canLayAll0 (ys.map PyData.str) && decide (PyData.depthAll (ys.map PyData.str) + 1 ≤ 64)) = true
  rw [h1, h2]
  rfl
end Vx

/-! errors of one's own with fields, over any built-in class that makes its instances as LookupError does -/
namespace PySem.VErr
open Builtin Builtin.ObjectAttr PySem.HandSPX
/-- what is asked of the chain above an own error's class, and of what makes its instances -/
structure Up (bm : List Value) (newId : String) : Prop where
  own : ∃ B initId bmB, ExcBaseFacts B newId initId bmB ∧ bm.contains (.type B) = true
  atr : bm.contains (.type "AttributeError") = false
  nam : bm.contains (.type "NameError") = false
  obj : bm.contains (.type "object") = true
  pas : ∀ self, refuseLoop self "__setattr__" bm = pure ()
theorem up_ve : Up [.type "ValueError", .type "Exception", .type "BaseException", .type "object"] "ValueError.__new__" :=
  ⟨⟨_, _, _, F.excBase_ValueError, by decide +kernel⟩, by decide +kernel, by decide +kernel, by decide +kernel, fun self => by kernel_rfl⟩
theorem up_ke : Up [.type "KeyError", .type "LookupError", .type "Exception", .type "BaseException", .type "object"] "LookupError.__new__" :=
  ⟨⟨_, _, _, F.excBase_LookupError, by decide +kernel⟩, by decide +kernel, by decide +kernel, by decide +kernel, fun self => by kernel_rfl⟩
section
variable {M : Model} {prog : Program} {w : World} {A : Around} {E : Value → Shared → Prop} {R : Result → Shared → Prop} {h : Heap} {g : Array GenState} {d : Drawn} {t : Nat} {os : OsState}
variable {nm q : Str} {C N : Addr} {bs bm : List Value} {hdct : Bool} {sn : List Str} {sub : List Value} {ab : Bool} {col : Option Bool} {dd : Option Addr} {k0 k1 k2 k3 k5 : Option Value} {newId : String}
theorem chk_new (U : Up bm newId) {rest : List Value} {Q : Unit → Shared → Prop} (hC : h.get? C = some (excClassObj nm q C N bs bm hdct sn sub ab col dd k0 k1 k2 k3 k5 newId)) (k : Q () ⟨h, g, d, t, os⟩) : wpAny M A (checkBuiltinCall newId ⟨.ref C :: rest, []⟩) Q E ⟨h, g, d, t, os⟩ := by
  obtain ⟨B, ini, bmB, F, hB⟩ := U.own
  have c1 : (Value.ref C :: bm).contains (.type B) = true := by rw [List.contains_cons, hB, Bool.or_true]
  have c2 := F.noStar
  simp only [checkBuiltinCall, F.newKind, F.newSplit, F.newRow]
  repeat (first
    | refine wpAny_loadPart_at hC ?_
    | (refine wpAny_isSubtype_exc hC ?_; rw [c1])
    | refine wpAny_staticBase_exc hC ?_
    | refine wpAny_madeBy_exc hC ?_
    | simp only [bne_self_eq_false, Bool.false_eq_true, if_false]
    | wp_step)
  exact k
theorem run_new (U : Up bm newId) {rest : List Value} (hC : h.get? C = some (excClassObj nm q C N bs bm hdct sn sub ab col dd k0 k1 k2 k3 k5 newId)) (hl : rest.length ≤ sizeLine)
    (k : R (.ok (.ret (.ref (h.objs.size + 1)))) ⟨(h.push (W.kdv_tup rest)).push (excO C h.objs.size), g, d, t, os⟩) : codeAny (model prog w) A (.builtin newId ⟨.ref C :: rest, []⟩) R ⟨h, g, d, t, os⟩ := by
  obtain ⟨B, ini, bmB, F, hB⟩ := U.own
  have c0 := F.ends
  have c1 : (Value.ref C :: bm).contains (.type B) = true := by rw [List.contains_cons, hB, Bool.or_true]
  have c2 : (Value.ref C :: bm).contains (.type "AttributeError") = false := by rw [List.contains_cons, U.atr] <;> rfl
  have c3 : (Value.ref C :: bm).contains (.type "NameError") = false := by rw [List.contains_cons, U.nam] <;> rfl
  have hrest := hl
  refine codeAny_builtinAt F.entry ?_
  unfold Builtin.«BaseException.__new__»
  refine wpAt_bind ?_
  show wpAt _ _ _ (stack >>= _) _ _ _
  refine wpAt_bind (wpAt_stack fun p low => wpAt_of_wpAny ?_)
  wp_walk
  refine wpAt_of_wpAny ?_
  rw [F.owner]
  repeat (first
    | with_reducible refine wpAny_madeHere_exc F.canon hC ?_
    | with_reducible refine wpAny_loadPart_at hC ?_
    | (with_reducible refine wpAny_isSubtype_exc hC ?_; first | rw [c1] | rw [c2] | rw [c3])
    | wp_step)
  show R _ _
  rw [Heap.size_push]
  exact k
theorem run_type (U : Up bm newId) {rest : List Value} {fI : Addr} {Q : Fin → Shared → Prop} (hC : h.get? C = some (excClassObj nm q C N bs bm hdct sn sub ab col dd k0 k1 k2 k3 k5 newId)) (hi : W.Looks (model prog w) h (typeLookup (.ref C) "__init__") (some (.ref fI)))
    (hb : ∀ self, W.Looks (model prog w) h (bindSpecial (.ref fI) self) (.ref fI, [self])) (hl : rest.length ≤ sizeLine)
    (k : codeAny (model prog w) A (.call (.ref fI) ⟨.ref (h.objs.size + 1) :: rest, []⟩)
      (fun r s' => match r with | .ok (.ret v) => v = .none ∧ Q (.done (.ret (.ref (h.objs.size + 1)))) s' | .ok _ => False | .error e => E e s') ⟨(h.push (W.kdv_tup rest)).push (excO C h.objs.size), g, d, t, os⟩) :
    wpAny (model prog w) A (Builtin.«type.__call__» ⟨.ref C :: rest, []⟩) Q E ⟨h, g, d, t, os⟩ := by
  obtain ⟨B, ini, bmB, F, hB⟩ := id U.own
  repeat (first | with_reducible refine wpAny_loadPart_at hC ?_ | with_reducible refine wpAny_madeBy_exc hC ?_ | wp_step)
  refine codeAny_call_builtin_code (Code.quiet_builtin _ F.quiet) (chk_new U hC (run_new U hC hl ?_))
  show wpAny _ _ _ _ _ _
  have up : ∀ b o, h.get? b = some o → ((h.push (W.kdv_tup rest)).push (excO C h.objs.size)).get? b = some o := fun b o e => Heap.get?_push_of_some _ (Heap.get?_push_of_some _ e)
  have hC₁ := up _ _ hC
  have at_ : ((h.push (W.kdv_tup rest)).push (excO C h.objs.size)).get? (h.objs.size + 1) = some (excO C h.objs.size) := by heap_get
  have c1 : (Value.ref C :: bm).contains (.ref C) = true := by simp
  have i1 := hi.keeps up
  have b1 := (hb (.ref (h.objs.size + 1))).keeps up
  unfold isInstance
  repeat (first | with_reducible refine wpAny_loadPart_at at_ ?_ | (with_reducible refine wpAny_isSubtype_exc hC₁ ?_; rw [c1]) | wp_step)
  show wpAny _ _ (typeLookup (.ref C) _) _ _ _
  refine i1.at (wpAny_holding (wpAny_bind (b1.at ?_)))
  refine wpAny_bind (wpAny_call (codeAny_mono k fun r s' z => ?_))
  match r, z with
  | .error _, z => exact z
  | .ok .next, z => exact z.elim
  | .ok .brk, z => exact z.elim
  | .ok .cont, z => exact z.elim
  | .ok (.ret v), z =>
    obtain ⟨rfl, z⟩ := z
    first | exact wpAny_pure (wpAny_pure z) | (wp_walk; exact z)
/-- such a class is called: the instance is laid, then its own __init__ -/
theorem call_err (U : Up bm newId) {rest : List Value} {fI : Addr} (hC : h.get? C = some (excClassObj nm q C N bs bm hdct sn sub ab col dd k0 k1 k2 k3 k5 newId)) (hi : W.Looks (model prog w) h (typeLookup (.ref C) "__init__") (some (.ref fI)))
    (hb : ∀ self, W.Looks (model prog w) h (bindSpecial (.ref fI) self) (.ref fI, [self])) (hl : rest.length ≤ sizeLine)
    (k : codeAny (model prog w) (A.under (.builtin "type.__call__" ⟨.ref C :: rest, []⟩)) (.call (.ref fI) ⟨.ref (h.objs.size + 1) :: rest, []⟩) (W.InitBack (h.objs.size + 1) R) ⟨(h.push (W.kdv_tup rest)).push (excO C h.objs.size), g, d, t, os⟩) :
    codeAny (model prog w) A (.call (.ref C) ⟨rest, []⟩) R ⟨h, g, d, t, os⟩ := by
  have f1 := tc_lookup
  have f2 := tc_bind (.ref C)
  have f3 : Shared.TypeIs ⟨h, g, d, t, os⟩ (.ref C) "type" := ⟨_, hC, rfl⟩
  refine codeAny_of_tree ?_
  show wpAny _ _ (callAny (.ref C) _) _ _ _
  repeat (any_goals (first | assumption | with_reducible refine wpAny_loadPart_at hC ?_ | wp_step))
  refine ⟨rfl, codeAny_call_builtin_at (Code.quiet_builtin _ (by decide +kernel)) entry_typeCall (wpAny_check_type_call_sub hC (run_type U hC hi hb hl ?_))⟩
  refine codeAny_mono k fun r s' z => ?_
  match r, z with
  | .error _, z => exact z
  | .ok .next, z => exact z
  | .ok .brk, z => exact z
  | .ok .cont, z => exact z
  | .ok (.ret v), z => exact z
end
section
variable {prog : Program} {w : World} {A : Around} {R : Result → Shared → Prop} {hp : Heap} {g : Array GenState} {d : Drawn} {t : Nat} {os : OsState}
/-- self.name = v, the first one -/
theorem put_first {K : W.Frag} {name : Str} {tk : Tok} {v : Value} {x C : Addr} {fv : Array Value} {cd : ClassData} {bm : List Value} {newId : String} (U : Up bm newId)
    (X : K.In hp) (hx : hp.get? x = some { cls := .ref C, data := .fields fv }) (hcd : W.clsIn K C = some cd) (hm : cd.mro = .ref C :: bm) (hh : cd.hasDict = true) (ha : W.findIn K (.ref C) name = some none)
    (k : ∀ h' tk' dx, (∀ b o, b ≠ x → hp.get? b = some o → h'.get? b = some o) → hp.objs.size ≤ dx → dx ≠ x → h'.get? x = some { cls := .ref C, dict := some dx, data := .fields fv } →
      h'.Ns1 dx (fun y => if y = name then some v else none) → R (.ok (.ret .none)) ⟨h', g, d, tk', os⟩) :
    codeAny (model prog w) A (.call (.builtin "object.__setattr__") ⟨[.ref x, .str name tk, v], []⟩) R ⟨hp, g, d, t, os⟩ := by
  have I : W.InstAt hp x { cls := .ref C, data := .fields fv } C none := ⟨hx, rfl, rfl, trivial⟩
  have SF := F.store_object
  have ne : cd.mro.isEmpty = false := by rw [hm] <;> rfl
  have ob : cd.mro.contains (.type "object") = true := by rw [hm, List.contains_cons, U.obj, Bool.or_true]
  have hxs : x ≠ hp.objs.size := Nat.ne_of_lt (Heap.lt_size hx)
  have l0 : W.Looks (model prog w) hp (isInstance (.ref x) (.type "object")) true := I.type.andThen (W.looks_mroIn X (by unfold W.mroIn; rw [hcd, Option.bind_some, if_neg (by rw [ne]; decide), ob]))
  refine codeAny_call_builtin SF.slot.plain SF.entry (@W.check_slot (model prog w) _ _ ⟨hp, g, d, t, os⟩ "object.__setattr__" "object" "__setattr__" (.ref x) [.str name tk, v] [] _ SF.kind SF.split l0 (SF.args (.ref x) (.str name tk) v) ?_)
  have l1 : W.Looks (model prog w) hp (mroOf (.ref C)) cd.mro := (W.looks_clsIn X hcd).andThen .now
  have l2 : W.Looks (model prog w) hp (storeTaker? none) none := .now
  have l3 : W.Looks (model prog w) hp (classData C) cd := W.looks_clsIn X hcd
  rw [W.osa_eq, refuse_eq]
  refine wpAny_bind (wpAny_bind (I.type.at (wpAny_bind (l1.at ?_))))
  rw [hm, refuseLoop_ref, U.pas]
  refine wpAny_pure (wpAny_bind (I.type.at (wpAny_bind ((W.looks_findIn X ha).at (wpAny_bind (l2.at ?_))))))
  show wpAny _ _ (storeInOwnDict (.ref x) (.ref C) (.str name tk) name v false) _ _ _
  obtain ⟨nm, bs, mro, ns, qn, hd, sn, sb, ab, col, del⟩ := cd
  dsimp only at hh
  subst hh
  unfold storeInOwnDict ownDictForStores
  repeat (first
    | with_reducible refine store_in_new ?_ ?_
    | with_reducible refine wpAny_loadPart_at hx ?_
    | with_reducible refine l3.at ?_
    | wp_step)
  · exact ⟨_, #[], _, (Heap.get?_update_ne _ _ _ _ hxs.symm).trans (Heap.get?_push_at rfl rfl), rfl, fun e he => absurd he (by simp), fun _ => rfl⟩
  · intro h' tk' hn' hs
    have hx₁ : (hp.push { cls := .type "dict", data := .dict #[] }).get? x = some { cls := .ref C, data := .fields fv } := Heap.get?_push_of_some _ hx
    refine k h' tk' hp.objs.size (fun b o hb ho => ?_) (Nat.le_refl _) hxs.symm ((hs.2 x hxs).trans (Heap.get?_update_self _ hx₁ rfl)) hn'
    exact (hs.2 b (Nat.ne_of_lt (Heap.lt_size ho))).trans ((Heap.get?_update_ne _ _ _ _ hb).trans (Heap.get?_push_of_some _ ho))
end
end PySem.VErr

namespace PySem.VErr
open PySem.W PySem.Calls PyProof.Rows PySem.HandSPX
/-! an error class with one field: class x(..): def __init__(self, f): self.f = f -/
def eArgs (f : Str) (p1 p2 : Pos) : Arguments := { posonlyargs := [], args := [{ arg := "self", annotation := none, pos := p1 }, { arg := f, annotation := none, pos := p2 }], vararg := none, kwonlyargs := [], kw_defaults := [], kwarg := none, defaults := [] }
def eBody (f : Str) (q1 q2 q3 q4 : Pos) : List Stmt := [.Assign [.Attribute (.Name "self" q1) f q2] (.Name f q3) q4]
def eScope (f : Str) : Scope := { kind := .function, names := [("self", .local), (f, .local)], isGenerator := false, isCoroutine := false, more := [] }
theorem eKind {f : Str} (ne : f ≠ "self") (name : Str) (L a : Addr) (cd : Value) : (envOfC name (eScope f) L a cd).kindOf f = some .local := by
  show List.lookup f [(("self" : Str), NameKind.local), (f, NameKind.local)] = some NameKind.local
  have q : (f == ("self" : Str)) = false := by simpa using ne
  simp [List.lookup, q]
theorem eSelf {f : Str} (name : Str) (L a : Addr) (cd : Value) : (envOfC name (eScope f) L a cd).kindOf "self" = some .local := rfl
/-- what the written part says of the class, at C, and of its __init__, at fI -/
structure Er (K : Frag) (mg : Str → Option Value) (x f qi : Str) (C fI : Addr) : Prop where
  gC : mg x = some (.ref C)
  cls : ∃ nm q N bs bm sn sub ab col dd k0 k1 k2 k3 k5 nw, K.lookup C = some (excClassObj nm q C N bs bm true sn sub ab col dd k0 k1 k2 k3 k5 nw) ∧ Up bm nw
  sa : findIn K (.ref C) "__setattr__" = some (some (.builtin "object.__setattr__"))
  noN : findIn K (.ref C) f = some none
  iC : findIn K (.ref C) "__init__" = some (some (.ref fI))
  tC : typeIn K (.ref fI) = some (.type "function")
  kC : keepIn K (.ref C) = true
  exC : subIn K (.ref C) (.type "BaseException") = some true
  tyC : typeIn K (.ref C) = some (.type "type")
  nf : f ≠ "self" ∧ (f == ("__debug__" : Str)) = false
  fn : ∃ (oc : Value) (od : Option Addr) (doc pm : Value) (an : Option Addr) (cdv ct : Value) (osl : Array (Option Value)) (p1 p2 q1 q2 q3 q4 : Pos),
    K.lookup fI = some ⟨oc, od, .func (fnOf "__init__" qi (eArgs f p1 p2) (eBody f q1 q2 q3 q4) (eScope f) .none .none doc pm an cdv ct), osl⟩ ∧ codeIn K cdv qi = true ∧
      ∀ u v, bindArgs (fnOf "__init__" qi (eArgs f p1 p2) (eBody f q1 q2 q3 q4) (eScope f) .none .none doc pm an cdv ct) ⟨[u, v], []⟩ = pure [(("self" : Str), u), (f, v)]
/-- what __init__ leaves of a new instance at x -/
structure Inited (h h' : Heap) (x C dx t1 : Addr) (f : Str) (v : Value) : Prop where
  keep : ∀ b o, b ≠ x → h.get? b = some o → h'.get? b = some o
  obj : h'.get? x = some { cls := .ref C, dict := some dx, data := .fields #[.ref t1, .none, .none, .none, .bool false, .none] }
  dbig : h.objs.size ≤ dx
  dne : dx ≠ x
  ns : h'.Ns1 dx (fun y => if y = f then some v else none)
/-- an error that was made -/
structure Errs (h h' : Heap) (e C d : Addr) (f : Str) (v : Value) : Prop where
  keep : ∀ b o, h.get? b = some o → h'.get? b = some o
  new : h.objs.size ≤ e
  obj : ∃ oe vs, h'.get? e = some oe ∧ oe.cls = .ref C ∧ oe.dict = some d ∧ oe.data = .fields vs ∧ vs[1]? = some .none
  dbig : h.objs.size ≤ d
  dne : d ≠ e
  ns : h'.Ns1 d (fun y => if y = f then some v else none)
section
variable {prog : Program} {w : World} {A : Around} {E : Value → Shared → Prop} {R : Result → Shared → Prop} {s : Shared} {K : Frag} {mg : Str → Option Value} {x f qi : Str} {C fI : Addr}
theorem ld_own {M : Model} {name : Str} {scope : Scope} {L a : Addr} {cd : Value} {m : Str → Option Value} {y : Str} {pos : Pos} {v : Value} {Q : Value → Shared → Prop} (hn : s.heap.Ns L m) (hv : m y = some v)
    (hk : scope.kind = .function) (hl : (envOfC name scope L a cd).kindOf y = some .local) (hd : (y == ("__debug__" : Str)) = false) (h : Q v s) :
    wpAny M A (eval (.Name y pos) (envOfC name scope L a cd)) Q E s := wpAny_Name (wpAny_loadName_local hk hl hn hv h) hd
theorem run_init (T : Er K mg x f qi C fI) {e t0 : Addr} {v : Value} (X : K.In s.heap) (hlim : s.heap.NoLimit) (hx : s.heap.get? e = some (excO C t0)) (hnx : K.lookup e = none) (hroom : A.depth < recursionLimit)
    (k : ∀ h' tk dx, Inited s.heap h' e C dx t0 f v → R (.ok (.ret .none)) { s with heap := h', toks := tk }) : codeAny (model prog w) A (.call (.ref fI) ⟨[.ref e, v], []⟩) R s := by
  obtain ⟨oc, od, doc, pm, an, cdv, ct, osl, p1, p2, q1, q2, q3, q4, ho, hcd, hbd⟩ := T.fn
  obtain ⟨nm, q, N, bs, bm, sn, sub, ab, col, dd, k0, k1, k2, k3, k5, nw, hC, U⟩ := T.cls
  have hcl : clsIn K C = some { name := nm, bases := bs, mro := .ref C :: bm, ns := N, qualname := q, hasDict := true, slotNames := sn, subclasses := sub, abstract := ab, collection := col, hasDel := false } := by
    unfold clsIn
    rw [hC] <;> rfl
  have kf := fun L a cd => eKind T.nf.1 qi L a cd
  refine Att.call_fn (binds := [("self", .ref e), (f, v)]) X hlim ho hcd hroom (BindsTo.of_eq (hbd _ _)) ?_ (fun s₁ IC => ?_) rfl rfl rfl
  · have z1 : List.lookup ("self" : Str) (eScope f).names = some NameKind.local := rfl
    have z2 : List.lookup f (eScope f).names = some NameKind.local := kf 0 0 .none
    simp only [List.all_cons, List.all_nil, z1, z2]
    rfl
  obtain ⟨h₁, tk₁, rfl⟩ := IC.toInCall.same
  have up : ∀ b o, s.heap.get? b = some o → h₁.get? b = some o := IC.toInCall.keep
  have hn := IC.toInCall.ns
  have X₁ : K.In h₁ := X.keeps up
  have hx₁ := up _ _ hx
  have v1 : bindL (envOfC qi (eScope f) s.heap.objs.size fI cdv).kindOf [("self", Value.ref e), (f, v)] (fun _ => none) f = some v := by
    simp only [bindL, kf, if_true]
  have v2 : bindL (envOfC qi (eScope f) s.heap.objs.size fI cdv).kindOf [("self", Value.ref e), (f, v)] (fun _ => none) "self" = some (.ref e) := by
    have q : ("self" : Str) ≠ f := Ne.symm T.nf.1
    simp only [bindL, kf, eSelf, if_true]
    rw [if_neg q]
    first | rfl | simp
  -- self.f = f
  show wpAny _ _ (execs _ _) _ _ _
  refine wpAny_execs_cons (plainObj_wpAny_Assign_Attribute ?_)
  refine ld_own hn v1 rfl (kf _ _ _) T.nf.2 (ld_own hn v2 rfl (eSelf _ _ _ _) (by decide) ?_)
  refine set_plain X₁ (ox := excO C t0) (od := none) ⟨hx₁, rfl, rfl, trivial⟩ T.sa ?_
  refine put_first U X₁ hx₁ hcl rfl rfl T.noN (fun h₃ tk₃ dx k₃ dn dne hx₃ hn₃ => ?_)
  show wpAny _ _ (execs _ _) _ _ _
  have z : s.heap.objs.size < h₁.objs.size := hn.lt
  exact wpAny_execs_nil (k h₃ tk₃ dx ⟨fun b o hb w => k₃ b o hb (up b o w), hx₃, Nat.le_of_lt (Nat.lt_of_lt_of_le z dn), dne, hn₃⟩)
theorem run_made (T : Er K mg x f qi C fI) {v : Value} (X : K.In s.heap) (hlim : s.heap.NoLimit) (hroom : A.depth + 1 < recursionLimit)
    (k : ∀ h' tk e d, Errs s.heap h' e C d f v → R (.ok (.ret (.ref e))) { s with heap := h', toks := tk }) : codeAny (model prog w) A (.call (.ref C) ⟨[v], []⟩) R s := by
  obtain ⟨nm, q, N, bs, bm, sn, sub, ab, col, dd, k0, k1, k2, k3, k5, nw, hC, U⟩ := T.cls
  obtain ⟨hp, g, dr, tk, os⟩ := s
  have up : ∀ b o, hp.get? b = some o → ((hp.push (kdv_tup [v])).push (excO C hp.objs.size)).get? b = some o := fun b o e => Heap.get?_push_of_some _ (Heap.get?_push_of_some _ e)
  have at_ : ((hp.push (kdv_tup [v])).push (excO C hp.objs.size)).get? (hp.objs.size + 1) = some (excO C hp.objs.size) := by heap_get
  have hnx : K.lookup (hp.objs.size + 1) = none := by
    cases e : K.lookup (hp.objs.size + 1) with
    | none => rfl
    | some o =>
      have z : hp.get? (hp.objs.size + 1) = some o := X _ _ e
      exact absurd (Nat.lt_of_succ_lt (Heap.lt_size z)) (Nat.lt_irrefl _)
  have one : [v].length ≤ sizeLine := by rw [sizeLine_eq]; exact (by decide : 1 ≤ 16777216)
  refine call_err U (X _ _ hC) (looks_findIn X T.iC) (fun self => bind_fn X self T.tC) one ?_
  refine run_init (s := ⟨(hp.push (kdv_tup [v])).push (excO C hp.objs.size), g, dr, tk, os⟩) T (X.keeps up) (hlim.keeps up) at_ hnx (show A.depth + 1 < recursionLimit from hroom) fun h' tk' dx ⟨k', hx, dn, dne, hns⟩ => ?_
  have old : ∀ b o, hp.get? b = some o → h'.get? b = some o := fun b o e => k' b o (Nat.ne_of_lt (Nat.lt_succ_of_lt (Heap.lt_size e))) (up b o e)
  have z : hp.objs.size + 1 + 1 ≤ dx := by
    first
      | (simpa only [Heap.size_push] using dn)
      | exact dn
  exact ⟨rfl, k h' tk' (hp.objs.size + 1) dx ⟨old, Nat.le_succ _, ⟨_, _, hx, rfl, rfl, rfl, rfl⟩, Nat.le_trans (Nat.le_trans (Nat.le_succ _) (Nat.le_succ _)) z, dne, hns⟩⟩
end
end PySem.VErr
namespace Vx
open PySem PySem.Spec PyProof.Rows L2
theorem relO_one {f : Str} {v : V} {v' : Value} (r : RelV v v') (y : Str) : RelO (List.lookup y [(f, v)]) (if y = f then some v' else none) := by
  by_cases hw : y = f
  · subst hw
    rw [if_pos rfl]
    have q : List.lookup y [(y, v)] = some v := by simp [List.lookup]
    rw [q]
    exact r
  · rw [if_neg hw]
    have qw : (y == f) = false := by simpa using hw
    have q2 : List.lookup y [(f, v)] = none := by simp [List.lookup, qw]
    rw [q2]
    trivial
section
variable {X : Cx} {x f qi : Str} {C fI : Addr}
/-- x(e) -/
def tMk (C : Addr) (f : Str) (ta : TA) : L2.St → Hp → XK → Prop := fun σ H Q => ta σ H fun vs H1 => ∃ v, vs = [v] ∧ ∀ d, H1 d = none → Q (.ref C) (some d) (upd H1 d (.xd [(f, v)]))
theorem pmk_err {a : Expr} {ta : TA} {p pos : Pos} {k : Nat} (T : PySem.VErr.Er X.K X.mg x f qi C fI) (hr : Room k X.A) (ha : PA X [a] ta) (hg : Gl X x) (hdb : (x == ("__debug__" : Str)) = false := by decide +kernel)
    (he : starEach (a :: []) X.env = (false, eval a X.env) :: starEach [] X.env := by rfl) (hpl : (backTo pos (starEach [] X.env)).any (·.1) = false := by rfl) :
    PMk X (.Call (.Name x p) [a] [] pos) (tMk C f ta) := by
  intro pins s σ H Q I h
  refine wpAny_Call_Name_kw (ld_glob I hg T.gC ?_ hdb)
  refine PySem.W.callWith_K (h₀ := X.base) I.ok.mod.kin T.kC (thn (ha.run pos pins s σ H _ I h) fun us s1 hh => ?_) he hpl
  obtain ⟨vs, H1, I1, r1, v, ev, q1⟩ := hh
  subst ev
  refine ⟨I1.kIn, ?_⟩
  obtain ⟨u, rfl, rv⟩ := vals1 r1
  show wpAny _ _ (call (.ref C) [u]) _ _ _
  have hlim := I1.nolimit
  obtain ⟨hp, g, dr, tk, os⟩ := s1
  refine wpAny_call (PySem.VErr.run_made T I1.kIn hlim (by have := hr.dp; omega) fun h' tk' e d M => ?_)
  show MkP X pins σ Q (.ref e) ⟨h', g, dr, tk', os⟩
  obtain ⟨oe, fv, hoe, hc, hd, hdat, h1⟩ := M.obj
  have hns := M.ns
  obtain ⟨G', g1, g2⟩ := restrict h' fun b => decide (b ≠ e)
  have gk : ∀ b, b ≠ e → G'.get? b = h'.get? b := fun b hb => g1 b (decide_eq_true hb)
  have ge : G'.get? e = none := g2 e (by simp)
  have old : ∀ b o, hp.get? b = some o → G'.get? b = some o := fun b o q => (gk b (Nat.ne_of_lt (Nat.lt_of_lt_of_le (Heap.lt_size q) M.new))).trans (M.keep b o q)
  have ob : ObjOk X.prog X.w (upd H1 d (.xd [(f, v)])) G' d (.xd [(f, v)]) := ⟨_, hns.at (fun o q => (gk d M.dne).trans q), fun y => relO_one rv y⟩
  have J : Inv X pins σ (upd H1 d (.xd [(f, v)])) ⟨G', g, dr, tk', os⟩ := I1.laid (t' := tk') old M.dbig ob
  refine ⟨e, oe, fv, ⟨G', g, dr, tk', os⟩, _, .ref C, some d, rfl, J, fun b o q => ?_, ge, hoe, ⟨hc, hd⟩, hdat, h1, ?_, rfl, I1.bare, raises_own T.exC T.tyC, q1 d (I1.hok.fresh M.dbig)⟩
  · by_cases hb : b = e
    · have q' : G'.get? b = some o := q
      rw [hb, ge] at q'; cases q'
    · exact (gk b hb).symm.trans q
  · rw [upd_ne (Ne.symm M.dne)]
    exact I1.hok.fresh M.new
/-- raise x(e) -/
def tRaise1 (C : Addr) (f : Str) (W : WX) (ta : TA) : TS := fun _ σ H => tMk C f ta σ H fun cls d H' => W cls d σ H'
theorem ps_raise1 {a : Expr} {ta : TA} {W : WX} {p pos pos2 : Pos} {k : Nat} (hc : X.calm = true) (T : PySem.VErr.Er X.K X.mg x f qi C fI) (hr : Room k X.A) (tk : Takes X W) (ha : PA X [a] ta) (hg : Gl X x) (hdb : (x == ("__debug__" : Str)) = false := by decide +kernel)
    (he : starEach (a :: []) X.env = (false, eval a X.env) :: starEach [] X.env := by rfl) (hpl : (backTo pos (starEach [] X.env)).any (·.1) = false := by rfl) :
    PS X (.Raise (some (.Call (.Name x p) [a] [] pos)) none pos2) (tRaise1 C f W ta) := ps_raise hc tk (pmk_err T hr ha hg hdb he hpl)
end
section
variable {P : Program} {w : World} {K : PySem.W.Frag} {mg : Str → Option Value} {base : Heap}
/-- a def that may raise -/
theorem okX {x qual : Str} {st : Stmt} {f : Addr} {fd : FuncData} {N ps : List Str} {k : Nat} {sp : Sp} (F : Fun K x qual st f fd) (S : FnScope N ps (defScope st)) (ln : ∀ vs H Q E, sp vs H Q E → vs.length = ps.length)
    (hb : ∀ (cdv : Value) (A : Around) (o : List Env) (s : Shared) (H : Hp) (vs : List V) (Q : VK) (E : XK), Rm k (A.deeper (envOfC qual (defScope st) s.heap.objs.size f cdv)) → sp vs H Q E →
      ∃ t, PSs (cxOf (L2.CX P w) P w K mg base N qual (defScope st) f cdv A o s H E) (defBody st) t ∧ t { nx := fun _ H' => Q .non H', rt := Q } (start N vs) H) : FnG P w K mg base (L2.CX P w) (k + 1) f fd ps sp := by
  obtain ⟨oc, od, kV, doc, pm, an, cdv, ct, osl, rfl, lk, hcd⟩ := F.ex
  exact fn_ofG lk hcd S ln fun A o s H vs Q E hr h => hb cdv A o s H vs Q E hr h
/-- such a def that others call -/
structure CalX (P : Program) (w : World) (K : PySem.W.Frag) (mg : Str → Option Value) (base : Heap) (x : Str) (k : Nat) (ps : List Str) (sp : Sp) : Prop where
  ex : ∃ f fd, FnG P w K mg base (L2.CX P w) k f fd ps sp ∧ mg x = some (.ref f) ∧ PySem.W.keepIn K (.ref f) = true ∧ Binds K fd ps []
end
section
variable {X : Cx} {CX : CXT} {k : Nat} {f : Addr} {fd : FuncData} {ps : List Str} {sp : Sp} {E : L2.St → XK} {x : Str} {p pos : Pos} {e : Expr} {es : List Expr} {t : TA}
/-- what it raises is wished for at the caller's slots -/
theorem ge_callS (F : FnG X.prog X.w X.K X.mg X.base CX k f fd ps sp) (hr : Rm k X.A) (hg : Gl X x) (hm : X.mg x = some (.ref f)) (hk : PySem.W.keepIn X.K (.ref f) = true) (hb : Binds X.K fd ps []) (hx : ∀ σ, PassesAt CX X σ (E σ))
    (ha : PA X (e :: es) t) (hdb : (x == ("__debug__" : Str)) = false := by decide) (he : starEach (e :: es) X.env = (false, eval e X.env) :: starEach es X.env := by rfl) (hpl : (backTo pos (starEach es X.env)).any (·.1) = false := by rfl) :
    PE X (.Call (.Name x p) (e :: es) [] pos) (tCallS sp E t) := by
  constructor
  intro pins s σ H Q I h
  refine wpAny_Call_Name_kw (ld_glob I hg hm (PySem.W.callWith_K (h₀ := X.base) I.ok.mod.kin hk (thn (ha.run pos pins s σ H _ I h) ?_) he hpl) hdb)
  rintro us s1 ⟨vs, H1, I1, r, q⟩
  have l := F.ln _ _ _ _ q
  rw [r.length] at l
  have b := hb s1 us I1.kIn (by rw [List.append_nil]; exact l)
  rw [List.append_nil] at b
  refine ⟨I1.kIn, wpAny_call (codeAny_mono (F.go X.A X.stack s1 H1 ⟨us, []⟩ us vs Q (E σ) hr I1.env0 b r q) ?_)⟩
  intro z s' hq
  match z, hq with
  | .ok (.ret _), hq => exact I1.after hq
  | .ok .next, hq => exact False.elim hq
  | .ok .brk, hq => exact False.elim hq
  | .ok .cont, hq => exact False.elim hq
  | .error er, hq => exact hx σ pins H1 s1 er s' I1 hq
end
end Vx

namespace Vx
open PySem PySem.Spec PyProof.Rows L2
/-- isinstance(e, c), e the error that the suite holds, with fields -/
def rIsX (K : PySem.W.Frag) (D a : Addr) (d : Option Addr) : List V → Hp → VK → Prop := fun xs H Q => ∃ (c : V) (cv : Value) (b : Bool) (dd : Addr) (fs : List (Str × V)), xs = [.ref a, c] ∧ (∀ u, RelV c u → u = cv) ∧ PySem.W.kitOne K (.ref D) cv = some b ∧ d = some dd ∧ H dd = some (.xd fs) ∧ Q (.bl b) H
theorem call_isX {X : Cx} {a D : Addr} {oe : Obj} {cls : Value} {d : Option Addr} {pn : List (Addr × Obj)} (C : ExcC X.K D) (hz : Zc cls d oe) (hf : ∃ vs, oe.data = .fields vs) : CallR (X.suite a ((a, oe) :: pn)) (.builtin "isinstance") (fun xs H Q => cls = .ref D ∧ rIsX X.K D a d xs H Q) := by
  intro pins s σ H xs us Q I r ⟨ec, h⟩
  subst ec
  obtain ⟨c, cv, b, dd, fs, rfl, hcv, e, rfl, ea, q⟩ := h
  obtain ⟨u1, u2, rfl, r1, r2⟩ := vals2 r
  obtain rfl : u1 = Value.ref a := r1
  have e2 := hcv _ r2
  subst e2
  obtain ⟨hget, _⟩ := I.pin (a, oe) (List.mem_append.mpr (.inl List.mem_cons_self))
  obtain ⟨vs, hv⟩ := hf
  have hx : ObjOk X.prog X.w H s.heap dd (.xd fs) := I.hok dd _ ea
  obtain ⟨mA, hns, hr⟩ := hx
  obtain ⟨od, ho, hl⟩ := lookIn_ns hns
  have J : PySem.W.InstAt s.heap a oe D (some od) := ⟨hget, hz.1, by unfold PySem.W.notCls; rw [hv] <;> rfl, by rw [hz.2]; exact ho⟩
  have hc : (PySem.W.clsIn X.K D).isSome = true := by
    obtain ⟨cd, hc, _⟩ := PySem.W.any_some C.hd
    rw [hc]
    rfl
  exact PySem.W.kia_one (PySem.W.kitx_exc hc C.hg C.hk C.hs C.ha C.hn C.ht C.hm) I.kIn J e (fun z => nomatch z) fun tk => ⟨.bl b, H, I.kept (t' := tk) fun _ _ z => z, rfl, q⟩
end Vx
namespace Vx
open PySem PySem.Spec PyProof.Rows L2
/-- all that is wanted of an error class with one field -/
structure ErF (K : PySem.W.Frag) (mg : Str → Option Value) (x f qi : Str) (C fI : Addr) : Prop where
  er : PySem.VErr.Er K mg x f qi C fI
  xf : XfC K C
  ec : ExcC K C
  te : PySem.W.exmOne K (.ref C) (.ref C) = some true
theorem erF_of {K : PySem.W.Frag} {mg : Str → Option Value} {x f qi : Str} {C fI : Addr} (er : PySem.VErr.Er K mg x f qi C fI)
    (ga : PySem.W.findIn K (.ref C) "__getattribute__" = some (some (.builtin "BaseException.__getattribute__"))) (gg : PySem.W.findIn K (.ref C) "__getattr__" = some none) (hd : PySem.W.hasDictIn K C = true)
    (jc : PySem.W.isClsIn K C = true) (sc : PySem.W.subIn K (.ref C) (.ref C) = some true) (ha : PySem.W.findIn K (.ref C) "__class__" = some (some (.builtin "object.__class__")))
    (hn : PySem.W.specialIn K (.builtin "object.__class__") "__get__" = some (some (.builtin "getset_descriptor.__get__"))) (ht : PySem.W.takesIn K (.builtin "object.__class__") = some true) (hm : PySem.W.mroIn K C (.type "object") = some true) : ErF K mg x f qi C fI :=
  ⟨er, ⟨ga, gg, er.exC, hd⟩, ⟨ga, gg, er.exC, hd, ha, hn, ht, hm⟩, PySem.W.exm_ref er.exC hd er.tyC sc⟩
theorem kit_up {K : PySem.W.Frag} {C : Addr} {T : String} {b : Bool} (h : PySem.W.subIn K (.ref C) (.type T) = some b) (m : PySem.W.kitMeta T = true) : PySem.W.kitOne K (.ref C) (.type T) = some b := by
  unfold PySem.W.kitOne PySem.W.kitCls
  rw [if_neg (by intro z; cases z)]
  show (if PySem.W.kitMeta T = true then PySem.W.subIn K (.ref C) (.type T) else none) = some b
  rw [if_pos m, h]
end Vx

namespace Vx
open PySem PySem.Spec PyProof.Rows L2
/-! constants of the module: numbers, texts, a dict from texts to numbers -/
theorem pe_cI {X : Cx} {x : Str} {p : Pos} {i : Int} (h : ∃ t, X.mg x = some (.int i t)) (hg : Gl X x) (hd : (x == ("__debug__" : Str)) = false := by decide +kernel) : PE X (.Name x p) (tC (.int i)) := by
  obtain ⟨t, e⟩ := h
  exact pe_glob hg e ⟨t, rfl⟩ hd
theorem pe_cS {X : Cx} {x : Str} {p : Pos} {z : Str} (h : ∃ t, X.mg x = some (.str z t)) (hg : Gl X x) (hd : (x == ("__debug__" : Str)) = false := by decide +kernel) : PE X (.Name x p) (tC (.str z)) := by
  obtain ⟨t, e⟩ := h
  exact pe_glob hg e ⟨t, rfl⟩ hd
/-- a written dict from texts to numbers, by its pairs -/
structure KTab (K : PySem.W.Frag) (w : World) (mg : Str → Option Value) (x : Str) (kvs : List (Str × Int)) : Prop where
  ex : ∃ (d : Addr) (es : Array DictEntry) (n : Nat), mg x = some (.ref d) ∧ K.lookup d = some ⟨.type "dict", none, .dict es n, #[]⟩ ∧ PySem.W.KeysLit w.params es.toList ∧ (d == sysModules) = false ∧
    Paired (fun e (kv : Str × Int) => (∃ t, e.key = .str kv.1 t) ∧ ∃ t, e.val = .int kv.2 t) es.toList kvs
theorem tab_find : ∀ {es : List DictEntry} {kvs : List (Str × Int)} (z : Str), Paired (fun e (kv : Str × Int) => (∃ t, e.key = .str kv.1 t) ∧ ∃ t, e.val = .int kv.2 t) es kvs →
    match (kvs.find? fun kv => decide (kv.1 = z)).map (·.2), (es.find? fun e => Value.isStrOf z e.key).map (·.val) with
    | none, none => True
    | some i, some v => ∃ t, v = .int i t
    | _, _ => False
  | [], [], z, .nil => trivial
  | e :: es, (k, i) :: kvs, z, .cons ⟨⟨t, e1⟩, u, e2⟩ r => by
    have ih := tab_find z r
    by_cases c : k = z
    · have q : Value.isStrOf z e.key = true := by rw [e1, c]; exact beq_self_eq_true z
      rw [List.find?_cons_of_pos (by simpa using c), List.find?_cons_of_pos (p := fun e : DictEntry => Value.isStrOf z e.key) q]
      exact ⟨u, e2⟩
    · have q : ¬ Value.isStrOf z e.key = true := by
        rw [e1]
        intro w
        have w : (k == z) = true ∨ (z == k) = true := by first | exact .inl w | exact .inr w
        rcases w with w | w
        · exact c (by simpa using w)
        · exact c (by have := (by simpa using w : z = k); exact this.symm)
      rw [List.find?_cons_of_neg (by simpa using c), List.find?_cons_of_neg (p := fun e : DictEntry => Value.isStrOf z e.key) q]
      exact ih
def tabV (kvs : List (Str × Int)) (z : Str) : V := match (kvs.find? fun kv => decide (kv.1 = z)).map (·.2) with
  | none => .non
  | some i => .int i
/-- TABLE.get(e) -/
theorem pe_kget {X : Cx} {x : Str} {kvs : List (Str × Int)} {e : Expr} {ty : TE} {p apos cpos : Pos} (T : KTab X.K X.w X.mg x kvs) (hg : Gl X x) (he : PE X e ty) (m : M1 X (.Name x p) "get" apos e cpos) (hd : (x == ("__debug__" : Str)) = false := by decide +kernel) :
    PE X (.Call (.Attribute (.Name x p) "get" apos) [e] [] cpos) (fun σ H Q => ty σ H fun y H2 => ∃ z, y = .str z ∧ Q (tabV kvs z) H2) := by
  obtain ⟨d, es, n, hm, hl, lit, low, pr⟩ := T.ex
  have ho : PE X (.Name x p) (tC (.ref d)) := pe_glob hg hm rfl hd
  refine ⟨fun pins s σ H Q I h => ?_⟩
  refine wpAny_Call_method m.base m.few m.line PySem.F.plainAttrs_dict PySem.F.slot_dict_get PySem.F.type_dict_get (thn (ho.run pins s σ H (fun v H' => v = .ref d ∧ H' = H) I ⟨rfl, rfl⟩) ?_)
  rintro u s1 ⟨x', H1, I1, rx, rfl, rfl⟩
  obtain rfl : u = Value.ref d := rx
  have mo := PySem.W.mapOf_K (prog := X.prog) (w := X.w) I1.kIn hl lit
  refine ⟨mo.typeIs, fun b q => ?_, ?_⟩
  · cases q
    exact ⟨_, I1.kIn _ _ hl, rfl⟩
  rw [m.trees]
  refine Calls.callWith_builtin rfl (Calls.evalArgs_plain (Calls.spliced_cons (thn (he.run pins s1 σ _ _ I1 h) fun iv s2 ⟨y, H2, I2, ry, z, ey, q2⟩ => Calls.spliced_nil ?_)))
  subst ey
  obtain ⟨t, rfl⟩ := (show ∃ t, iv = Value.str z t from ry)
  have mo2 := PySem.W.mapOf_K (prog := X.prog) (w := X.w) I2.kIn hl lit
  refine call_meetsIn PySem.F.slot_dict_get mo2.typeIs PySem.F.entry_dict_get (PySem.F.args_dict_get_2 _ _) (meets_dict_get (strKind X.prog X.w) d (strKind_is X.prog X.w z t) low) ⟨_, mo2, ?_⟩
  have f := tab_find z pr
  have e3 : findBy Value.isStrOf es z = (es.toList.find? fun e => Value.isStrOf z e.key).map (·.val) := by
    obtain ⟨l⟩ := es
    unfold findBy
    rw [List.find?_toArray]
  rw [e3]
  unfold tabV at q2
  cases c1 : (kvs.find? fun kv => decide (kv.1 = z)).map (·.2) with
  | none =>
    cases c2 : (es.toList.find? fun e => Value.isStrOf z e.key).map (·.val) with
    | none => rw [c1] at q2; exact ⟨.non, H2, I2.tok _, rfl, q2⟩
    | some v => rw [c1, c2] at f; exact f.elim
  | some i =>
    cases c2 : (es.toList.find? fun e => Value.isStrOf z e.key).map (·.val) with
    | none => rw [c1, c2] at f; exact f.elim
    | some v =>
      rw [c1, c2] at f
      obtain ⟨u, rfl⟩ := f
      rw [c1] at q2
      exact ⟨.int i, H2, I2.tok _, ⟨u, rfl⟩, q2⟩
/-- a comprehension over a text's signs -/
theorem lc_str {z : Str} {g : TG} {tt : TT} {te : TE} {vs : List Nat} {σ : L2.St} {H1 : Hp} {D : Addr} {Qd : Hp → Prop} (Pv : Nat → Hp → Prop) (h0 : Pv 0 (upd H1 D (.lst [])))
    (hs : ∀ (i : Nat) (c : Nat) H, z.cps[i]? = some c → Pv i H → g (.str ⟨#[c]⟩) (wipe σ vs) H fun σ2 H2 => wipe σ2 vs = wipe σ vs ∧ tt σ2 H2 fun b H3 =>
      if b = true then te σ2 H3 fun y H4 => ∃ acc, H4 D = some (.lst acc) ∧ acc.length < sizeLine ∧ Pv (i + 1) (upd H4 D (.lst (acc ++ [y]))) else Pv (i + 1) H3) (hd : ∀ H, Pv z.cps.size H → Qd H) :
    ∃ W : Nat → Nat → Hp → Prop, (∃ m, W 0 m (upd H1 D (.lst []))) ∧ ∀ i m H, W i m H →
      ((Its z).stop i H ∧ Qd H) ∨ ((Its z).go i H ∧ ∃ Nx : Hp → Prop, (∀ H', Nx H' → ∃ m', m' < m ∧ W (i + 1) m' H') ∧ ∀ x H', (Its z).yld i H x H' → g x (wipe σ vs) H' fun σ2 H2 => wipe σ2 vs = wipe σ vs ∧ tt σ2 H2 fun b H3 =>
        if b = true then te σ2 H3 fun y H4 => ∃ acc, H4 D = some (.lst acc) ∧ acc.length < sizeLine ∧ Nx (upd H4 D (.lst (acc ++ [y]))) else Nx H3) := by
  refine ⟨fun i m H => m = z.cps.size - i ∧ i ≤ z.cps.size ∧ Pv i H, ⟨_, rfl, Nat.zero_le _, h0⟩, ?_⟩
  rintro i m H ⟨rfl, hi, p⟩
  by_cases l : i < z.cps.size
  · refine .inr ⟨l, Pv (i + 1), fun H' p' => ⟨z.cps.size - (i + 1), by omega, rfl, l, p'⟩, ?_⟩
    rintro x _ ⟨rfl, c, e, rfl⟩
    exact hs i c _ e p
  · obtain rfl : i = z.cps.size := by omega
    exact .inl ⟨Nat.le_refl _, hd H p⟩
end Vx

namespace Vx
open PySem PySem.Spec PyProof.Rows L2
/-! what the look at a formula's form sees of a value -/
inductive Sk where
  | s (x : Str)
  | i (n : Int)
  | o
  | t (xs : List Sk)
namespace Sk
mutual
def size : Sk → Nat
  | .t xs => sizes xs + 1
  | _ => 1
def sizes : List Sk → Nat
  | [] => 0
  | x :: r => x.size + sizes r
end
def opc (w : Str) : Option Nat := if w = "plus" then some 2 else if w = "minus" then some 2 else if w = "times" then some 2 else if w = "not" then some 1 else if w = "and" then some 2 else if w = "or" then some 2 else none
def built (q : Int) : Sk → Bool
  | .s x => nameB x
  | .i n => decide (0 ≤ n) && decide (n < q)
  | .o => false
  | .t (.s w :: r) => decide (opc w = some r.length)
  | .t _ => false
mutual
/-- the first part that is not well formed, outer parts first -/
def bad (q : Int) : Sk → List Int → Option (List Int)
  | .t (x :: r), p => if built q (.t (x :: r)) = true then bads q r p 1 else some p
  | a, p => if built q a = true then none else some p
def bads (q : Int) : List Sk → List Int → Nat → Option (List Int)
  | [], _, _ => none
  | x :: r, p, k => match bad q x (p ++ [(k : Int)]) with
    | some z => some z
    | none => bads q r p (k + 1)
end
mutual
def leaves : Sk → Nat
  | .t (_ :: r) => leavesL r
  | _ => 1
def leavesL : List Sk → Nat
  | [] => 0
  | x :: r => x.leaves + leavesL r
end
mutual
def tups : Sk → Nat
  | .t (_ :: r) => tupsL r + 1
  | .t [] => 1
  | _ => 0
def tupsL : List Sk → Nat
  | [] => 0
  | x :: r => x.tups + tupsL r
end
mutual
def depth : Sk → Nat
  | .t (_ :: r) => depthL r + 1
  | .t [] => 1
  | _ => 0
def depthL : List Sk → Nat
  | [] => 0
  | x :: r => max x.depth (depthL r)
end
/-- None, ("form", path), ("size", ()) -/
def res (q : Int) (a : Sk) : Option (Option (List Int)) := match a.bad q [] with
  | some p => some (some p)
  | none => if a.leaves > 8 ∨ a.tups > 16 ∨ a.depth > 12 then some none else none
def resD : Option (Option (List Int)) → PyData
  | none => .none
  | some (some p) => .tuple [.str "form", .tuple (p.map PyData.int)]
  | some none => .tuple [.str "size", .tuple []]
/-! the parts that wait: the first one is looked at next -/
abbrev Wt := List (Sk × List Int)
def badW (q : Int) : Wt → Option (List Int)
  | [] => none
  | (a, p) :: r => match bad q a p with
    | some z => some z
    | none => badW q r
def leavesW : Wt → Nat
  | [] => 0
  | (a, _) :: r => a.leaves + leavesW r
def tupsW : Wt → Nat
  | [] => 0
  | (a, _) :: r => a.tups + tupsW r
def depthW : Wt → Nat
  | [] => 0
  | (a, p) :: r => max (if a.depth = 0 then 0 else p.length + a.depth) (depthW r)
def sizeW : Wt → Nat
  | [] => 0
  | (a, _) :: r => a.size + sizeW r
def kids (p : List Int) : Nat → List Sk → Wt
  | _, [] => []
  | k, x :: r => (x, p ++ [(k : Int)]) :: kids p (k + 1) r
theorem badW_kids (q : Int) (p : List Int) (rest : Wt) : ∀ (r : List Sk) (k : Nat), badW q (kids p k r ++ rest) = match bads q r p k with | some z => some z | none => badW q rest
  | [], k => rfl
  | x :: r, k => by
    show (match bad q x (p ++ [(k : Int)]) with | some z => some z | none => badW q (kids p (k + 1) r ++ rest)) = _
    rw [bads]
    cases bad q x (p ++ [(k : Int)]) with
    | some z => rfl
    | none => exact badW_kids q p rest r (k + 1)
theorem leavesW_kids (p : List Int) (rest : Wt) : ∀ (r : List Sk) (k : Nat), leavesW (kids p k r ++ rest) = leavesL r + leavesW rest
  | [], k => by rw [leavesL, Nat.zero_add]; rfl
  | x :: r, k => by
    show x.leaves + leavesW (kids p (k + 1) r ++ rest) = _
    rw [leavesW_kids p rest r (k + 1), leavesL]
    omega
theorem tupsW_kids (p : List Int) (rest : Wt) : ∀ (r : List Sk) (k : Nat), tupsW (kids p k r ++ rest) = tupsL r + tupsW rest
  | [], k => by rw [tupsL, Nat.zero_add]; rfl
  | x :: r, k => by
    show x.tups + tupsW (kids p (k + 1) r ++ rest) = _
    rw [tupsW_kids p rest r (k + 1), tupsL]
    omega
theorem sizeW_kids (p : List Int) (rest : Wt) : ∀ (r : List Sk) (k : Nat), sizeW (kids p k r ++ rest) = sizes r + sizeW rest
  | [], k => by rw [sizes, Nat.zero_add]; rfl
  | x :: r, k => by
    show x.size + sizeW (kids p (k + 1) r ++ rest) = _
    rw [sizeW_kids p rest r (k + 1), sizes]
    omega
theorem depthW_kids (p : List Int) (rest : Wt) : ∀ (r : List Sk) (k : Nat), depthW (kids p k r ++ rest) = max (if depthL r = 0 then 0 else p.length + 1 + depthL r) (depthW rest)
  | [], k => by
    show depthW rest = _
    rw [depthL, if_pos rfl]
    omega
  | x :: r, k => by
    show max (if x.depth = 0 then 0 else (p ++ [(k : Int)]).length + x.depth) (depthW (kids p (k + 1) r ++ rest)) = _
    rw [depthW_kids p rest r (k + 1), depthL, List.length_append]
    simp only [List.length_cons, List.length_nil]
    repeat (first | split | omega)
theorem kids_len (p : List Int) : ∀ (r : List Sk) (k : Nat), (kids p k r).length = r.length
  | [], _ => rfl
  | x :: r, k => congrArg (· + 1) (kids_len p r (k + 1))
theorem size_pos : ∀ a : Sk, 0 < a.size
  | .s _ => by rw [size]; exact Nat.one_pos; all_goals intro xs h; cases h
  | .i _ => by rw [size]; exact Nat.one_pos; all_goals intro xs h; cases h
  | .o => by rw [size]; exact Nat.one_pos; all_goals intro xs h; cases h
  | .t xs => by rw [size]; omega
theorem sizes_len : ∀ r : List Sk, r.length ≤ sizes r
  | [] => Nat.zero_le _
  | x :: r => by
    have h1 := size_pos x
    have h2 := sizes_len r
    rw [sizes, List.length_cons]
    omega
theorem sizeW_len : ∀ r : Wt, r.length ≤ sizeW r
  | [] => Nat.zero_le _
  | (x, p) :: r => by
    have h1 := size_pos x
    have h2 := sizeW_len r
    show r.length + 1 ≤ x.size + sizeW r
    omega
end Sk
end Vx

namespace Vx
open PySem PySem.Spec PyProof.Rows L2
theorem if_true_of {c : Bool} {A B : Prop} (hc : c = true) (h : A) : if c = true then A else B := by
  rw [if_pos hc]; exact h
theorem if_false_of {c : Bool} {A B : Prop} (hc : c = false) (h : B) : if c = true then A else B := by
  rw [if_neg (by rw [hc]; exact Bool.false_ne_true)]; exact h
theorem iteT_inv {A B : Prop} (h : if true = true then A else B) : A := by rwa [if_pos rfl] at h
theorem iteF_inv {A B : Prop} (h : if false = true then A else B) : B := by rwa [if_neg Bool.false_ne_true] at h
/-- neither a text, a number nor a tuple -/
def Oth (K : PySem.W.Frag) (H : Hp) (v : V) : Prop := v = .non ∨ (∃ b, v = .bl b) ∨ (∃ a xs, v = .ref a ∧ SqL K H a xs) ∨ ∃ a kvs, v = .ref a ∧ H a = some (.dK kvs)
mutual
inductive Sv (K : PySem.W.Frag) (H : Hp) : V → Sk → Prop
  | str (x : Str) (h : x.cps.size ≤ 100000) : Sv K H (.str x) (.s x)
  | int (n : Int) : Sv K H (.int n) (.i n)
  | oth {v : V} : Oth K H v → Sv K H v .o
  | tup {a : Addr} {xs : List V} {ds : List Sk} : SqT K H a xs → SvAll K H xs ds → Sv K H (.ref a) (.t ds)
inductive SvAll (K : PySem.W.Frag) (H : Hp) : List V → List Sk → Prop
  | nil : SvAll K H [] []
  | cons {v : V} {vs : List V} {d : Sk} {ds : List Sk} : Sv K H v d → SvAll K H vs ds → SvAll K H (v :: vs) (d :: ds)
end
/-- what stands is kept: tuples as they are, lists stay lists, dicts dicts -/
structure Kp (K : PySem.W.Frag) (H H' : Hp) : Prop where
  tup : ∀ a xs, SqT K H a xs → SqT K H' a xs
  oth : ∀ v, Oth K H v → Oth K H' v
theorem Kp.refl (K : PySem.W.Frag) (H : Hp) : Kp K H H := ⟨fun _ _ h => h, fun _ h => h⟩
theorem Kp.trans {K : PySem.W.Frag} {H H1 H2 : Hp} (a : Kp K H H1) (b : Kp K H1 H2) : Kp K H H2 := ⟨fun x xs h => b.tup x xs (a.tup x xs h), fun v h => b.oth v (a.oth v h)⟩
theorem Kp.same {K : PySem.W.Frag} {H H' : Hp} (s : Same H H') : Kp K H H' := ⟨fun _ _ h => Same.seqT s h, fun v h => by
  rcases h with h | h | ⟨a, xs, e, h⟩ | ⟨a, kvs, e, h⟩
  · exact .inl h
  · exact .inr (.inl h)
  · exact .inr (.inr (.inl ⟨a, xs, e, s.seq h⟩))
  · exact .inr (.inr (.inr ⟨a, kvs, e, s _ _ h⟩))⟩
theorem Kp.new {K : PySem.W.Frag} {H : Hp} {p : Addr} (n : H p = none) (o : HO) : Kp K H (upd H p o) := .same (same_new n o)
theorem Kp.list {K : PySem.W.Frag} {H : Hp} {p : Addr} {xs : List V} (e : H p = some (.lst xs)) (ys : List V) : Kp K H (upd H p (.lst ys)) := ⟨fun _ _ h => Chg.tup (.inl ⟨_, e⟩) .upd h, fun v h => by
  rcases h with h | h | ⟨a, zs, e2, h⟩ | ⟨a, kvs, e2, h⟩
  · exact .inl h
  · exact .inr (.inl h)
  · by_cases q : a = p
    · subst q; exact .inr (.inr (.inl ⟨a, ys, e2, SqL.of upd_same⟩))
    · exact .inr (.inr (.inl ⟨a, zs, e2, sq_ne h q⟩))
  · by_cases q : a = p
    · subst q; rw [e] at h; cases h
    · exact .inr (.inr (.inr ⟨a, kvs, e2, by rw [upd_ne q]; exact h⟩))⟩
mutual
theorem Sv.kp {K : PySem.W.Frag} {H H' : Hp} (k : Kp K H H') : ∀ {v : V} {d : Sk}, Sv K H v d → Sv K H' v d
  | _, _, .str x h => .str x h
  | _, _, .int n => .int n
  | _, _, .oth h => .oth (k.oth _ h)
  | _, _, .tup h r => .tup (k.tup _ _ h) (SvAll.kp k r)
theorem SvAll.kp {K : PySem.W.Frag} {H H' : Hp} (k : Kp K H H') : ∀ {vs : List V} {ds : List Sk}, SvAll K H vs ds → SvAll K H' vs ds
  | _, _, .nil => .nil
  | _, _, .cons h r => .cons (Sv.kp k h) (SvAll.kp k r)
end
theorem SvAll.len {K : PySem.W.Frag} {H : Hp} : ∀ {vs : List V} {ds : List Sk}, SvAll K H vs ds → vs.length = ds.length
  | _, _, .nil => rfl
  | _, _, .cons _ r => congrArg (· + 1) r.len
theorem SvAll.get {K : PySem.W.Frag} {H : Hp} : ∀ {vs : List V} {ds : List Sk} {i : Nat} {d : Sk}, SvAll K H vs ds → ds[i]? = some d → ∃ v, vs[i]? = some v ∧ Sv K H v d
  | [], [], i, d, .nil, h => by simp at h
  | v :: _, _ :: _, 0, d, .cons h _, e => ⟨v, rfl, by rw [← Option.some.inj e]; exact h⟩
  | _ :: vs, _ :: ds, i + 1, d, .cons _ r, e => SvAll.get (vs := vs) (ds := ds) (i := i) r e
theorem sv_s {K : PySem.W.Frag} {H : Hp} {v : V} {x : Str} (h : Sv K H v (.s x)) : v = .str x ∧ x.cps.size ≤ 100000 := by
  cases h with
  | str _ h => exact ⟨rfl, h⟩
theorem sv_i {K : PySem.W.Frag} {H : Hp} {v : V} {n : Int} (h : Sv K H v (.i n)) : v = .int n := by cases h; rfl
theorem sv_o {K : PySem.W.Frag} {H : Hp} {v : V} (h : Sv K H v .o) : Oth K H v := by
  cases h with
  | oth h => exact h
theorem sv_t {K : PySem.W.Frag} {H : Hp} {v : V} {ds : List Sk} (h : Sv K H v (.t ds)) : ∃ a xs, v = .ref a ∧ SqT K H a xs ∧ SvAll K H xs ds := by
  cases h with
  | tup h r => exact ⟨_, _, rfl, h, r⟩
theorem ty_lst {K : PySem.W.Frag} {H : Hp} {a : Addr} {xs : List V} (h : SqL K H a xs) : TyX K H (.ref a) (.type "list") := by
  rcases h with (h | ⟨o, h⟩) | ⟨o, its, n, hk, hc, _⟩
  · exact .base (.lst h)
  · exact .base (.frz h)
  · exact .kList hk hc
/-- the name of a value's type -/
def Sk.ty : Sk → String → Prop
  | .s _, n => n = "str"
  | .i _, n => n = "int"
  | .o, n => n = "NoneType" ∨ n = "bool" ∨ n = "list" ∨ n = "dict"
  | .t _, n => n = "tuple"
theorem sv_ty {K : PySem.W.Frag} {H : Hp} {v : V} {d : Sk} (h : Sv K H v d) : ∃ t, d.ty t ∧ TyX K H v (.type t) := by
  cases h with
  | str x _ => exact ⟨_, rfl, .base (.str x)⟩
  | int n => exact ⟨_, rfl, .base (.int n)⟩
  | tup h _ => exact ⟨_, rfl, ty_tup h⟩
  | oth h =>
    rcases h with rfl | ⟨b, rfl⟩ | ⟨a, xs, rfl, h⟩ | ⟨a, kvs, rfl, h⟩
    · exact ⟨_, .inl rfl, .base .non⟩
    · exact ⟨_, .inr (.inl rfl), .base (.bl b)⟩
    · exact ⟨_, .inr (.inr (.inl rfl)), ty_lst h⟩
    · exact ⟨_, .inr (.inr (.inr rfl)), .base (.dK h)⟩
def Sk.isT : Sk → Bool
  | .t _ => true
  | _ => false
def Sk.isS : Sk → Bool
  | .s _ => true
  | _ => false
def Sk.isI : Sk → Bool
  | .i _ => true
  | _ => false
/-- isinstance(v, tuple), (v, str); bool, int: a bool is an int -/
theorem isi_t {K : PySem.W.Frag} {H : Hp} {v : V} {d : Sk} (h : Sv K H v d) : ∃ t, TyX K H v t ∧ PySem.W.kitOne K t (.type "tuple") = some d.isT := by
  obtain ⟨t, ht, hx⟩ := sv_ty h
  refine ⟨_, hx, ?_⟩
  cases d <;> unfold Sk.ty at ht
  all_goals first
    | (subst ht; first | (show _ = some true; exact kit_ty (by decide +kernel)) | (show _ = some false; exact kit_ty (by decide +kernel)))
    | (rcases ht with rfl | rfl | rfl | rfl <;> (show _ = some false; exact kit_ty (by decide +kernel)))
theorem isi_s {K : PySem.W.Frag} {H : Hp} {v : V} {d : Sk} (h : Sv K H v d) : ∃ t, TyX K H v t ∧ PySem.W.kitOne K t (.type "str") = some d.isS := by
  obtain ⟨t, ht, hx⟩ := sv_ty h
  refine ⟨_, hx, ?_⟩
  cases d <;> unfold Sk.ty at ht
  all_goals first
    | (subst ht; first | (show _ = some true; exact kit_ty (by decide +kernel)) | (show _ = some false; exact kit_ty (by decide +kernel)))
    | (rcases ht with rfl | rfl | rfl | rfl <;> (show _ = some false; exact kit_ty (by decide +kernel)))
theorem isi_b {K : PySem.W.Frag} {H : Hp} {v : V} {d : Sk} (h : Sv K H v d) : ∃ t b c, TyX K H v t ∧ PySem.W.kitOne K t (.type "bool") = some b ∧ PySem.W.kitOne K t (.type "int") = some c ∧ (b || !c) = !d.isI := by
  obtain ⟨t, ht, hx⟩ := sv_ty h
  cases d <;> unfold Sk.ty at ht
  · subst ht; exact ⟨_, false, false, hx, kit_ty (by decide +kernel), kit_ty (by decide +kernel), rfl⟩
  · subst ht; exact ⟨_, false, true, hx, kit_ty (by decide +kernel), kit_ty (by decide +kernel), rfl⟩
  · rcases ht with rfl | rfl | rfl | rfl
    · exact ⟨_, false, false, hx, kit_ty (by decide +kernel), kit_ty (by decide +kernel), rfl⟩
    · exact ⟨_, true, true, hx, kit_ty (by decide +kernel), kit_ty (by decide +kernel), rfl⟩
    · exact ⟨_, false, false, hx, kit_ty (by decide +kernel), kit_ty (by decide +kernel), rfl⟩
    · exact ⟨_, false, false, hx, kit_ty (by decide +kernel), kit_ty (by decide +kernel), rfl⟩
  · subst ht; exact ⟨_, false, false, hx, kit_ty (by decide +kernel), kit_ty (by decide +kernel), rfl⟩
/-! the parts that wait, as the heap has them -/
def En (K : PySem.W.Frag) (H : Hp) (v : V) (e : Sk × List Int) : Prop := ∃ (a pt : Addr) (u : V), v = .ref a ∧ SqT K H a [u, .ref pt] ∧ SqT K H pt (e.2.map V.int) ∧ Sv K H u e.1
theorem En.kp {K : PySem.W.Frag} {H H' : Hp} {v : V} {e : Sk × List Int} (k : Kp K H H') (h : En K H v e) : En K H' v e := by
  obtain ⟨a, pt, u, rfl, h1, h2, h3⟩ := h
  exact ⟨a, pt, u, rfl, k.tup _ _ h1, k.tup _ _ h2, Sv.kp k h3⟩
def Ens (K : PySem.W.Frag) (H : Hp) : List V → Sk.Wt → Prop := Paired (En K H)
theorem Ens.kp {K : PySem.W.Frag} {H H' : Hp} (k : Kp K H H') : ∀ {vs : List V} {es : Sk.Wt}, Ens K H vs es → Ens K H' vs es
  | _, _, .nil => .nil
  | _, _, .cons h r => .cons (h.kp k) (Ens.kp k r)
theorem last_of (y : V) (vs : List V) : (y :: vs).reverse[(y :: vs).reverse.length - 1]? = some y := by
  rw [List.reverse_cons, List.length_append, List.length_singleton, Nat.add_sub_cancel, List.getElem?_append_right (Nat.le_refl _), Nat.sub_self]
  rfl
theorem drop_of (y : V) (vs : List V) : (y :: vs).reverse.dropLast = vs.reverse := by
  rw [List.reverse_cons, List.dropLast_concat]
mutual
/-- a formula's skeleton -/
def Fml.sk : Fml → Sk
  | .var x => .s x
  | .num i => .i i
  | .neg a => .t [.s "not", a.sk]
  | .bin w a b => .t [.s w, a.sk, b.sk]
end
theorem dp_sv {K : PySem.W.Frag} {H : Hp} : ∀ {F : Fml} {v : V}, Dp K H v F.d → (∀ x ∈ F.nms, x.cps.size ≤ 100000) → F.ok → Sv K H v F.sk
  | .var x, v, h, l, _ => by
    obtain rfl := dp_str h
    exact .str x (l x (List.mem_singleton.mpr rfl))
  | .num i, v, h, _, _ => by
    obtain rfl := dp_int h
    exact .int i
  | .neg a, v, h, l, ok => by
    obtain ⟨t, u, rfl, hT, hu⟩ := dp_neg h
    rw [Fml.sk]
    exact .tup hT (.cons (.str _ (by decide +kernel)) (.cons (dp_sv hu l ok) .nil))
  | .bin w a b, v, h, l, ok => by
    obtain ⟨t, u, u2, rfl, hT, hu, hu2⟩ := dp_bin h
    rw [Fml.sk]
    have hw : w.cps.size ≤ 100000 := by
      rcases ok.1 with rfl | rfl | rfl | rfl | rfl <;> decide +kernel
    exact .tup hT (.cons (.str _ hw) (.cons (dp_sv hu (fun x hx => l x (List.mem_append_left _ hx)) ok.2.1) (.cons (dp_sv hu2 (fun x hx => l x (List.mem_append_right _ hx)) ok.2.2) .nil)))
end Vx

namespace Vx
open PySem PySem.Spec PyProof.Rows L2
/-! formulas counted, and their skeletons -/
theorem sk_cnt : ∀ F : Fml, F.sk.leaves = F.lvs ∧ F.sk.tups = F.tps ∧ F.sk.depth = F.dep ∧ F.sk.size = F.lvs + 2 * F.tps
  | .var x => ⟨rfl, rfl, rfl, rfl⟩
  | .num i => ⟨rfl, rfl, rfl, rfl⟩
  | .neg a => by
    obtain ⟨h1, h2, h3, h4⟩ := sk_cnt a
    have e : (Sk.s "not").size = 1 := rfl
    rw [Fml.sk, Sk.leaves, Sk.tups, Sk.depth, Sk.size]
    refine ⟨?_, ?_, ?_, ?_⟩
    · show a.sk.leaves + 0 = a.lvs; omega
    · show a.sk.tups + 0 + 1 = a.tps + 1; omega
    · show max a.sk.depth 0 + 1 = a.dep + 1; omega
    · show (Sk.s "not").size + (a.sk.size + 0) + 1 = a.lvs + 2 * (a.tps + 1); omega
  | .bin w a b => by
    obtain ⟨h1, h2, h3, h4⟩ := sk_cnt a
    obtain ⟨k1, k2, k3, k4⟩ := sk_cnt b
    have e : (Sk.s w).size = 1 := rfl
    rw [Fml.sk, Sk.leaves, Sk.tups, Sk.depth, Sk.size]
    refine ⟨?_, ?_, ?_, ?_⟩
    · show a.sk.leaves + (b.sk.leaves + 0) = a.lvs + b.lvs; omega
    · show a.sk.tups + (b.sk.tups + 0) + 1 = a.tps + b.tps + 1; omega
    · show max a.sk.depth (max b.sk.depth 0) + 1 = max a.dep b.dep + 1; omega
    · show (Sk.s w).size + (a.sk.size + (b.sk.size + 0)) + 1 = a.lvs + b.lvs + 2 * (a.tps + b.tps + 1); omega
theorem opc_w {w : Str} (h : Fml.isW w) : Sk.opc w = some 2 := by
  rcases h with rfl | rfl | rfl | rfl | rfl <;> decide +kernel
theorem opc_not : Sk.opc "not" = some 1 := by decide +kernel
theorem sk_bad {q : Int} : ∀ {F : Fml} (p : List Int), F.ok → F.lok q → Sk.bad q F.sk p = none
  | .var x, p, _, l => by
    have : Sk.built q (.s x) = true := l
    rw [Fml.sk, Sk.bad, if_pos this]
    intro x r h; cases h
  | .num i, p, _, l => by
    have : Sk.built q (.i i) = true := by
      show (decide (0 ≤ i) && decide (i < q)) = true
      rw [decide_eq_true l.1, decide_eq_true l.2]; rfl
    rw [Fml.sk, Sk.bad, if_pos this]
    intro x r h; cases h
  | .neg a, p, o, l => by
    have : Sk.built q (.t [.s "not", a.sk]) = true := decide_eq_true opc_not
    rw [Fml.sk, Sk.bad, if_pos this, Sk.bads, sk_bad (F := a) (p ++ [((1 : Nat) : Int)]) o l, Sk.bads]
  | .bin w a b, p, o, l => by
    have : Sk.built q (.t [.s w, a.sk, b.sk]) = true := decide_eq_true (opc_w o.1)
    rw [Fml.sk, Sk.bad, if_pos this, Sk.bads, sk_bad (F := a) (p ++ [((1 : Nat) : Int)]) o.2.1 l.1]
    show Sk.bads q [b.sk] p 2 = none
    rw [Sk.bads, sk_bad (F := b) (p ++ [((2 : Nat) : Int)]) o.2.2 l.2, Sk.bads]
theorem res_ok {q : Int} {F : Fml} (o : F.ok) (l : F.lok q) : Sk.res q F.sk = if F.lvs > 8 ∨ F.tps > 16 ∨ F.dep > 12 then some none else none := by
  obtain ⟨h1, h2, h3, _⟩ := sk_cnt F
  unfold Sk.res
  rw [sk_bad [] o l, h1, h2, h3]
theorem fml_sv {K : PySem.W.Frag} {H : Hp} {F : Fml} {v : V} {q : Int} (h : Dp K H v F.d) (o : F.ok) (l : F.lok q) : Sv K H v F.sk :=
  dp_sv h (fun x hx => Nat.le_trans (nameB_low (Fml.lok_nms l x hx)).2 (by decide)) o
def negs : Nat → Fml → Fml
  | 0, F => F
  | n + 1, F => .neg (negs n F)
theorem negs_cnt (n : Nat) (F : Fml) : (negs n F).lvs = F.lvs ∧ (negs n F).tps = F.tps + n ∧ (negs n F).dep = F.dep + n := by
  induction n with
  | zero => exact ⟨rfl, rfl, rfl⟩
  | succ n ih =>
    obtain ⟨h1, h2, h3⟩ := ih
    exact ⟨h1, by show (negs n F).tps + 1 = _; omega, by show (negs n F).dep + 1 = _; omega⟩
theorem negs_ok {F : Fml} (h : F.ok) : ∀ n, (negs n F).ok
  | 0 => h
  | n + 1 => negs_ok h n
theorem negs_lok {q : Int} {F : Fml} (h : F.lok q) : ∀ n, (negs n F).lok q
  | 0 => h
  | n + 1 => negs_lok h n
theorem negs_nms {F : Fml} : ∀ n, (negs n F).nms = F.nms
  | 0 => rfl
  | n + 1 => negs_nms n
/-- the path through n negations -/
theorem negs_bad {q : Int} (F : Fml) : ∀ (n : Nat) (p : List Int), Sk.bad q (negs n F).sk p = Sk.bad q F.sk (p ++ List.replicate n 1)
  | 0, p => by rw [List.replicate_zero, List.append_nil]; rfl
  | n + 1, p => by
    have : Sk.built q (.t [.s "not", (negs n F).sk]) = true := decide_eq_true opc_not
    show Sk.bad q (Fml.neg (negs n F)).sk p = _
    rw [Fml.sk, Sk.bad, if_pos this, Sk.bads, negs_bad F n, Sk.bads, List.replicate_succ, List.append_assoc]
    show (match Sk.bad q F.sk (p ++ ([((1 : Nat) : Int)] ++ List.replicate n 1)) with | some z => some z | none => none) = Sk.bad q F.sk (p ++ 1 :: List.replicate n 1)
    cases c : Sk.bad q F.sk (p ++ ([((1 : Nat) : Int)] ++ List.replicate n 1)) with
    | none => exact c.symm
    | some z => exact c.symm
def szD : PyData := .tuple [.str "size", .tuple []]
def dueD (n : Nat) (b : Nat) : PyData := if n > b then szD else .none
theorem due_shaped (n b : Nat) : SeqAt.shaped (dueD n b) = true := by
  unfold dueD
  split
  · decide +kernel
  · decide +kernel
theorem due_noL (n b : Nat) : noL (dueD n b) = true := by
  unfold dueD
  split <;> rfl
theorem res_due {q : Int} {F : Fml} (o : F.ok) (l : F.lok q) {n b : Nat} (h : (F.lvs > 8 ∨ F.tps > 16 ∨ F.dep > 12) ↔ n > b) : Sk.resD (Sk.res q F.sk) = dueD n b := by
  rw [res_ok o l]
  unfold dueD
  by_cases c : n > b
  · rw [if_pos c, if_pos (h.mpr c)]; rfl
  · rw [if_neg c, if_neg (fun z => c (h.mp z))]; rfl
/-- data by places -/
theorem dpAll_at {K : PySem.W.Frag} {H : Hp} : ∀ {vs : List V} {ds : List PyData}, vs.length = ds.length → (∀ (i : Nat) v d, vs[i]? = some v → ds[i]? = some d → Dp K H v d) → DpAll K H vs ds
  | [], [], _, _ => .nil
  | v :: vs, d :: ds, hl, h => .cons (h 0 v d rfl rfl) (dpAll_at (by simpa using hl) fun i a b e f => h (i + 1) a b e f)
  | [], _ :: _, hl, _ => by simp at hl
  | _ :: _, [], hl, _ => by simp at hl
theorem dp_at {K : PySem.W.Frag} {H : Hp} {vs : List V} {ds : List PyData} {i : Nat} {v : V} {d : PyData} (h : DpAll K H vs ds) (e : vs[i]? = some v) (f : ds[i]? = some d) : Dp K H v d := by
  obtain ⟨u, hu, hd⟩ := DpAll.get h f
  rw [e] at hu
  rw [Option.some.inj hu]
  exact hd
theorem dp_put {K : PySem.W.Frag} {H : Hp} {vs : List V} {ds ds2 : List PyData} {j : Nat} {y : V} (h : DpAll K H vs ds) (hl : ds2.length = ds.length) (ho : ∀ i, i ≠ j → ds2[i]? = ds[i]?) (hj : ∀ d, ds2[j]? = some d → Dp K H y d) : DpAll K H (vs.set j y) ds2 := by
  have l := DpAll.len h
  refine dpAll_at (by rw [List.length_set]; omega) fun i v d e f => ?_
  by_cases c : i = j
  · subst c
    have : i < vs.length := by have := (List.getElem?_eq_some_iff.mp f).1; omega
    rw [List.getElem?_set_self this] at e
    obtain rfl := Option.some.inj e
    exact hj d f
  · rw [List.getElem?_set_ne (Ne.symm c)] at e
    rw [ho i c] at f
    exact dp_at h e f
/-- a comprehension over a range with a step -/
theorem lc_rangeC {lo c : Int} {n : Nat} {g : TG} {tt : TT} {te : TE} {vs : List Nat} {σ : L2.St} {H1 : Hp} {D : Addr} {Qd : Hp → Prop} (Pv : Nat → Hp → Prop) (h0 : Pv 0 (upd H1 D (.lst [])))
    (hs : ∀ i H, i < n → Pv i H → g (.int (lo + (i : Nat) * c)) (wipe σ vs) H fun σ2 H2 => wipe σ2 vs = wipe σ vs ∧ tt σ2 H2 fun b H3 =>
      if b = true then te σ2 H3 fun y H4 => ∃ acc, H4 D = some (.lst acc) ∧ acc.length < sizeLine ∧ Pv (i + 1) (upd H4 D (.lst (acc ++ [y]))) else Pv (i + 1) H3) (hd : ∀ H, Pv n H → Qd H) :
    ∃ W : Nat → Nat → Hp → Prop, (∃ m, W 0 m (upd H1 D (.lst []))) ∧ ∀ i m H, W i m H →
      ((Itc lo c n).stop i H ∧ Qd H) ∨ ((Itc lo c n).go i H ∧ ∃ Nx : Hp → Prop, (∀ H', Nx H' → ∃ m', m' < m ∧ W (i + 1) m' H') ∧ ∀ x H', (Itc lo c n).yld i H x H' → g x (wipe σ vs) H' fun σ2 H2 => wipe σ2 vs = wipe σ vs ∧ tt σ2 H2 fun b H3 =>
        if b = true then te σ2 H3 fun y H4 => ∃ acc, H4 D = some (.lst acc) ∧ acc.length < sizeLine ∧ Nx (upd H4 D (.lst (acc ++ [y]))) else Nx H3) := by
  refine ⟨fun i m H => m = n - i ∧ i ≤ n ∧ Pv i H, ⟨_, rfl, Nat.zero_le _, h0⟩, ?_⟩
  rintro i m H ⟨rfl, hi, p⟩
  by_cases l : i < n
  · refine .inr ⟨l, Pv (i + 1), fun H' p' => ⟨n - (i + 1), by omega, rfl, l, p'⟩, ?_⟩
    rintro x _ ⟨rfl, rfl⟩
    exact hs i _ l p
  · obtain rfl : i = n := by omega
    exact .inl ⟨Nat.le_refl _, hd H p⟩
theorem lc_rangeCD {K : PySem.W.Frag} {lo c : Int} {n j : Nat} {te : TE} {vs : List Nat} {σ : L2.St} {H1 : Hp} {D : Addr} {Qd : Hp → Prop} (G : Hp → Prop) (f : Nat → PyData → Prop) (hn : n ≤ 100000) (h0 : G (upd H1 D (.lst [])))
    (hw : ∀ v, wipe ((wipe σ vs).set j (some v)) vs = wipe σ vs)
    (hs : ∀ i H', i < n → Made K D f G i H' → ∀ Q : VK, (∀ y d H4, Stay K D H' H4 → noL d = true → Dp K H4 y d → f i d → (∀ acc, G (upd H4 D (.lst acc))) → Q y H4) → te ((wipe σ vs).set j (some (.int (lo + (i : Nat) * c)))) H' Q)
    (hd : ∀ H, Made K D f G n H → Qd H) :
    LcOf (Itc lo c n) j te vs σ H1 D Qd := by
  refine lc_rangeC (Made K D f G) (.start h0) (fun i H' hi m => ?_) hd
  refine ⟨hw _, ?_⟩
  show te _ H' _
  exact hs i H' hi m _ fun y d H4 s no hd hf g => m.next s no hd hf (by omega) g
/-- eight formulas -/
def sm8 (fs : Nat → Fml) : Nat := (fs 0).tps + (fs 1).tps + (fs 2).tps + (fs 3).tps + (fs 4).tps + (fs 5).tps + (fs 6).tps + (fs 7).tps
def putG (fs : Nat → Fml) (j : Nat) (F : Fml) : Nat → Fml := fun i => if i = j then F else fs i
theorem sm8_put (fs : Nat → Fml) {j : Nat} (h : j < 8) : sm8 (putG fs j (.neg (fs j))) = sm8 fs + 1 := by
  have c : j = 0 ∨ j = 1 ∨ j = 2 ∨ j = 3 ∨ j = 4 ∨ j = 5 ∨ j = 6 ∨ j = 7 := by omega
  have e : (Fml.neg (fs j)).tps = (fs j).tps + 1 := rfl
  rcases c with rfl | rfl | rfl | rfl | rfl | rfl | rfl | rfl <;> simp [sm8, putG, e] <;> omega
end Vx

namespace Vx
open PySem PySem.Spec PyProof.Rows L2
/-! any values: as Dp, and the empty dict; no list among them is the pen, none stands at the modules' place -/
mutual
inductive Dx (K : PySem.W.Frag) (p : Addr) (H : Hp) : V → PyData → Prop
  | non : Dx K p H .non .none
  | bl (b : Bool) : Dx K p H (.bl b) (.bool b)
  | int (i : Int) : Dx K p H (.int i) (.int i)
  | str (x : Str) : Dx K p H (.str x) (.str x)
  | lst {a : Addr} {xs : List V} {ds : List PyData} : a ≠ p → a ≠ sysModules → SqL K H a xs → DxAll K p H xs ds → Dx K p H (.ref a) (.list ds)
  | tup {a : Addr} {xs : List V} {ds : List PyData} : SqT K H a xs → DxAll K p H xs ds → Dx K p H (.ref a) (.tuple ds)
  | emp {a : Addr} : a ≠ p → H a = some (.dK []) → Dx K p H (.ref a) (.dict [])
inductive DxAll (K : PySem.W.Frag) (p : Addr) (H : Hp) : List V → List PyData → Prop
  | nil : DxAll K p H [] []
  | cons {v : V} {vs : List V} {d : PyData} {ds : List PyData} : Dx K p H v d → DxAll K p H vs ds → DxAll K p H (v :: vs) (d :: ds)
end
theorem DxAll.len {K : PySem.W.Frag} {p : Addr} {H : Hp} : ∀ {vs : List V} {ds : List PyData}, DxAll K p H vs ds → vs.length = ds.length
  | _, _, .nil => rfl
  | _, _, .cons _ r => congrArg (· + 1) r.len
theorem DxAll.get {K : PySem.W.Frag} {p : Addr} {H : Hp} : ∀ {vs : List V} {ds : List PyData} {i : Nat} {d : PyData}, DxAll K p H vs ds → ds[i]? = some d → ∃ v, vs[i]? = some v ∧ Dx K p H v d
  | [], [], i, d, .nil, h => by simp at h
  | v :: _, _ :: _, 0, d, .cons h _, e => ⟨v, rfl, by rw [← Option.some.inj e]; exact h⟩
  | _ :: vs, _ :: ds, i + 1, d, .cons _ r, e => DxAll.get (vs := vs) (ds := ds) (i := i) r e
theorem DxAll.app {K : PySem.W.Frag} {p : Addr} {H : Hp} : ∀ {vs us : List V} {ds es : List PyData}, DxAll K p H vs ds → DxAll K p H us es → DxAll K p H (vs ++ us) (ds ++ es)
  | _, _, _, _, .nil, h => h
  | _, _, _, _, .cons a r, h => .cons a (r.app h)
theorem DxAll.cut {K : PySem.W.Frag} {p : Addr} {H : Hp} : ∀ {vs : List V} {ds : List PyData} (n : Nat), DxAll K p H vs ds → DxAll K p H (vs.take n) (ds.take n) ∧ DxAll K p H (vs.drop n) (ds.drop n)
  | _, _, 0, h => ⟨.nil, h⟩
  | [], [], _ + 1, .nil => ⟨.nil, .nil⟩
  | _ :: vs, _ :: ds, n + 1, .cons a r => ⟨.cons a (DxAll.cut n r).1, (DxAll.cut n r).2⟩
mutual
theorem Dx.but {K : PySem.W.Frag} {p : Addr} {H H' : Hp} (c : Chg H p) (s : But p H H') : ∀ {v : V} {d : PyData}, Dx K p H v d → Dx K p H' v d
  | _, _, .non => .non
  | _, _, .bl b => .bl b
  | _, _, .int i => .int i
  | _, _, .str x => .str x
  | _, _, .lst n m h r => .lst n m (But.seq s n h) (DxAll.but c s r)
  | _, _, .tup h r => .tup (Chg.tup c s h) (DxAll.but c s r)
  | _, _, .emp n h => .emp n (s _ _ n h)
theorem DxAll.but {K : PySem.W.Frag} {p : Addr} {H H' : Hp} (c : Chg H p) (s : But p H H') : ∀ {vs : List V} {ds : List PyData}, DxAll K p H vs ds → DxAll K p H' vs ds
  | _, _, .nil => .nil
  | _, _, .cons a r => .cons (Dx.but c s a) (DxAll.but c s r)
end
mutual
theorem Dx.same {K : PySem.W.Frag} {p : Addr} {H H' : Hp} (s : Same H H') : ∀ {v : V} {d : PyData}, Dx K p H v d → Dx K p H' v d
  | _, _, .non => .non
  | _, _, .bl b => .bl b
  | _, _, .int i => .int i
  | _, _, .str x => .str x
  | _, _, .lst n m h r => .lst n m (s.seq h) (DxAll.same s r)
  | _, _, .tup h r => .tup (Same.seqT s h) (DxAll.same s r)
  | _, _, .emp n h => .emp n (s _ _ h)
theorem DxAll.same {K : PySem.W.Frag} {p : Addr} {H H' : Hp} (s : Same H H') : ∀ {vs : List V} {ds : List PyData}, DxAll K p H vs ds → DxAll K p H' vs ds
  | _, _, .nil => .nil
  | _, _, .cons a r => .cons (Dx.same s a) (DxAll.same s r)
end
mutual
theorem Dx.of {K : PySem.W.Frag} {H : Hp} (p : Addr) : ∀ (d : PyData) (v : V), noL d = true → Dp K H v d → Dx K p H v d
  | .none, _, _, h => by cases h; exact .non
  | .bool b, _, _, h => by cases h; exact .bl b
  | .int i, _, _, h => by cases h; exact .int i
  | .str x, _, _, h => by cases h; exact .str x
  | .list ds, _, n, _ => by cases n
  | .dict kvs, _, _, h => by cases h
  | .tuple ds, _, n, h => by
    obtain ⟨a, xs, rfl, hs, hd⟩ := dp_tuple h
    exact .tup hs (DxAll.of p ds xs n hd)
theorem DxAll.of {K : PySem.W.Frag} {H : Hp} (p : Addr) : ∀ (ds : List PyData) (vs : List V), noLs ds = true → DpAll K H vs ds → DxAll K p H vs ds
  | [], _, _, h => by cases h; exact .nil
  | d :: ds, _, n, h => by
    cases h with
    | cons h1 h2 =>
      have n2 := (Bool.and_eq_true _ _).mp n
      exact .cons (Dx.of p d _ n2.1 h1) (DxAll.of p ds _ n2.2 h2)
end
/-! such values are read, and shown -/
section
variable {X : Cx} {pins : List (Addr × Obj)} {σ : L2.St} {H : Hp} {s : Shared} {p : Addr}
mutual
theorem Dx.reads (I : Inv X pins σ H s) : ∀ (d : PyData) (v : V) (u : Value), Dx X.K p H v d → RelV v u → ∃ as, Reads s.heap u d as ∧ sysModules ∉ as
  | .none, _, _, h, r => by
    cases h; cases r
    exact ⟨_, Reads.none, fun z => nomatch z⟩
  | .bool b, _, _, h, r => by
    cases h; cases r
    exact ⟨_, Reads.bool b, fun z => nomatch z⟩
  | .int i, _, _, h, r => by
    cases h
    obtain ⟨t, rfl⟩ := r
    exact ⟨_, Reads.int i t, fun z => nomatch z⟩
  | .str x, _, _, h, r => by
    cases h
    obtain ⟨t, rfl⟩ := r
    exact ⟨_, Reads.str x t, fun z => nomatch z⟩
  | .list ds, _, _, h, r => by
    cases h with
    | lst n m hs ha =>
      cases r
      obtain ⟨its, rv, ⟨o, n', ho, hc, _, hd⟩, _⟩ := I.list hs
      obtain ⟨as, hr, na⟩ := Dx.readsAll I ds _ its ha rv
      exact ⟨_, Reads.list ho hc hd hr, fun z => (List.mem_cons.mp z).elim (fun e => m e.symm) na⟩
  | .tuple ds, _, _, h, r => by
    cases h with
    | tup hs ha =>
      cases r
      obtain ⟨its, rv, ⟨o, ho, hc, n, hd⟩, _⟩ := I.tuple hs
      obtain ⟨as, hr, na⟩ := Dx.readsAll I ds _ its ha rv
      exact ⟨_, Reads.tuple ho hc hd hr, na⟩
  | .dict kvs, _, _, h, r => by
    cases h with
    | emp n he =>
      cases r
      obtain ⟨_, ns, vs, rk, o, es, ep, ho, hx, hd, _, hpr, _⟩ := I.hok _ _ he
      obtain ⟨r1, r2⟩ := plain_reads (h := s.heap) (kvs := []) (fun kv hkv => nomatch hkv) rk hpr
      exact ⟨_, Reads.dict (kvs := []) ho hx.1 hd r1 r2, fun z => by
        rw [List.append_nil, List.mem_singleton] at z
        rw [← z] at ns
        exact absurd ns (by decide)⟩
theorem Dx.readsAll (I : Inv X pins σ H s) : ∀ (ds : List PyData) (vs : List V) (us : List Value), DxAll X.K p H vs ds → Vals vs us → ∃ as, ReadsAll s.heap us ds as ∧ sysModules ∉ as
  | [], _, _, h, r => by
    cases h; cases r
    exact ⟨_, ReadsAll.nil, fun z => nomatch z⟩
  | d :: ds, _, _, h, r => by
    cases h with
    | cons h1 h2 =>
      cases r with
      | cons r1 r2 =>
        obtain ⟨as, q1, n1⟩ := Dx.reads I d _ _ h1 r1
        obtain ⟨bs, q2, n2⟩ := Dx.readsAll I ds _ _ h2 r2
        exact ⟨_, ReadsAll.cons q1 q2, fun z => (List.mem_append.mp z).elim n1 n2⟩
end
end
/-- not too large to be shown -/
structure Gd (d : PyData) (n m : Nat) : Prop where
  sh : d.showable = true
  lf : d.leavesShort 60 = true
  dp : d.depth ≤ n
  bk : d.bulk ≤ m
theorem Gd.len {d : PyData} {n m : Nat} (h : Gd d n m) (hm : m ≤ 200000) : d.shown.length ≤ sizeLine := by
  have h1 := PyData.shown_le_bulk 60 (by decide) d h.lf
  have h2 := h.bk
  rw [sizeLine_eq]
  omega
section
variable {X : Cx}
def rReprX (K : PySem.W.Frag) : List V → Hp → VK → Prop := fun xs H Q => ∃ p v d, xs = [v] ∧ Dx K p H v d ∧ Gd d 50 200000 ∧ Q (.str d.shown) H
theorem call_reprX (hg : X.A.guards = some []) (hu : X.A.units + 64 < cLine) : CallR X (.builtin "repr") (rReprX X.K) := by
  intro pins s σ H xs us Q I r h
  obtain ⟨p, v, d, rfl, hd, g, q⟩ := h
  obtain ⟨u, rfl, ru⟩ := vals1 r
  obtain ⟨as, rd, ns⟩ := Dx.reads I d v u hd ru
  have big : ∀ a, u = .ref a → wpAny (model X.prog X.w) X.A (call (.builtin "repr") [u]) (EP X pins σ Q) X.xe s := by
    rintro a rfl
    have := g.dp
    exact repr_of_reads' rd g.sh (fun _ => ns) hg (by omega) (fun _ _ e => e) (fun h' u tk hk => ⟨.str d.shown, H, I.kept hk, ⟨u, rfl⟩, q⟩) (g.len (Nat.le_refl _))
  cases hd with
  | lst n m hs ha => exact big _ ru
  | tup hs ha => exact big _ ru
  | emp n he => exact big _ ru
  | int i =>
    obtain ⟨t, rfl⟩ := (show ∃ t, u = Value.int i t from ru)
    have hz : i.natAbs.log2 < 1920 := of_decide_eq_true g.sh
    exact PySem.P.repr_of_int hz ⟨.str _, H, I.tok _, ⟨_, rfl⟩, q⟩
  | str x =>
    obtain ⟨t, rfl⟩ := (show ∃ t, u = Value.str x t from ru)
    have hl := g.len (Nat.le_refl _)
    exact call_repr_slot (by omega) rfl F.slot_str_repr.toG (call_gives F.slot_str_repr rfl F.entry_str_repr (F.args_str_repr_1 _) (gives_str_repr x t) ⟨hl, ⟨_, _, rfl, ⟨.str _, H, I.tok _, ⟨_, rfl⟩, q⟩⟩⟩)
  | bl b =>
    obtain rfl : u = Value.bool b := ru
    exact call_repr_slot (by omega) rfl F.slot_bool_repr.toG (call_gives F.slot_bool_repr rfl F.entry_bool_repr (F.args_bool_repr_1 _) (gives_bool_repr b) ⟨by cases b <;> decide, _, _, rfl, ⟨.str _, H, I.tok _, ⟨_, rfl⟩, q⟩⟩)
  | non =>
    obtain rfl : u = Value.none := ru
    exact call_repr_slot (by omega) rfl F.slot_NoneType_repr.toG (call_gives F.slot_NoneType_repr rfl F.entry_NoneType_repr (F.args_NoneType_repr_1 _) gives_none_repr ⟨by decide, _, _, rfl, ⟨.str _, H, I.tok _, ⟨_, rfl⟩, q⟩⟩)
/-- t == (), whatever t holds -/
def rEqE (K : PySem.W.Frag) : R2 := fun x y H Q => ∃ a b xs, x = .ref a ∧ y = .ref b ∧ SqT K H a xs ∧ SqT K H b [] ∧ Q (.bl xs.isEmpty) H
theorem op_eqE (hu : X.A.units + 64 < cLine) : OpR X (compareOp .Eq) (rEqE X.K) := by
  intro pins s σ H x y v u Q I rx ry h
  obtain ⟨a, b, xs, rfl, rfl, ha, hb, q⟩ := h
  cases rx
  cases ry
  obtain ⟨its, rv, pl, _⟩ := I.tuple ha
  obtain ⟨its2, rv2, pl2, _⟩ := I.tuple hb
  cases rv2
  have e : ((List.range (min its.toArray.size (#[] : Array Value).size)).all (fun _ => true) && its.toArray.size == (#[] : Array Value).size) = xs.isEmpty := by
    cases rv <;> simp
  have k := SeqAt.RcAt.tuples (A := X.A) (l := a) (b := b) (items := its.toArray) (items2 := #[]) (e := fun _ => true) pl pl2 (by omega) (fun j h1 h2 => absurd h2 (by simp)) X.prog X.w X.xe (EP X pins σ Q)
  rw [e] at k
  exact k ⟨.bl _, H, I, rfl, q⟩
/-- a list that is written out: not the modules' place either -/
def tLstN (t : TA) : TE := fun σ H Q => t σ H fun xs H1 => xs.length ≤ sizeLine ∧ ∀ p, H1 p = none → p ≠ sysModules → Q (.ref p) (upd H1 p (.lst xs))
theorem pe_lstN {es : List Expr} {t : TA} {pos : Pos} (h : PA X es t) : PE X (.List es pos) (tLstN t) := by
  refine ⟨fun pins s σ H Q I hq => ?_⟩
  refine wpAny_List_spliced (thn (h.run pos pins s σ H _ I hq) fun us s1 ⟨xs, H1, I1, r, z, q⟩ => ⟨by rw [← r.length]; exact z, ?_⟩)
  have hf : H1 s1.heap.objs.size = none := I1.hok.fresh (Nat.le_refl _)
  have hb := I1.big
  refine ⟨.ref s1.heap.objs.size, upd H1 s1.heap.objs.size (.lst xs), I1.laid (t' := s1.toks) (fun b u e => Heap.get?_push_of_some _ e) (Nat.le_refl _) ?_, rfl, q _ hf (fun e => ?_)⟩
  · exact ⟨z, us, 0, r, Heap.get?_push_size _ rfl⟩
  · rw [e] at hb
    exact Nat.lt_irrefl _ hb
end
end Vx

namespace Vx
open PySem PySem.Spec PyProof.Rows L2
/-! any value's skeleton -/
mutual
def skD : PyData → Sk
  | .str x => .s x
  | .int i => .i i
  | .tuple ds => .t (skDs ds)
  | _ => .o
def skDs : List PyData → List Sk
  | [] => []
  | d :: r => skD d :: skDs r
end
theorem skDs_len : ∀ ds : List PyData, (skDs ds).length = ds.length
  | [] => rfl
  | d :: r => congrArg (· + 1) (skDs_len r)
theorem skDs_get : ∀ (ds : List PyData) (i : Nat), (skDs ds)[i]? = (ds[i]?).map skD
  | [], i => by simp [skDs]
  | d :: r, 0 => rfl
  | d :: r, i + 1 => skDs_get r i
mutual
theorem dx_sv {K : PySem.W.Frag} {p : Addr} {H : Hp} : ∀ (d : PyData) (v : V), Dx K p H v d → d.bulk ≤ 100000 → Sv K H v (skD d)
  | .none, _, h, _ => by cases h; exact .oth (.inl rfl)
  | .bool b, _, h, _ => by cases h; exact .oth (.inr (.inl ⟨b, rfl⟩))
  | .int i, _, h, _ => by cases h; exact .int i
  | .str x, _, h, b => by cases h; exact .str x b
  | .list ds, _, h, _ => by
    cases h with
    | lst n m hs ha => exact .oth (.inr (.inr (.inl ⟨_, _, rfl, hs⟩)))
  | .dict kvs, _, h, _ => by
    cases h with
    | emp n he => exact .oth (.inr (.inr (.inr ⟨_, _, rfl, he⟩)))
  | .tuple ds, _, h, b => by
    cases h with
    | tup hs ha => exact .tup hs (dxAll_sv ds _ ha b)
theorem dxAll_sv {K : PySem.W.Frag} {p : Addr} {H : Hp} : ∀ (ds : List PyData) (vs : List V), DxAll K p H vs ds → PyData.bulkAll ds ≤ 100000 → SvAll K H vs (skDs ds)
  | [], _, h, _ => by cases h; exact .nil
  | d :: ds, _, h, b => by
    cases h with
    | cons h1 h2 =>
      have b : d.bulk + 1 + PyData.bulkAll ds ≤ 100000 := b
      exact .cons (dx_sv d _ h1 (by omega)) (dxAll_sv ds _ h2 (by omega))
end
mutual
theorem skD_size : ∀ d : PyData, (skD d).size ≤ d.bulk + 1
  | .none => Nat.le_add_left _ _
  | .bool b => Nat.le_add_left _ _
  | .int i => Nat.le_add_left _ _
  | .str x => Nat.le_add_left _ _
  | .list ds => Nat.le_add_left _ _
  | .dict kvs => Nat.le_add_left _ _
  | .tuple ds => by
    show (Sk.t (skDs ds)).size ≤ PyData.bulkAll ds + 1
    have := skDs_size ds
    rw [Sk.size]; omega
theorem skDs_size : ∀ ds : List PyData, Sk.sizes (skDs ds) ≤ PyData.bulkAll ds
  | [] => Nat.le_refl _
  | d :: ds => by
    have h1 := skD_size d
    have h2 := skDs_size ds
    show Sk.sizes (skD d :: skDs ds) ≤ d.bulk + 1 + PyData.bulkAll ds
    rw [Sk.sizes]; omega
end
/-- not well formed, wherever it stands -/
def Bd (q : Int) (d : PyData) : Prop := ∀ p, Sk.bad q (skD d) p ≠ none
theorem bads_at {q : Int} {p : List Int} : ∀ (r : List Sk) (k i : Nat) (a : Sk), r[i]? = some a → (∀ p, Sk.bad q a p ≠ none) → Sk.bads q r p k ≠ none
  | [], k, i, a, h, _ => by simp at h
  | x :: r, k, 0, a, h, b => by
    obtain rfl := Option.some.inj h
    rw [Sk.bads]
    cases c : Sk.bad q x (p ++ [(k : Int)]) with
    | none => exact absurd c (b _)
    | some z => exact fun w => nomatch w
  | x :: r, k, i + 1, a, h, b => by
    rw [Sk.bads]
    cases Sk.bad q x (p ++ [(k : Int)]) with
    | none => exact bads_at r (k + 1) i a (by simpa using h) b
    | some z => exact fun w => nomatch w
theorem Bd.tuple {q : Int} {ds : List PyData} {i : Nat} {d : PyData} (h : ds[i + 1]? = some d) (b : Bd q d) : Bd q (.tuple ds) := fun p => by
  cases ds with
  | nil => simp at h
  | cons x r =>
    show Sk.bad q (.t (skD x :: skDs r)) p ≠ none
    rw [Sk.bad]
    split
    · exact bads_at _ _ i (skD d) (by rw [skDs_get]; simp only [List.getElem?_cons_succ] at h; rw [h]; rfl) b
    · exact fun w => nomatch w
/-- a formula's -/
theorem fml_skD : ∀ F : Fml, skD F.d = F.sk
  | .var x => rfl
  | .num i => rfl
  | .neg a => by
    show Sk.t [Sk.s "not", skD a.d] = Sk.t [Sk.s "not", a.sk]
    rw [fml_skD a]
  | .bin w a b => by
    show Sk.t [Sk.s w, skD a.d, skD b.d] = Sk.t [Sk.s w, a.sk, b.sk]
    rw [fml_skD a, fml_skD b]
theorem depth_mem {d : PyData} : ∀ {ds : List PyData}, d ∈ ds → d.depth ≤ PyData.depthAll ds
  | x :: r, h => by
    show d.depth ≤ max x.depth (PyData.depthAll r)
    rcases List.mem_cons.mp h with rfl | h
    · exact Nat.le_max_left _ _
    · exact Nat.le_trans (depth_mem h) (Nat.le_max_right _ _)
theorem bulk_mem {d : PyData} : ∀ {ds : List PyData}, d ∈ ds → d.bulk ≤ PyData.bulkAll ds
  | x :: r, h => by
    show d.bulk ≤ x.bulk + 1 + PyData.bulkAll r
    rcases List.mem_cons.mp h with rfl | h
    · omega
    · have := bulk_mem h; omega
/-! what is shown stays small -/
theorem Gd.mono {d : PyData} {n m n' m' : Nat} (h : Gd d n m) (a : n ≤ n') (b : m ≤ m') : Gd d n' m' := ⟨h.sh, h.lf, Nat.le_trans h.dp a, Nat.le_trans h.bk b⟩
structure Gds (ds : List PyData) (n m : Nat) : Prop where
  sh : PyData.showableAll ds = true
  lf : PyData.leavesShortAll 60 ds = true
  dp : PyData.depthAll ds ≤ n
  bk : PyData.bulkAll ds ≤ m
theorem Gds.tup {ds : List PyData} {n m : Nat} (h : Gds ds n m) : Gd (.tuple ds) (n + 1) m := ⟨h.sh, h.lf, Nat.succ_le_succ h.dp, h.bk⟩
theorem Gd.tup {ds : List PyData} {n m : Nat} (h : Gd (.tuple ds) n m) : Gds ds (n - 1) m ∧ 0 < n := ⟨⟨h.sh, h.lf, by have : PyData.depthAll ds + 1 ≤ n := h.dp; omega, h.bk⟩, by have : PyData.depthAll ds + 1 ≤ n := h.dp; omega⟩
theorem Gds.nil (n m : Nat) : Gds [] n m := ⟨rfl, rfl, Nat.zero_le _, Nat.zero_le _⟩
theorem Gds.cons {d : PyData} {ds : List PyData} {n m k : Nat} (h : Gd d n m) (r : Gds ds n k) : Gds (d :: ds) n (m + 1 + k) :=
  ⟨by show (d.showable && PyData.showableAll ds) = true; rw [h.sh, r.sh]; rfl, by show (d.leavesShort 60 && PyData.leavesShortAll 60 ds) = true; rw [h.lf, r.lf]; rfl,
    by show max d.depth (PyData.depthAll ds) ≤ n; have := h.dp; have := r.dp; omega, by show d.bulk + 1 + PyData.bulkAll ds ≤ _; have := h.bk; have := r.bk; omega⟩
theorem gds_set {d e : PyData} : ∀ {ds : List PyData} {i n m a b : Nat}, Gds ds n m → ds[i]? = some d → (Gd e a b) → n ≤ a → b ≤ d.bulk + k → Gds (ds.take i ++ e :: ds.drop (i + 1)) a (m + k)
  | [], i, n, m, a, b, _, h, _, _, _ => by simp at h
  | x :: r, 0, n, m, a, b, g, h, ge, na, bb => by
    obtain rfl := Option.some.inj h
    have s1 := (Bool.and_eq_true _ _).mp g.sh
    have l1 := (Bool.and_eq_true _ _).mp g.lf
    have d1 : max x.depth (PyData.depthAll r) ≤ n := g.dp
    have b1 : x.bulk + 1 + PyData.bulkAll r ≤ m := g.bk
    have := ge.bk
    have := ge.dp
    refine ⟨?_, ?_, ?_, ?_⟩
    · show (e.showable && PyData.showableAll r) = true; rw [ge.sh, s1.2]; rfl
    · show (e.leavesShort 60 && PyData.leavesShortAll 60 r) = true; rw [ge.lf, l1.2]; rfl
    · show max e.depth (PyData.depthAll r) ≤ a; omega
    · show e.bulk + 1 + PyData.bulkAll r ≤ _; omega
  | x :: r, i + 1, n, m, a, b, g, h, ge, na, bb => by
    have s1 := (Bool.and_eq_true _ _).mp g.sh
    have l1 := (Bool.and_eq_true _ _).mp g.lf
    have d1 : max x.depth (PyData.depthAll r) ≤ n := g.dp
    have b1 : x.bulk + 1 + PyData.bulkAll r ≤ m := g.bk
    have ih := gds_set (k := k) (ds := r) (i := i) (n := n) (m := m - (x.bulk + 1)) (a := a) (b := b) ⟨s1.2, l1.2, by omega, by omega⟩ (by simpa using h) ge na bb
    have h3 := ih.dp
    have h4 := ih.bk
    refine ⟨?_, ?_, ?_, ?_⟩
    · show (x.showable && PyData.showableAll (r.take i ++ e :: r.drop (i + 1))) = true; rw [s1.1, ih.sh]; rfl
    · show (x.leavesShort 60 && PyData.leavesShortAll 60 (r.take i ++ e :: r.drop (i + 1))) = true; rw [l1.1, ih.lf]; rfl
    · show max x.depth (PyData.depthAll (r.take i ++ e :: r.drop (i + 1))) ≤ a; omega
    · show x.bulk + 1 + PyData.bulkAll (r.take i ++ e :: r.drop (i + 1)) ≤ _; omega
theorem gd_get {d : PyData} : ∀ {ds : List PyData} {i n m : Nat}, Gds ds n m → ds[i]? = some d → Gd d n d.bulk ∧ d.bulk < m
  | [], i, n, m, _, h => by simp at h
  | x :: r, 0, n, m, g, h => by
    obtain rfl := Option.some.inj h
    have s1 := (Bool.and_eq_true _ _).mp g.sh
    have l1 := (Bool.and_eq_true _ _).mp g.lf
    have d1 : max x.depth (PyData.depthAll r) ≤ n := g.dp
    have b1 : x.bulk + 1 + PyData.bulkAll r ≤ m := g.bk
    exact ⟨⟨s1.1, l1.1, by omega, Nat.le_refl _⟩, by omega⟩
  | x :: r, i + 1, n, m, g, h => by
    have s1 := (Bool.and_eq_true _ _).mp g.sh
    have l1 := (Bool.and_eq_true _ _).mp g.lf
    have d1 : max x.depth (PyData.depthAll r) ≤ n := g.dp
    have b1 : x.bulk + 1 + PyData.bulkAll r ≤ m := g.bk
    obtain ⟨g1, g2⟩ := gd_get (ds := r) (i := i) (n := n) (m := m - (x.bulk + 1)) ⟨s1.2, l1.2, by omega, by omega⟩ (by simpa using h)
    exact ⟨g1, by omega⟩
theorem gd_str {x : Str} (h : (x.cps.toList.all fun c => decide (c < 16 ^ 8)) = true) (n : Nat) : Gd (.str x) n x.cps.size := ⟨rfl, h, Nat.zero_le _, Nat.le_refl _⟩
theorem gd_int {i : Int} (h : i.natAbs < 10 ^ 12) (n m : Nat) : Gd (.int i) n m := by
  refine ⟨?_, ?_, Nat.zero_le _, Nat.zero_le _⟩
  · show decide (i.natAbs.log2 < 1920) = true
    refine decide_eq_true ?_
    by_cases e : i.natAbs = 0
    · rw [e]; decide
    · exact Nat.lt_of_lt_of_le ((Nat.log2_lt e).mpr (Nat.lt_of_lt_of_le h (show 10 ^ 12 ≤ 2 ^ 40 by decide))) (by decide)
  · show decide ((PyData.shown (.int i)).length ≤ 60) = true
    exact decide_eq_true (Nat.le_trans (PyData.shown_int_le h) (by decide))
theorem gd_fml {q : Int} (hq : q ≤ 1000) : ∀ F : Fml, F.ok → F.lok q → Gd F.d F.dep (6 * F.lvs + 9 * F.tps)
  | .var x, _, l => by
    obtain ⟨n1, n2⟩ := nameB_low l
    have l : nameB x = true := l
    refine ⟨rfl, ?_, Nat.le_refl _, ?_⟩
    · show (x.cps.toList.all fun c => decide (c < 16 ^ 8)) = true
      exact List.all_eq_true.mpr fun c hc => decide_eq_true (n1 c hc)
    · unfold nameB at l
      simp only [Bool.and_eq_true, decide_eq_true_eq] at l
      exact l.1.2
  | .num i, _, l => by
    obtain ⟨l0, l1⟩ := l
    exact gd_int (Nat.lt_trans (show i.natAbs < 1000 by omega) (by decide)) _ _
  | .neg a, o, l => by
    have g := gd_fml hq a o l
    have := g.dp
    have w : Gd (.str "not") a.dep 3 := ⟨rfl, by decide +kernel, Nat.zero_le _, by decide +kernel⟩
    have t := (Gds.cons w (Gds.cons g (Gds.nil _ 0))).tup
    rw [Fml.d]
    exact t.mono (Nat.le_refl _) (by show _ ≤ 6 * a.lvs + 9 * (a.tps + 1); omega)
  | .bin w a b, o, l => by
    have g := gd_fml hq a o.2.1 l.1
    have k := gd_fml hq b o.2.2 l.2
    have hw : Gd (.str w) (max a.dep b.dep) 5 := by
      rcases o.1 with rfl | rfl | rfl | rfl | rfl <;> exact ⟨rfl, by decide +kernel, Nat.zero_le _, by decide +kernel⟩
    have t := (Gds.cons hw (Gds.cons (g.mono (Nat.le_max_left a.dep b.dep) (Nat.le_refl _)) (Gds.cons (k.mono (Nat.le_max_right a.dep b.dep) (Nat.le_refl _)) (Gds.nil _ 0)))).tup
    rw [Fml.d]
    exact t.mono (Nat.le_refl _) (by show _ ≤ 6 * (a.lvs + b.lvs) + 9 * (a.tps + b.tps + 1); omega)
end Vx

namespace Vx
open PySem PySem.Spec PyProof.Rows L2
/-! displays as data -/
theorem PE.imp {X : Cx} {e : Expr} {t t' : TE} (h : PE X e t) (k : ∀ σ H Q, t' σ H Q → t σ H Q) : PE X e t' := ⟨fun pins s σ H Q I w => h.run pins s σ H Q I (k σ H Q w)⟩
theorem PA.imp {X : Cx} {es : List Expr} {t t' : TA} (h : PA X es t) (k : ∀ σ H Q, t' σ H Q → t σ H Q) : PA X es t' := ⟨fun pos pins s σ H Q I w => h.run pos pins s σ H Q I (k σ H Q w)⟩
def tD (K : PySem.W.Frag) (ok : L2.St → Prop) (val : L2.St → PyData) : TE := fun σ H Q => ok σ ∧ ∃ p, H p ≠ none ∧ ∀ v H', Same H H' → Dx K p H' v (val σ) → Q v H'
def tDs (K : PySem.W.Frag) (ok : L2.St → Prop) (val : L2.St → List PyData) : TA := fun σ H Q => ok σ ∧ ∃ p, H p ≠ none ∧ ∀ vs H', Same H H' → DxAll K p H' vs (val σ) → Q vs H'
theorem some_same {H H' : Hp} (s : Same H H') {p : Addr} (h : H p ≠ none) : H' p ≠ none := by
  cases e : H p with
  | none => exact absurd e h
  | some u => rw [s _ _ e]; exact fun z => nomatch z
section
variable {X : Cx}
theorem peD_of {e : Expr} {v : V} {d : PyData} (h : PE X e (tC v)) (hd : ∀ p H, Dx X.K p H v d) : PE X e (tD X.K (fun _ => True) fun _ => d) := PE.imp h fun σ H Q ⟨_, p, _, q⟩ => q v H (Same.refl H) (hd p H)
theorem peD_int {i : Int} {j : Tok} {pos : Pos} : PE X (.Constant (.int i) j pos) (tD X.K (fun _ => True) fun _ => .int i) := peD_of pe_int fun _ _ => .int i
theorem peD_str {x : Str} {j : Tok} {pos : Pos} : PE X (.Constant (.str x) j pos) (tD X.K (fun _ => True) fun _ => .str x) := peD_of pe_str fun _ _ => .str x
theorem peD_bl {b : Bool} {j : Tok} {pos : Pos} : PE X (.Constant (.bool b) j pos) (tD X.K (fun _ => True) fun _ => .bool b) := peD_of pe_bl fun _ _ => .bl b
theorem peD_non {j : Tok} {pos : Pos} : PE X (.Constant .none j pos) (tD X.K (fun _ => True) fun _ => .none) := peD_of pe_non fun _ _ => .non
/-- the int in slot i -/
def atS (i : Nat) (σ : L2.St) : Int := match σ[i]? with
  | some (some (.int n)) => n
  | _ => 0
theorem peD_var {i : Nat} {e : Expr} (h : PE X e (tVar i)) : PE X e (tD X.K (fun σ => ∃ n, σ[i]? = some (some (.int n))) fun σ => .int (atS i σ)) := PE.imp h fun σ H Q ⟨⟨n, e⟩, p, _, q⟩ => ⟨_, e, q (.int n) H (Same.refl H) (by
  have : atS i σ = n := by unfold atS; rw [e]
  show Dx X.K p H (.int n) (.int (atS i σ))
  rw [this]
  exact .int n)⟩
theorem peD_neg {i : Int} {j : Tok} {q q2 : Pos} : PE X (.UnaryOp .USub (.Constant (.int i) j q) q2) (tD X.K (fun _ => True) fun _ => .int (-i)) := PE.imp (pe_un un_neg pe_int) fun σ H Q ⟨_, p, _, k⟩ => ⟨i, rfl, k (.int (-i)) H (Same.refl H) (.int _)⟩
theorem peD_pow {i j : Int} {t t2 : Tok} {q q2 q3 : Pos} (h : 0 ≤ j ∧ j ≤ 1000000 ∧ i.natAbs < 2 ^ 64) : PE X (.BinOp (.Constant (.int i) t q) .Pow (.Constant (.int j) t2 q2) q3) (tD X.K (fun _ => True) fun _ => .int (i ^ j.toNat)) := PE.imp (pe_op op_pow pe_int pe_int) fun σ H Q ⟨_, p, _, k⟩ =>
  ⟨i, j, rfl, rfl, h, k _ H (Same.refl H) (.int _)⟩
theorem peD_emp {pos : Pos} : PE X (.Dict [] [] pos) (tD X.K (fun _ => True) fun _ => .dict []) := PE.imp pe_dnewK fun σ H Q ⟨_, p, hp, k⟩ => fun d hd => k _ _ (same_new hd _) (.emp (fun z => hp (z ▸ hd)) upd_same)
theorem paD_nil : PA X [] (tDs X.K (fun _ => True) fun _ => []) := PA.imp pa_nil fun σ H Q ⟨_, p, _, k⟩ => k [] H (Same.refl H) .nil
theorem paD_cons {e : Expr} {es : List Expr} {ok ok2 : L2.St → Prop} {val : L2.St → PyData} {vals : L2.St → List PyData} (h : PE X e (tD X.K ok val)) (r : PA X es (tDs X.K ok2 vals))
    (hs : starEach (e :: es) X.env = (false, eval e X.env) :: starEach es X.env := by rfl) : PA X (e :: es) (tDs X.K (fun σ => ok σ ∧ ok2 σ) fun σ => val σ :: vals σ) := PA.imp (pa_cons h r hs) fun σ H Q ⟨⟨o1, o2⟩, p, hp, k⟩ =>
  ⟨o1, p, hp, fun v H1 s1 d1 => ⟨o2, p, some_same s1 hp, fun vs H2 s2 d2 => k (v :: vs) H2 (s1.trans s2) (.cons (Dx.same s2 d1) d2)⟩⟩
theorem peD_tup {es : List Expr} {x1 : _} {pos : Pos} {ok : L2.St → Prop} {vals : L2.St → List PyData} (r : PA X es (tDs X.K ok vals)) (hl : ∀ σ, (vals σ).length ≤ 1000 := by intro σ; exact Nat.le_of_ble_eq_true rfl) : PE X (.Tuple es x1 pos) (tD X.K ok fun σ => .tuple (vals σ)) := PE.imp (pe_tup r) fun σ H Q ⟨o, p, hp, k⟩ =>
  ⟨o, p, hp, fun vs H1 s1 d1 => ⟨by rw [d1.len]; exact Nat.le_trans (hl σ) (by decide), fun t ht => k _ _ (s1.trans (same_new ht _)) (.tup (SqT.of upd_same) (DxAll.same (same_new ht _) d1))⟩⟩
theorem peD_lst {es : List Expr} {pos : Pos} {ok : L2.St → Prop} {vals : L2.St → List PyData} (r : PA X es (tDs X.K ok vals)) (hl : ∀ σ, (vals σ).length ≤ 1000 := by intro σ; exact Nat.le_of_ble_eq_true rfl) : PE X (.List es pos) (tD X.K ok fun σ => .list (vals σ)) := PE.imp (pe_lstN r) fun σ H Q ⟨o, p, hp, k⟩ =>
  ⟨o, p, hp, fun vs H1 s1 d1 => ⟨by rw [d1.len]; exact Nat.le_trans (hl σ) (by decide), fun t ht nt => k _ _ (s1.trans (same_new ht _)) (.lst (fun z => some_same s1 hp (z ▸ ht)) nt (SqL.of upd_same) (DxAll.same (same_new ht _) d1))⟩⟩
end
/-- l == [], whatever l holds -/
def rEqEL (K : PySem.W.Frag) : R2 := fun x y H Q => ∃ a b xs, x = .ref a ∧ y = .ref b ∧ SqL K H a xs ∧ SqL K H b [] ∧ Q (.bl xs.isEmpty) H
theorem op_eqEL {X : Cx} (hu : X.A.units + 64 < cLine) : OpR X (compareOp .Eq) (rEqEL X.K) := by
  intro pins s σ H x y v u Q I rx ry h
  obtain ⟨a, b, xs, rfl, rfl, ha, hb, q⟩ := h
  cases rx
  cases ry
  obtain ⟨its, rv, pl, _⟩ := I.list ha
  obtain ⟨its2, rv2, pl2, _⟩ := I.list hb
  cases rv2
  cases rv with
  | nil => exact SeqAt.RcAt.lists (A := X.A) (e := fun _ => true) pl.isList pl2.isList rfl (by omega) (fun j h1 h2 => absurd h2 (by simp)) X.prog X.w X.xe (EP X pins σ Q) ⟨.bl _, H, I, rfl, q⟩
  | cons r1 r2 => exact SeqAt.RcAt.lists_lengths (A := X.A) pl.isList pl2.isList (by simp) (by omega) X.prog X.w X.xe (EP X pins σ Q) ⟨.bl _, H, I, rfl, q⟩
/-! bad ones, by a test -/
mutual
def badB (q : Int) : Sk → Bool
  | .t (x :: r) => !Sk.built q (.t (x :: r)) || badBs q r
  | a => !Sk.built q a
def badBs (q : Int) : List Sk → Bool
  | [] => false
  | x :: r => badB q x || badBs q r
end
mutual
theorem badB_ok {q : Int} : ∀ (a : Sk), badB q a = true → ∀ p, Sk.bad q a p ≠ none
  | .t [], h, p => by
    rw [Sk.bad, if_neg (by intro z; exact Bool.noConfusion (show false = true from z))]
    · exact fun w => nomatch w
    · intro x r h; cases h
  | .s x, h, p => by
    have h : (!Sk.built q (.s x)) = true := h
    rw [Sk.bad, if_neg (by intro z; rw [z] at h; cases h)]
    · exact fun w => nomatch w
    · intro x r h; cases h
  | .i n, h, p => by
    have h : (!Sk.built q (.i n)) = true := h
    rw [Sk.bad, if_neg (by intro z; rw [z] at h; cases h)]
    · exact fun w => nomatch w
    · intro x r h; cases h
  | .o, h, p => by
    rw [Sk.bad, if_neg (by intro z; exact Bool.noConfusion (show false = true from z))]
    · exact fun w => nomatch w
    · intro x r h; cases h
  | .t (x :: r), h, p => by
    have h : (!Sk.built q (.t (x :: r)) || badBs q r) = true := h
    rw [Sk.bad]
    split
    · rename_i c
      rw [c] at h
      exact badBs_ok r h p 1
    · exact fun w => nomatch w
theorem badBs_ok {q : Int} : ∀ (r : List Sk), badBs q r = true → ∀ p k, Sk.bads q r p k ≠ none
  | [], h, _, _ => by cases h
  | x :: r, h, p, k => by
    have h : (badB q x || badBs q r) = true := h
    rw [Sk.bads]
    cases c : Sk.bad q x (p ++ [(k : Int)]) with
    | some z => exact fun w => nomatch w
    | none =>
      cases e : badB q x with
      | true => exact absurd c (badB_ok x e _)
      | false => rw [e] at h; exact badBs_ok r h p (k + 1)
end
end Vx

/-! errors of one's own with fields, over any built-in class that makes its instances as LookupError does -/
namespace PySem.VErr
open Builtin Builtin.ObjectAttr PySem.HandSPX
section
variable {M : Model} {prog : Program} {w : World} {A : Around} {E : Value → Shared → Prop} {R : Result → Shared → Prop} {h : Heap} {g : Array GenState} {d : Drawn} {t : Nat} {os : OsState}
variable {nm q : Str} {C N : Addr} {bs bm : List Value} {hdct : Bool} {sn : List Str} {sub : List Value} {ab : Bool} {col : Option Bool} {dd : Option Addr} {k0 k1 k2 k3 k5 : Option Value} {newId : String}
theorem chk_typeK {M : Model} {rest : List Value} {kw : List (Str × Value)} {Q : Unit → Shared → Prop} (hC : h.get? C = some (excClassObj nm q C N bs bm hdct sn sub ab col dd k0 k1 k2 k3 k5 newId))
    (hq : Q () ⟨h, g, d, t, os⟩) : wpAny M A (checkBuiltinCall "type.__call__" ⟨.ref C :: rest, kw⟩) Q E ⟨h, g, d, t, os⟩ := by
  have f3 := tc_sub
  have hT : (⟨h, g, d, t, os⟩ : Shared).TypeIs (.ref C) "type" := ⟨_, hC, rfl⟩
  simp only [checkBuiltinCall, tc_kind, tc_split]
  repeat (any_goals (first | assumption | with_reducible refine wpAny_loadPart_at hC ?_ | with_reducible refine wpAny_onRaise ?_ | with_reducible refine wpAny_map ?_ | wp_step))
theorem chk_newK (U : Up bm newId) {rest : List Value} {kw : List (Str × Value)} {Q : Unit → Shared → Prop} (hC : h.get? C = some (excClassObj nm q C N bs bm hdct sn sub ab col dd k0 k1 k2 k3 k5 newId)) (k : Q () ⟨h, g, d, t, os⟩) : wpAny M A (checkBuiltinCall newId ⟨.ref C :: rest, kw⟩) Q E ⟨h, g, d, t, os⟩ := by
  obtain ⟨B, ini, bmB, F, hB⟩ := U.own
  have c1 : (Value.ref C :: bm).contains (.type B) = true := by rw [List.contains_cons, hB, Bool.or_true]
  have c2 := F.noStar
  simp only [checkBuiltinCall, F.newKind, F.newSplit, F.newRow]
  repeat (first
    | refine wpAny_loadPart_at hC ?_
    | (refine wpAny_isSubtype_exc hC ?_; rw [c1])
    | refine wpAny_staticBase_exc hC ?_
    | refine wpAny_madeBy_exc hC ?_
    | simp only [bne_self_eq_false, Bool.false_eq_true, if_false]
    | wp_step)
  exact k
theorem run_newK (U : Up bm newId) {rest : List Value} {kw : List (Str × Value)} (hC : h.get? C = some (excClassObj nm q C N bs bm hdct sn sub ab col dd k0 k1 k2 k3 k5 newId)) (hl : rest.length ≤ sizeLine)
    (k : R (.ok (.ret (.ref (h.objs.size + 1)))) ⟨(h.push (W.kdv_tup rest)).push (excO C h.objs.size), g, d, t, os⟩) : codeAny (model prog w) A (.builtin newId ⟨.ref C :: rest, kw⟩) R ⟨h, g, d, t, os⟩ := by
  obtain ⟨B, ini, bmB, F, hB⟩ := U.own
  have c0 := F.ends
  have c1 : (Value.ref C :: bm).contains (.type B) = true := by rw [List.contains_cons, hB, Bool.or_true]
  have c2 : (Value.ref C :: bm).contains (.type "AttributeError") = false := by rw [List.contains_cons, U.atr] <;> rfl
  have c3 : (Value.ref C :: bm).contains (.type "NameError") = false := by rw [List.contains_cons, U.nam] <;> rfl
  have hrest := hl
  refine codeAny_builtinAt F.entry ?_
  unfold Builtin.«BaseException.__new__»
  refine wpAt_bind ?_
  show wpAt _ _ _ (stack >>= _) _ _ _
  refine wpAt_bind (wpAt_stack fun p low => wpAt_of_wpAny ?_)
  wp_walk
  refine wpAt_of_wpAny ?_
  rw [F.owner]
  repeat (first
    | with_reducible refine wpAny_madeHere_exc F.canon hC ?_
    | with_reducible refine wpAny_loadPart_at hC ?_
    | (with_reducible refine wpAny_isSubtype_exc hC ?_; first | rw [c1] | rw [c2] | rw [c3])
    | wp_step)
  show R _ _
  rw [Heap.size_push]
  exact k
theorem run_typeK (U : Up bm newId) {rest : List Value} {kw : List (Str × Value)} {fI : Addr} {Q : Fin → Shared → Prop} (hC : h.get? C = some (excClassObj nm q C N bs bm hdct sn sub ab col dd k0 k1 k2 k3 k5 newId)) (hi : W.Looks (model prog w) h (typeLookup (.ref C) "__init__") (some (.ref fI)))
    (hb : ∀ self, W.Looks (model prog w) h (bindSpecial (.ref fI) self) (.ref fI, [self])) (hl : rest.length ≤ sizeLine)
    (k : codeAny (model prog w) A (.call (.ref fI) ⟨.ref (h.objs.size + 1) :: rest, kw⟩)
      (fun r s' => match r with | .ok (.ret v) => v = .none ∧ Q (.done (.ret (.ref (h.objs.size + 1)))) s' | .ok _ => False | .error e => E e s') ⟨(h.push (W.kdv_tup rest)).push (excO C h.objs.size), g, d, t, os⟩) :
    wpAny (model prog w) A (Builtin.«type.__call__» ⟨.ref C :: rest, kw⟩) Q E ⟨h, g, d, t, os⟩ := by
  obtain ⟨B, ini, bmB, F, hB⟩ := id U.own
  repeat (first | with_reducible refine wpAny_loadPart_at hC ?_ | with_reducible refine wpAny_madeBy_exc hC ?_ | wp_step)
  refine codeAny_call_builtin_code (Code.quiet_builtin _ F.quiet) (chk_newK U hC (run_newK U hC hl ?_))
  show wpAny _ _ _ _ _ _
  have up : ∀ b o, h.get? b = some o → ((h.push (W.kdv_tup rest)).push (excO C h.objs.size)).get? b = some o := fun b o e => Heap.get?_push_of_some _ (Heap.get?_push_of_some _ e)
  have hC₁ := up _ _ hC
  have at_ : ((h.push (W.kdv_tup rest)).push (excO C h.objs.size)).get? (h.objs.size + 1) = some (excO C h.objs.size) := by heap_get
  have c1 : (Value.ref C :: bm).contains (.ref C) = true := by simp
  have i1 := hi.keeps up
  have b1 := (hb (.ref (h.objs.size + 1))).keeps up
  unfold isInstance
  repeat (first | with_reducible refine wpAny_loadPart_at at_ ?_ | (with_reducible refine wpAny_isSubtype_exc hC₁ ?_; rw [c1]) | wp_step)
  show wpAny _ _ (typeLookup (.ref C) _) _ _ _
  refine i1.at (wpAny_holding (wpAny_bind (b1.at ?_)))
  refine wpAny_bind (wpAny_call (codeAny_mono k fun r s' z => ?_))
  match r, z with
  | .error _, z => exact z
  | .ok .next, z => exact z.elim
  | .ok .brk, z => exact z.elim
  | .ok .cont, z => exact z.elim
  | .ok (.ret v), z =>
    obtain ⟨rfl, z⟩ := z
    first | exact wpAny_pure (wpAny_pure z) | (wp_walk; exact z)
/-- such a class is called: the instance is laid, then its own __init__ -/
theorem call_errK (U : Up bm newId) {rest : List Value} {kw : List (Str × Value)} {fI : Addr} (hC : h.get? C = some (excClassObj nm q C N bs bm hdct sn sub ab col dd k0 k1 k2 k3 k5 newId)) (hi : W.Looks (model prog w) h (typeLookup (.ref C) "__init__") (some (.ref fI)))
    (hb : ∀ self, W.Looks (model prog w) h (bindSpecial (.ref fI) self) (.ref fI, [self])) (hl : rest.length ≤ sizeLine)
    (k : codeAny (model prog w) (A.under (.builtin "type.__call__" ⟨.ref C :: rest, kw⟩)) (.call (.ref fI) ⟨.ref (h.objs.size + 1) :: rest, kw⟩) (W.InitBack (h.objs.size + 1) R) ⟨(h.push (W.kdv_tup rest)).push (excO C h.objs.size), g, d, t, os⟩) :
    codeAny (model prog w) A (.call (.ref C) ⟨rest, kw⟩) R ⟨h, g, d, t, os⟩ := by
  have f1 := tc_lookup
  have f2 := tc_bind (.ref C)
  have f3 : Shared.TypeIs ⟨h, g, d, t, os⟩ (.ref C) "type" := ⟨_, hC, rfl⟩
  refine codeAny_of_tree ?_
  show wpAny _ _ (callAny (.ref C) _) _ _ _
  repeat (any_goals (first | assumption | with_reducible refine wpAny_loadPart_at hC ?_ | wp_step))
  refine ⟨rfl, codeAny_call_builtin_at (Code.quiet_builtin _ (by decide +kernel)) entry_typeCall (chk_typeK hC (run_typeK U hC hi hb hl ?_))⟩
  refine codeAny_mono k fun r s' z => ?_
  match r, z with
  | .error _, z => exact z
  | .ok .next, z => exact z
  | .ok .brk, z => exact z
  | .ok .cont, z => exact z
  | .ok (.ret v), z => exact z
end
end PySem.VErr

namespace PySem.VErr
open PySem.W PySem.Calls PyProof.Rows PySem.HandSPX
theorem up_le : Up [.type "LookupError", .type "Exception", .type "BaseException", .type "object"] "LookupError.__new__" :=
  ⟨⟨_, _, _, F.excBase_LookupError, by decide +kernel⟩, by decide +kernel, by decide +kernel, by decide +kernel, fun self => by kernel_rfl⟩
theorem up_re : Up [.type "RuntimeError", .type "Exception", .type "BaseException", .type "object"] "RuntimeError.__new__" :=
  ⟨⟨_, _, _, F.excBase_RuntimeError, by decide +kernel⟩, by decide +kernel, by decide +kernel, by decide +kernel, fun self => by kernel_rfl⟩
theorem up_oe : Up [.type "OverflowError", .type "ArithmeticError", .type "Exception", .type "BaseException", .type "object"] "OverflowError.__new__" :=
  ⟨⟨_, _, _, F.excBase_OverflowError, by decide +kernel⟩, by decide +kernel, by decide +kernel, by decide +kernel, fun self => by kernel_rfl⟩
/-- an error that was made, with its dict -/
structure ErrM (h h' : Heap) (e C d : Addr) (mA : Str → Option Value) : Prop where
  keep : ∀ b o, h.get? b = some o → h'.get? b = some o
  new : h.objs.size ≤ e
  obj : ∃ oe vs, h'.get? e = some oe ∧ oe.cls = .ref C ∧ oe.dict = some d ∧ oe.data = .fields vs
  dbig : h.objs.size ≤ d
  dne : d ≠ e
  ns : h'.Ns1 d mA
structure IniM (h h' : Heap) (x C dx t1 : Addr) (mA : Str → Option Value) : Prop where
  keep : ∀ b o, b ≠ x → h.get? b = some o → h'.get? b = some o
  obj : h'.get? x = some { cls := .ref C, dict := some dx, data := .fields #[.ref t1, .none, .none, .none, .bool false, .none] }
  dbig : h.objs.size ≤ dx
  dne : dx ≠ x
  ns : h'.Ns1 dx mA
/-- the class's own part, its __init__ aside -/
structure EC (K : Frag) (mg : Str → Option Value) (x : Str) (C : Addr) : Prop where
  gC : mg x = some (.ref C)
  cls : ∃ nm q N bs bm sn sub ab col dd k0 k1 k2 k3 k5 nw, K.lookup C = some (excClassObj nm q C N bs bm true sn sub ab col dd k0 k1 k2 k3 k5 nw) ∧ Up bm nw
  sa : findIn K (.ref C) "__setattr__" = some (some (.builtin "object.__setattr__"))
  kC : keepIn K (.ref C) = true
/-- ..., and an __init__ that binds az to the field's value -/
structure E1 (K : Frag) (mg : Str → Option Value) (x f qi : Str) (C fI : Addr) : Prop where
  ec : EC K mg x C
  noN : findIn K (.ref C) f = some none
  iC : findIn K (.ref C) "__init__" = some (some (.ref fI))
  tC : typeIn K (.ref fI) = some (.type "function")
  nf : f ≠ "self" ∧ (f == ("__debug__" : Str)) = false
  fn : ∃ (oc : Value) (od : Option Addr) (doc pm : Value) (an : Option Addr) (cdv ct : Value) (osl : Array (Option Value)) (p1 p2 q1 q2 q3 q4 : Pos),
    K.lookup fI = some ⟨oc, od, .func (fnOf "__init__" qi (eArgs f p1 p2) (eBody f q1 q2 q3 q4) (eScope f) .none .none doc pm an cdv ct), osl⟩ ∧ codeIn K cdv qi = true ∧
      (∀ u v, bindArgs (fnOf "__init__" qi (eArgs f p1 p2) (eBody f q1 q2 q3 q4) (eScope f) .none .none doc pm an cdv ct) ⟨[u, v], []⟩ = pure [(("self" : Str), u), (f, v)]) ∧
      ∀ u v, bindArgs (fnOf "__init__" qi (eArgs f p1 p2) (eBody f q1 q2 q3 q4) (eScope f) .none .none doc pm an cdv ct) ⟨[u], [(f, v)]⟩ = pure [(("self" : Str), u), (f, v)]
section
variable {prog : Program} {w : World} {A : Around} {E : Value → Shared → Prop} {R : Result → Shared → Prop} {s : Shared} {K : Frag} {mg : Str → Option Value} {x f qi : Str} {C fI : Addr}
theorem run_init1 (T : E1 K mg x f qi C fI) {e t0 : Addr} {v : Value} {kw : Bool} (X : K.In s.heap) (hlim : s.heap.NoLimit) (hx : s.heap.get? e = some (excO C t0)) (hnx : K.lookup e = none) (hroom : A.depth < recursionLimit)
    (k : ∀ h' tk dx, IniM s.heap h' e C dx t0 (fun y => if y = f then some v else none) → R (.ok (.ret .none)) { s with heap := h', toks := tk }) : codeAny (model prog w) A (.call (.ref fI) ⟨.ref e :: (if kw = true then [] else [v]), if kw = true then [(f, v)] else []⟩) R s := by
  obtain ⟨oc, od, doc, pm, an, cdv, ct, osl, p1, p2, q1, q2, q3, q4, ho, hcd, hbd, hbk⟩ := T.fn
  obtain ⟨nm, q, N, bs, bm, sn, sub, ab, col, dd, k0, k1, k2, k3, k5, nw, hC, U⟩ := T.ec.cls
  have hcl : clsIn K C = some { name := nm, bases := bs, mro := .ref C :: bm, ns := N, qualname := q, hasDict := true, slotNames := sn, subclasses := sub, abstract := ab, collection := col, hasDel := false } := by
    unfold clsIn
    rw [hC] <;> rfl
  have kf := fun L a cd => eKind T.nf.1 qi L a cd
  refine Att.call_fn (binds := [("self", .ref e), (f, v)]) X hlim ho hcd hroom (BindsTo.of_eq (by cases kw; exact hbd _ _; exact hbk _ _)) ?_ (fun s₁ IC => ?_) rfl rfl rfl
  · have z1 : List.lookup ("self" : Str) (eScope f).names = some NameKind.local := rfl
    have z2 : List.lookup f (eScope f).names = some NameKind.local := kf 0 0 .none
    simp only [List.all_cons, List.all_nil, z1, z2]
    rfl
  obtain ⟨h₁, tk₁, rfl⟩ := IC.toInCall.same
  have up : ∀ b o, s.heap.get? b = some o → h₁.get? b = some o := IC.toInCall.keep
  have hn := IC.toInCall.ns
  have X₁ : K.In h₁ := X.keeps up
  have hx₁ := up _ _ hx
  have v1 : bindL (envOfC qi (eScope f) s.heap.objs.size fI cdv).kindOf [("self", Value.ref e), (f, v)] (fun _ => none) f = some v := by
    simp only [bindL, kf, if_true]
  have v2 : bindL (envOfC qi (eScope f) s.heap.objs.size fI cdv).kindOf [("self", Value.ref e), (f, v)] (fun _ => none) "self" = some (.ref e) := by
    have q : ("self" : Str) ≠ f := Ne.symm T.nf.1
    simp only [bindL, kf, eSelf, if_true]
    rw [if_neg q]
    first | rfl | simp
  show wpAny _ _ (execs _ _) _ _ _
  refine wpAny_execs_cons (plainObj_wpAny_Assign_Attribute ?_)
  refine ld_own hn v1 rfl (kf _ _ _) T.nf.2 (ld_own hn v2 rfl (eSelf _ _ _ _) (by decide) ?_)
  refine set_plain X₁ (ox := excO C t0) (od := none) ⟨hx₁, rfl, rfl, trivial⟩ T.ec.sa ?_
  refine put_first U X₁ hx₁ hcl rfl rfl T.noN (fun h₃ tk₃ dx k₃ dn dne hx₃ hn₃ => ?_)
  show wpAny _ _ (execs _ _) _ _ _
  have z : s.heap.objs.size < h₁.objs.size := hn.lt
  exact wpAny_execs_nil (k h₃ tk₃ dx ⟨fun b o hb w => k₃ b o hb (up b o w), hx₃, Nat.le_of_lt (Nat.lt_of_lt_of_le z dn), dne, hn₃⟩)
/-- from an __init__ that is promised to a class that is called -/
theorem run_err {az : Args} {mA : Str → Option Value} (ec : EC K mg x C) (iC : findIn K (.ref C) "__init__" = some (some (.ref fI))) (tC : typeIn K (.ref fI) = some (.type "function")) (one : az.pos.length ≤ sizeLine) (X : K.In s.heap) (hlim : s.heap.NoLimit)
    (ini : ∀ (s₂ : Shared) (A₂ : Around) (R₂ : Result → Shared → Prop) (e t0 : Addr), A₂.depth = A.depth + 1 → K.In s₂.heap → s₂.heap.NoLimit → s₂.heap.get? e = some (excO C t0) → K.lookup e = none →
      (∀ h' tk dx, IniM s₂.heap h' e C dx t0 mA → R₂ (.ok (.ret .none)) { s₂ with heap := h', toks := tk }) → codeAny (model prog w) A₂ (.call (.ref fI) ⟨.ref e :: az.pos, az.kw⟩) R₂ s₂)
    (k : ∀ h' tk e d, ErrM s.heap h' e C d mA → R (.ok (.ret (.ref e))) { s with heap := h', toks := tk }) : codeAny (model prog w) A (.call (.ref C) az) R s := by
  obtain ⟨nm, q, N, bs, bm, sn, sub, ab, col, dd, k0, k1, k2, k3, k5, nw, hC, U⟩ := ec.cls
  obtain ⟨rest, kw⟩ := az
  obtain ⟨hp, g, dr, tk, os⟩ := s
  have up : ∀ b o, hp.get? b = some o → ((hp.push (kdv_tup rest)).push (excO C hp.objs.size)).get? b = some o := fun b o e => Heap.get?_push_of_some _ (Heap.get?_push_of_some _ e)
  have at_ : ((hp.push (kdv_tup rest)).push (excO C hp.objs.size)).get? (hp.objs.size + 1) = some (excO C hp.objs.size) := by heap_get
  have hnx : K.lookup (hp.objs.size + 1) = none := by
    cases e : K.lookup (hp.objs.size + 1) with
    | none => rfl
    | some o =>
      have z : hp.get? (hp.objs.size + 1) = some o := X _ _ e
      exact absurd (Nat.lt_of_succ_lt (Heap.lt_size z)) (Nat.lt_irrefl _)
  refine call_errK U (X _ _ hC) (looks_findIn X iC) (fun self => bind_fn X self tC) one ?_
  refine ini ⟨(hp.push (kdv_tup rest)).push (excO C hp.objs.size), g, dr, tk, os⟩ _ _ _ hp.objs.size rfl (X.keeps up) (hlim.keeps up) at_ hnx fun h' tk' dx ⟨k', hx, dn, dne, hns⟩ => ?_
  have old : ∀ b o, hp.get? b = some o → h'.get? b = some o := fun b o e => k' b o (Nat.ne_of_lt (Nat.lt_succ_of_lt (Heap.lt_size e))) (up b o e)
  have z : hp.objs.size + 1 + 1 ≤ dx := by
    first
      | (simpa only [Heap.size_push] using dn)
      | exact dn
  exact ⟨rfl, k h' tk' (hp.objs.size + 1) dx ⟨old, Nat.le_succ _, ⟨_, _, hx, rfl, rfl, rfl⟩, Nat.le_trans (Nat.le_trans (Nat.le_succ _) (Nat.le_succ _)) z, dne, hns⟩⟩
end
end PySem.VErr

namespace PySem.VErr
open PySem.W PySem.Calls PyProof.Rows PySem.HandSPX
/-! two fields, over ValueError -/
def eArgs2 (f g : Str) (p1 p2 p3 : Pos) : Arguments := { posonlyargs := [], args := [{ arg := "self", annotation := none, pos := p1 }, { arg := f, annotation := none, pos := p2 }, { arg := g, annotation := none, pos := p3 }], vararg := none, kwonlyargs := [], kw_defaults := [], kwarg := none, defaults := [] }
def eBody2 (f g : Str) (q1 q2 q3 q4 r1 r2 r3 r4 : Pos) : List Stmt := [.Assign [.Attribute (.Name "self" q1) f q2] (.Name f q3) q4, .Assign [.Attribute (.Name "self" r1) g r2] (.Name g r3) r4]
def eScope2 (f g : Str) : Scope := { kind := .function, names := [("self", .local), (f, .local), (g, .local)], isGenerator := false, isCoroutine := false, more := [] }
structure E2 (K : Frag) (mg : Str → Option Value) (x f g qi : Str) (C fI : Addr) : Prop where
  ec : EC K mg x C
  ve : ∃ cd, clsIn K C = some cd ∧ refsVE cd.mro = true ∧ cd.hasDict = true
  noF : findIn K (.ref C) f = some none
  noG : findIn K (.ref C) g = some none
  iC : findIn K (.ref C) "__init__" = some (some (.ref fI))
  tC : typeIn K (.ref fI) = some (.type "function")
  nf : (f == ("self" : Str)) = false ∧ (f == ("__debug__" : Str)) = false ∧ (g == ("self" : Str)) = false ∧ (g == ("__debug__" : Str)) = false ∧ (g == f) = false ∧ (f == g) = false
  fn : ∃ (oc : Value) (od : Option Addr) (doc pm : Value) (an : Option Addr) (cdv ct : Value) (osl : Array (Option Value)) (p1 p2 p3 q1 q2 q3 q4 r1 r2 r3 r4 : Pos),
    K.lookup fI = some ⟨oc, od, .func (fnOf "__init__" qi (eArgs2 f g p1 p2 p3) (eBody2 f g q1 q2 q3 q4 r1 r2 r3 r4) (eScope2 f g) .none .none doc pm an cdv ct), osl⟩ ∧ codeIn K cdv qi = true ∧
      (∀ u v y, bindArgs (fnOf "__init__" qi (eArgs2 f g p1 p2 p3) (eBody2 f g q1 q2 q3 q4 r1 r2 r3 r4) (eScope2 f g) .none .none doc pm an cdv ct) ⟨[u, v, y], []⟩ = pure [(("self" : Str), u), (f, v), (g, y)]) ∧
      ∀ u v y, bindArgs (fnOf "__init__" qi (eArgs2 f g p1 p2 p3) (eBody2 f g q1 q2 q3 q4 r1 r2 r3 r4) (eScope2 f g) .none .none doc pm an cdv ct) ⟨[u], [(g, y), (f, v)]⟩ = pure [(("self" : Str), u), (f, v), (g, y)]
section
variable {prog : Program} {w : World} {A : Around} {E : Value → Shared → Prop} {R : Result → Shared → Prop} {s : Shared} {K : Frag} {mg : Str → Option Value} {x f g qi : Str} {C fI : Addr}
theorem run_init2 (T : E2 K mg x f g qi C fI) {e t0 : Addr} {v y : Value} {kw : Bool} (X : K.In s.heap) (hlim : s.heap.NoLimit) (hx : s.heap.get? e = some (excO C t0)) (hnx : K.lookup e = none) (hroom : A.depth < recursionLimit)
    (k : ∀ h' tk dx, IniM s.heap h' e C dx t0 (fun z => if z = g then some y else if z = f then some v else none) → R (.ok (.ret .none)) { s with heap := h', toks := tk }) :
    codeAny (model prog w) A (.call (.ref fI) ⟨.ref e :: (if kw = true then [] else [v, y]), if kw = true then [(g, y), (f, v)] else []⟩) R s := by
  obtain ⟨oc, od, doc, pm, an, cdv, ct, osl, p1, p2, p3, q1, q2, q3, q4, r1, r2, r3, r4, ho, hcd, hbd, hbk⟩ := T.fn
  obtain ⟨nm, q, N, bs, bm, sn, sub, ab, col, dd, k0, k1, k2, k3, k5, nw, hC, U⟩ := T.ec.cls
  obtain ⟨n1, n2, n3, n4, n5, n6⟩ := T.nf
  have hcl : clsIn K C = some { name := nm, bases := bs, mro := .ref C :: bm, ns := N, qualname := q, hasDict := true, slotNames := sn, subclasses := sub, abstract := ab, collection := col, hasDel := false } := by
    unfold clsIn
    rw [hC] <;> rfl
  obtain ⟨cd2, hcl2, hve, hhd⟩ := T.ve
  have kf : ∀ L a cd, (envOfC qi (eScope2 f g) L a cd).kindOf f = some .local := fun L a cd => by
    show List.lookup f [(("self" : Str), NameKind.local), (f, NameKind.local), (g, NameKind.local)] = some NameKind.local
    simp [List.lookup, n1]
  have kg : ∀ L a cd, (envOfC qi (eScope2 f g) L a cd).kindOf g = some .local := fun L a cd => by
    show List.lookup g [(("self" : Str), NameKind.local), (f, NameKind.local), (g, NameKind.local)] = some NameKind.local
    simp [List.lookup, n3, n5]
  have ks : ∀ L a cd, (envOfC qi (eScope2 f g) L a cd).kindOf "self" = some .local := fun L a cd => rfl
  have fs : ("self" : Str) ≠ f := fun z => by rw [← z] at n1; simp at n1
  have gs : ("self" : Str) ≠ g := fun z => by rw [← z] at n3; simp at n3
  have fg : f ≠ g := fun z => by rw [← z] at n5; simp at n5
  refine Att.call_fn (binds := [("self", .ref e), (f, v), (g, y)]) X hlim ho hcd hroom (BindsTo.of_eq (by cases kw; exact hbd _ _ _; exact hbk _ _ _)) ?_ (fun s₁ IC => ?_) rfl rfl rfl
  · have z1 : List.lookup ("self" : Str) (eScope2 f g).names = some NameKind.local := rfl
    have z2 : List.lookup f (eScope2 f g).names = some NameKind.local := kf 0 0 .none
    have z3 : List.lookup g (eScope2 f g).names = some NameKind.local := kg 0 0 .none
    simp only [List.all_cons, List.all_nil, z1, z2, z3]
    rfl
  obtain ⟨h₁, tk₁, rfl⟩ := IC.toInCall.same
  have up : ∀ b o, s.heap.get? b = some o → h₁.get? b = some o := IC.toInCall.keep
  have hn := IC.toInCall.ns
  have X₁ : K.In h₁ := X.keeps up
  have hx₁ := up _ _ hx
  have v1 : bindL (envOfC qi (eScope2 f g) s.heap.objs.size fI cdv).kindOf [("self", Value.ref e), (f, v), (g, y)] (fun _ => none) f = some v := by
    simp only [bindL, kf, kg, ks, if_true]
    rw [if_neg fg]
  have v3 : bindL (envOfC qi (eScope2 f g) s.heap.objs.size fI cdv).kindOf [("self", Value.ref e), (f, v), (g, y)] (fun _ => none) g = some y := by
    simp only [bindL, kf, kg, ks, if_true]
  have v2 : bindL (envOfC qi (eScope2 f g) s.heap.objs.size fI cdv).kindOf [("self", Value.ref e), (f, v), (g, y)] (fun _ => none) "self" = some (.ref e) := by
    simp only [bindL, kf, kg, ks, if_true]
    rw [if_neg gs, if_neg fs]
  show wpAny _ _ (execs _ _) _ _ _
  refine wpAny_execs_cons (plainObj_wpAny_Assign_Attribute ?_)
  refine ld_own hn v1 rfl (kf _ _ _) n2 (ld_own hn v2 rfl (ks _ _ _) (by decide) ?_)
  refine set_plain X₁ (ox := excO C t0) (od := none) ⟨hx₁, rfl, rfl, trivial⟩ T.ec.sa ?_
  refine put_first U X₁ hx₁ hcl rfl rfl T.noF (fun h₃ tk₃ dx k₃ dn dne hx₃ hn₃ => ?_)
  have z : s.heap.objs.size < h₁.objs.size := hn.lt
  -- the locals still stand
  have old3 : ∀ b o, b ≠ e → h₁.get? b = some o → h₃.get? b = some o := k₃
  have eL : s.heap.objs.size ≠ e := Nat.ne_of_gt (Heap.lt_size hx)
  have hnL : h₃.Ns s.heap.objs.size (bindL (envOfC qi (eScope2 f g) s.heap.objs.size fI cdv).kindOf [("self", Value.ref e), (f, v), (g, y)] (fun _ => none)) := hn.at fun o q => old3 _ o eL q
  have X₃ : K.In h₃ := fun b o q => old3 b o (fun z => by rw [z, hnx] at q; cases q) (X₁ b o q)
  show wpAny _ _ (execs _ _) _ _ _
  refine wpAny_execs_cons (plainObj_wpAny_Assign_Attribute ?_)
  refine ld_own hnL v3 rfl (kg _ _ _) n4 (ld_own hnL v2 rfl (ks _ _ _) (by decide) ?_)
  obtain ⟨oD, esD, epD, hoD, hdD⟩ := id hn₃
  refine set_plain X₃ (ox := { cls := .ref C, dict := some dx, data := .fields #[.ref t0, .none, .none, .none, .bool false, .none] }) (od := some oD) ⟨hx₃, rfl, rfl, hoD⟩ T.ec.sa ?_
  have hw : Within (fun z => if z = f then some v else none) [f] := fun z hz => by
    by_cases c : z = f
    · rw [c]; exact List.mem_singleton.mpr rfl
    · exact absurd (if_neg c) hz
  refine PySem.OEX.osa_old X₃ hx₃ hn₃ hw (by show 1 ≤ 1000; decide) hcl2 hve hhd T.noG (fun h₄ tk₄ k₄ hn₄ => ?_)
  show wpAny _ _ (execs _ _) _ _ _
  exact wpAny_execs_nil (k h₄ tk₄ dx ⟨fun b o hb w => k₄ b o (fun q => by rw [q] at w; exact absurd (Heap.lt_size w) (Nat.not_lt.mpr (Nat.le_trans (Nat.le_of_lt z) dn))) (k₃ b o hb (up b o w)), k₄ _ _ dne.symm hx₃, Nat.le_of_lt (Nat.lt_of_lt_of_le z dn), dne, hn₄⟩)
end
end PySem.VErr

namespace Vx
open PySem PySem.Spec PyProof.Rows L2
/-! an error as a value -/
def EvO (C : Addr) (d : Option Addr) (e : Addr) : HO := .ext fun h => ∃ (oe : Obj) (vs : Array Value), h.get? e = some oe ∧ Zc (.ref C) d oe ∧ oe.data = .fields vs
theorem evO_ok {P : Program} {w : World} {H : Hp} {h : Heap} {e C : Addr} {d : Option Addr} {oe : Obj} {vs : Array Value} (he : h.get? e = some oe) (z : Zc (.ref C) d oe) (hd : oe.data = .fields vs) : ObjOk P w H h e (EvO C d e) :=
  ⟨⟨oe, vs, he, z, hd⟩, ⟨oe, he⟩, fun _ _ ⟨o, v, q, r⟩ k => ⟨o, v, k o q, r⟩⟩
/-- v is an error of the class at C with these fields -/
structure Ev (H : Hp) (v : V) (C : Addr) (fs : List (Str × V)) : Prop where
  ex : ∃ e d, v = .ref e ∧ H e = some (EvO C (some d) e) ∧ H d = some (.xd fs)
/-- v is an error of the class at C -/
structure Ea (H : Hp) (v : V) (C : Addr) : Prop where
  ex : ∃ e d, v = .ref e ∧ H e = some (EvO C d e) ∧ ∀ dd, d = some dd → ∃ fs, H dd = some (.xd fs)
theorem Ev.ea {H : Hp} {v : V} {C : Addr} {fs : List (Str × V)} (h : Ev H v C fs) : Ea H v C := by
  obtain ⟨e, d, ev, h1, h2⟩ := h.ex
  exact ⟨e, some d, ev, h1, fun dd q => ⟨fs, by rw [← Option.some.inj q]; exact h2⟩⟩
theorem Ev.same {H H' : Hp} {v : V} {C : Addr} {fs : List (Str × V)} (s : Same H H') (h : Ev H v C fs) : Ev H' v C fs := by
  obtain ⟨e, d, ev, h1, h2⟩ := h.ex
  exact ⟨e, d, ev, s _ _ h1, s _ _ h2⟩
theorem Ea.same {H H' : Hp} {v : V} {C : Addr} (s : Same H H') (h : Ea H v C) : Ea H' v C := by
  obtain ⟨e, d, ev, h1, h2⟩ := h.ex
  exact ⟨e, d, ev, s _ _ h1, fun dd q => by obtain ⟨fs, z⟩ := h2 dd q; exact ⟨fs, s _ _ z⟩⟩
theorem relO_two {f g : Str} {v y : V} {v' y' : Value} (r : RelV v v') (r2 : RelV y y') (z : Str) : RelO (List.lookup z [(g, y), (f, v)]) (if z = g then some y' else if z = f then some v' else none) := by
  by_cases hw : z = g
  · subst hw
    rw [if_pos rfl]
    have q : List.lookup z [(z, y), (f, v)] = some y := by simp [List.lookup]
    rw [q]
    exact r2
  · rw [if_neg hw]
    have qw : (z == g) = false := by simpa using hw
    have q2 : List.lookup z [(g, y), (f, v)] = List.lookup z [(f, v)] := by simp [List.lookup, qw]
    rw [q2]
    exact relO_one r z
section
variable {X : Cx} {pins : List (Addr × Obj)} {σ : L2.St} {H1 : Hp}
theorem err_inv {hp h' : Heap} {g : Array GenState} {dr : PySem.Drawn} {tk tk' : Nat} {os : OsState} {e C d : Addr} {mA : Str → Option Value} {fs : List (Str × V)} (I1 : Inv X pins σ H1 ⟨hp, g, dr, tk, os⟩) (M : PySem.VErr.ErrM hp h' e C d mA) (rel : ∀ y, RelO (fs.lookup y) (mA y)) :
    ∃ H', Same H1 H' ∧ Ev H' (.ref e) C fs ∧ Inv X pins σ H' ⟨h', g, dr, tk', os⟩ := by
  obtain ⟨oe, fv, hoe, hc, hd, hdat⟩ := M.obj
  have hns := M.ns
  obtain ⟨G', g1, g2⟩ := restrict h' fun b => decide (b ≠ e)
  have gk : ∀ b, b ≠ e → G'.get? b = h'.get? b := fun b hb => g1 b (decide_eq_true hb)
  have ge : G'.get? e = none := g2 e (by simp)
  have old : ∀ b o, hp.get? b = some o → G'.get? b = some o := fun b o q => (gk b (Nat.ne_of_lt (Nat.lt_of_lt_of_le (Heap.lt_size q) M.new))).trans (M.keep b o q)
  have ob : ObjOk X.prog X.w (upd H1 d (.xd fs)) G' d (.xd fs) := ⟨_, hns.at (fun o q => (gk d M.dne).trans q), rel⟩
  have J : Inv X pins σ (upd H1 d (.xd fs)) ⟨G', g, dr, tk', os⟩ := I1.laid (t' := tk') old M.dbig ob
  have hnd : H1 d = none := I1.hok.fresh M.dbig
  have hne : upd H1 d (.xd fs) e = none := by
    rw [upd_ne (Ne.symm M.dne)]
    exact I1.hok.fresh M.new
  have up : ∀ b u, G'.get? b = some u → h'.get? b = some u := fun b u q => by
    by_cases hb : b = e
    · rw [hb, ge] at q; cases q
    · rw [← gk b hb]; exact q
  have J2 : Inv X pins σ (upd (upd H1 d (.xd fs)) e (EvO C (some d) e)) ⟨h', g, dr, tk', os⟩ := J.laidN (t' := tk') up ge hne (evO_ok hoe ⟨hc, hd⟩ hdat)
  have s1 := same_new hnd (.xd fs)
  have s2 := same_new hne (EvO C (some d) e)
  exact ⟨_, s1.trans s2, ⟨e, d, rfl, upd_same, s2 _ _ upd_same⟩, J2⟩
end
section
variable {X : Cx} {x f g qi : Str} {C fI : Addr} {ta tk : TA} {es : List Expr} {e : Expr} {kws : List Keyword} {p pos : Pos} {k : Nat}
def mk1 (f : Str) : List V → Option (List (Str × V))
  | [v] => some [(f, v)]
  | _ => none
def mk2 (f g : Str) : List V → Option (List (Str × V))
  | [v, y] => some [(g, y), (f, v)]
  | _ => none
def mk2K (f g : Str) : List V → Option (List (Str × V))
  | [y, v] => some [(g, y), (f, v)]
  | _ => none
/-- a class of errors, called -/
def tErr (C : Addr) (mk : List V → Option (List (Str × V))) (ta : TA) : TE := fun σ H Q => ta σ H fun vs H1 => ∃ fs, mk vs = some fs ∧ ∀ x H', Same H1 H' → Ev H' x C fs → Q x H'
theorem pe_err1 (T : PySem.VErr.E1 X.K X.mg x f qi C fI) (hr : Room k X.A) (hg : Gl X x) (ha : PA X (e :: es) ta) (hdb : (x == ("__debug__" : Str)) = false := by decide +kernel)
    (he : starEach (e :: es) X.env = (false, eval e X.env) :: starEach es X.env := by rfl) (hpl : (backTo pos (starEach es X.env)).any (·.1) = false := by rfl) :
    PE X (.Call (.Name x p) (e :: es) [] pos) (tErr C (mk1 f) ta) := by
  refine ⟨fun pins s σ H Q I h => ?_⟩
  refine wpAny_Call_Name_kw (ld_glob I hg T.ec.gC ?_ hdb)
  refine PySem.W.callWith_K (h₀ := X.base) I.ok.mod.kin T.ec.kC (thn (ha.run pos pins s σ H _ I h) fun us s1 ⟨vs, H1, I1, r1, fs, ev, q1⟩ => ⟨I1.kIn, ?_⟩) he hpl
  rcases vs with _ | ⟨v, _ | ⟨v2, vs⟩⟩
  · cases ev
  · obtain rfl := Option.some.inj ev
    obtain ⟨u, rfl, rv⟩ := vals1 r1
    have hlim := I1.nolimit
    obtain ⟨hp, g', dr, tk', os⟩ := s1
    have dp := hr.dp
    refine wpAny_call (PySem.VErr.run_err (az := ⟨[] ++ [u], []⟩) T.ec T.iC T.tC (by show 1 ≤ sizeLine; decide) I1.kIn hlim (fun s₂ A₂ R₂ e t0 hA hK hl hx hn kk => PySem.VErr.run_init1 (kw := false) (v := u) T hK hl hx hn (by omega) kk) fun h' tk2 e d M => ?_)
    obtain ⟨H', s', ev', J⟩ := err_inv (tk' := tk2) I1 M (fun y => relO_one rv y)
    exact ⟨.ref e, H', J, rfl, q1 _ H' s' ev'⟩
  · cases ev
theorem pe_err1K (T : PySem.VErr.E1 X.K X.mg x f qi C fI) (hr : Room k X.A) (hg : Gl X x) (hkw : PK X kws tk) (hall : (backToKw pos (keywordEach kws X.env)).all (·.1.isSome) = true := by rfl) (hks : (backToKw pos (keywordEach kws X.env)).filterMap (·.1) = [f] := by rfl)
    (hdb : (x == ("__debug__" : Str)) = false := by decide +kernel) (hpl : ((backTo pos (starEach [] X.env)).any (·.1) || (backToKw pos (keywordEach kws X.env)).any (·.1.isNone)) = false := by rfl) :
    PE X (.Call (.Name x p) [] kws pos) (tErr C (mk1 f) tk) := by
  refine ⟨fun pins s σ H Q I h => ?_⟩
  refine wpAny_Call_Name_kw (ld_glob I hg T.ec.gC ?_ hdb)
  refine PySem.W.callWith_KW0 (h₀ := X.base) I.ok.mod.kin T.ec.kC hall (thn (hkw.run pos pins s σ H _ I h) ?_) hpl
  rintro us s1 ⟨vs, H1, I1, r1, fs, ev, q1⟩
  refine ⟨I1.kIn, ?_⟩
  rw [hks]
  rcases vs with _ | ⟨v, _ | ⟨v2, vs⟩⟩
  · cases ev
  · obtain rfl := Option.some.inj ev
    obtain ⟨u, rfl, rv⟩ := vals1 r1
    have hlim := I1.nolimit
    obtain ⟨hp, g', dr, tk', os⟩ := s1
    have dp := hr.dp
    refine wpAny_call (PySem.VErr.run_err (az := ⟨[] ++ [], [(f, u)]⟩) T.ec T.iC T.tC (by show 0 ≤ sizeLine; decide) I1.kIn hlim (fun s₂ A₂ R₂ e t0 hA hK hl hx hn kk => PySem.VErr.run_init1 (kw := true) (v := u) T hK hl hx hn (by omega) kk) fun h' tk2 e d M => ?_)
    obtain ⟨H', s', ev', J⟩ := err_inv (tk' := tk2) I1 M (fun y => relO_one rv y)
    exact ⟨.ref e, H', J, rfl, q1 _ H' s' ev'⟩
  · cases ev
theorem pe_err2 (T : PySem.VErr.E2 X.K X.mg x f g qi C fI) (hr : Room k X.A) (hg : Gl X x) (ha : PA X (e :: es) ta) (hdb : (x == ("__debug__" : Str)) = false := by decide +kernel)
    (he : starEach (e :: es) X.env = (false, eval e X.env) :: starEach es X.env := by rfl) (hpl : (backTo pos (starEach es X.env)).any (·.1) = false := by rfl) :
    PE X (.Call (.Name x p) (e :: es) [] pos) (tErr C (mk2 f g) ta) := by
  refine ⟨fun pins s σ H Q I h => ?_⟩
  refine wpAny_Call_Name_kw (ld_glob I hg T.ec.gC ?_ hdb)
  refine PySem.W.callWith_K (h₀ := X.base) I.ok.mod.kin T.ec.kC (thn (ha.run pos pins s σ H _ I h) fun us s1 ⟨vs, H1, I1, r1, fs, ev, q1⟩ => ⟨I1.kIn, ?_⟩) he hpl
  rcases vs with _ | ⟨v, _ | ⟨v2, _ | ⟨v3, vs⟩⟩⟩
  · cases ev
  · cases ev
  · obtain rfl := Option.some.inj ev
    obtain ⟨u, u2, rfl, rv, rv2⟩ := vals2 r1
    have hlim := I1.nolimit
    obtain ⟨hp, g', dr, tk', os⟩ := s1
    have dp := hr.dp
    refine wpAny_call (PySem.VErr.run_err (az := ⟨[] ++ [u, u2], []⟩) T.ec T.iC T.tC (by show 2 ≤ sizeLine; decide) I1.kIn hlim (fun s₂ A₂ R₂ e t0 hA hK hl hx hn kk => PySem.VErr.run_init2 (kw := false) (v := u) (y := u2) T hK hl hx hn (by omega) kk) fun h' tk2 e d M => ?_)
    obtain ⟨H', s', ev', J⟩ := err_inv (tk' := tk2) I1 M (fun y => relO_two rv rv2 y)
    exact ⟨.ref e, H', J, rfl, q1 _ H' s' ev'⟩
  · cases ev
theorem pe_err2K (T : PySem.VErr.E2 X.K X.mg x f g qi C fI) (hr : Room k X.A) (hg : Gl X x) (hkw : PK X kws tk) (hall : (backToKw pos (keywordEach kws X.env)).all (·.1.isSome) = true := by rfl) (hks : (backToKw pos (keywordEach kws X.env)).filterMap (·.1) = [g, f] := by rfl)
    (hdb : (x == ("__debug__" : Str)) = false := by decide +kernel) (hpl : ((backTo pos (starEach [] X.env)).any (·.1) || (backToKw pos (keywordEach kws X.env)).any (·.1.isNone)) = false := by rfl) :
    PE X (.Call (.Name x p) [] kws pos) (tErr C (mk2K f g) tk) := by
  refine ⟨fun pins s σ H Q I h => ?_⟩
  refine wpAny_Call_Name_kw (ld_glob I hg T.ec.gC ?_ hdb)
  refine PySem.W.callWith_KW0 (h₀ := X.base) I.ok.mod.kin T.ec.kC hall (thn (hkw.run pos pins s σ H _ I h) ?_) hpl
  rintro us s1 ⟨vs, H1, I1, r1, fs, ev, q1⟩
  refine ⟨I1.kIn, ?_⟩
  rw [hks]
  rcases vs with _ | ⟨v, _ | ⟨v2, _ | ⟨v3, vs⟩⟩⟩
  · cases ev
  · cases ev
  · obtain rfl := Option.some.inj ev
    obtain ⟨u, u2, rfl, rv, rv2⟩ := vals2 r1
    have hlim := I1.nolimit
    obtain ⟨hp, g', dr, tk', os⟩ := s1
    have dp := hr.dp
    refine wpAny_call (PySem.VErr.run_err (az := ⟨[] ++ [], [(g, u), (f, u2)]⟩) T.ec T.iC T.tC (by show 0 ≤ sizeLine; decide) I1.kIn hlim (fun s₂ A₂ R₂ e t0 hA hK hl hx hn kk => PySem.VErr.run_init2 (kw := true) (v := u2) (y := u) T hK hl hx hn (by omega) kk) fun h' tk2 e d M => ?_)
    obtain ⟨H', s', ev', J⟩ := err_inv (tk' := tk2) I1 M (fun y => relO_two rv2 rv y)
    exact ⟨.ref e, H', J, rfl, q1 _ H' s' ev'⟩
  · cases ev
/-- a class without an __init__ of its own, called with nothing -/
theorem pe_err0 {bmB : List Value} {B newId initId : String} (F : ExcBaseFacts B newId initId bmB) (q : PySem.W.excIn X.K C bmB newId = true) (gC : X.mg x = some (.ref C)) (kC : PySem.W.keepIn X.K (.ref C) = true) (hg : Gl X x) (hdb : (x == ("__debug__" : Str)) = false := by decide +kernel) :
    PE X (.Call (.Name x p) [] [] pos) (fun σ H Q => ∀ y H', Same H H' → Ea H' y C → Q y H') := by
  refine ⟨fun pins s σ H Q I h => ?_⟩
  refine wpAny_Call_Name_kw (ld_glob I hg gC ?_ hdb)
  refine PySem.W.callWith_K0 I.kIn kC ?_
  show wpAny _ _ (call (.ref C) []) _ _ _
  obtain ⟨bm, N, nm, qn, bs, hdct, sn, sub, ab, col, dd, k0, k1, k2, k3, k5, mN, hC, hN, hni, T⟩ := exc_obj I.kIn q
  refine wpAny_call_exc_subT F T hC hN hni (fun h' a hm => ?_) (by show 0 ≤ sizeLine; decide)
  have hn : H a = none := I.hok.gone hm.new
  obtain ⟨t, ht, _, _⟩ := hm.there
  exact ⟨.ref a, upd H a (EvO C none a), I.laidN hm.keeps hm.new hn (evO_ok ht ⟨rfl, rfl⟩ rfl), rfl, h _ _ (same_new hn _) ⟨a, none, rfl, upd_same, fun _ z => nomatch z⟩⟩
/-- err.f -/
def tFd (K : PySem.W.Frag) (n : Str) (te : TE) : TE := fun σ H Q => te σ H fun x H1 => ∃ (C : Addr) (fs : List (Str × V)) (v : V), XfC K C ∧ PySem.W.findIn K (.ref C) n = some none ∧ Ev H1 x C fs ∧ fs.lookup n = some v ∧ Q v H1
theorem pe_fd {te : TE} {n : Str} (he : PE X e te) (hb : attributeBase e n X.env (eval e X.env) = eval e X.env := by rfl) : PE X (.Attribute e n pos) (tFd X.K n te) := by
  refine ⟨fun pins s σ H Q I h => ?_⟩
  refine attr_of hb (thn (he.run pins s σ H _ I h) fun u s1 hh => ?_)
  obtain ⟨x, H1, I1, rx, C, fs, v, T, hno, ev, l, q⟩ := hh
  obtain ⟨a, dd, ex, ha, ed⟩ := ev.ex
  subst ex
  obtain rfl : u = Value.ref a := rx
  have hx0 : ObjOk X.prog X.w H1 s1.heap a (.ext fun h => ∃ (oe : Obj) (vs : Array Value), h.get? a = some oe ∧ Zc (.ref C) (some dd) oe ∧ oe.data = .fields vs) := I1.hok a _ ha
  obtain ⟨oe, vs, hoe, hz, hd⟩ := hx0.1
  have hx : ObjOk X.prog X.w H1 s1.heap dd (.xd fs) := I1.hok dd _ ed
  obtain ⟨mA, hns, hr⟩ := hx
  obtain ⟨od, ho, hl⟩ := lookIn_ns hns
  obtain ⟨u, hu, ru⟩ := RelO.some_of (v := v) (o := mA n) (by rw [← l]; exact hr n)
  have J : PySem.W.InstAt s1.heap a oe C (some od) := ⟨hoe, hz.1, by unfold PySem.W.notCls; rw [hd] <;> rfl, by rw [hz.2]; exact ho⟩
  exact HandSPX.exc_get I1.kIn J T.ga T.gg T.exC (PySem.W.findObj_own T.hdC hno rfl (by rw [hl, hu])) (handed_of ru) ⟨v, H1, I1.tok _, ru, q⟩
/-- isinstance(e, c), e an error held as a value -/
def rIsV (K : PySem.W.Frag) : List V → Hp → VK → Prop := fun xs H Q => ∃ (x c : V) (C : Addr) (cv : Value) (b : Bool), xs = [x, c] ∧ Ea H x C ∧ ExcC K C ∧ (∀ u, RelV c u → u = cv) ∧ PySem.W.kitOne K (.ref C) cv = some b ∧ Q (.bl b) H
theorem call_isV : CallR X (.builtin "isinstance") (rIsV X.K) := by
  intro pins s σ H xs us Q I r ⟨x, c, C, cv, b, exs, ea, ec, hcv, e, q⟩
  subst exs
  obtain ⟨u1, u2, rfl, r1, r2⟩ := vals2 r
  obtain ⟨a, d, ex, ha, hdd⟩ := ea.ex
  subst ex
  obtain rfl : u1 = Value.ref a := r1
  have e2 := hcv _ r2
  subst e2
  have hx0 : ObjOk X.prog X.w H s.heap a (.ext fun h => ∃ (oe : Obj) (vs : Array Value), h.get? a = some oe ∧ Zc (.ref C) d oe ∧ oe.data = .fields vs) := I.hok a _ ha
  obtain ⟨oe, vs, hoe, hz, hv⟩ := hx0.1
  cases d with
  | none =>
    have J : PySem.W.InstAt s.heap a oe C none := by
      obtain ⟨oc, od, oda, osl⟩ := oe
      obtain ⟨h1, h2⟩ := hz
      dsimp only at h1 h2 hv
      subst h1 h2 hv
      exact ⟨hoe, rfl, rfl, trivial⟩
    exact PySem.W.kia_one (PySem.W.handS_kitx_exc ec.hg ec.hk ec.hs ec.hd ec.ha ec.hn ec.ht ec.hm) I.kIn J e (fun z => nomatch z) fun tk => ⟨.bl b, H, I.kept (t' := tk) fun _ _ z => z, rfl, q⟩
  | some dd =>
    obtain ⟨fs, ed⟩ := hdd dd rfl
    have hx : ObjOk X.prog X.w H s.heap dd (.xd fs) := I.hok dd _ ed
    obtain ⟨mA, hns, hr⟩ := hx
    obtain ⟨od, ho, hl⟩ := lookIn_ns hns
    have J : PySem.W.InstAt s.heap a oe C (some od) := ⟨hoe, hz.1, by unfold PySem.W.notCls; rw [hv] <;> rfl, by rw [hz.2]; exact ho⟩
    have hc : (PySem.W.clsIn X.K C).isSome = true := by
      obtain ⟨cd, hc, _⟩ := PySem.W.any_some ec.hd
      rw [hc]
      rfl
    exact PySem.W.kia_one (PySem.W.kitx_exc hc ec.hg ec.hk ec.hs ec.ha ec.hn ec.ht ec.hm) I.kIn J e (fun z => nomatch z) fun tk => ⟨.bl b, H, I.kept (t' := tk) fun _ _ z => z, rfl, q⟩
end
end Vx

namespace Vx
open PySem PySem.Spec PyProof.Rows L2
theorem pe_cC {X : Cx} {x : Str} {p : Pos} {C : Addr} (h : X.mg x = some (.ref C)) (hg : Gl X x) (hd : (x == ("__debug__" : Str)) = false := by decide +kernel) : PE X (.Name x p) (tC (.ref C)) := pe_glob hg h rfl hd
/-- a text, some times -/
def rTimes : R2 := fun x y H Q => ∃ (z : Str) (n : Int), x = .str z ∧ y = .int n ∧ 1 ≤ n ∧ n ≤ 100 ∧ z.cps.size ≤ 100 ∧ ∀ w : Str, (∀ c ∈ w.cps.toList, c ∈ z.cps.toList) → w.cps.size ≤ n.toNat * z.cps.size → Q (.str w) H
theorem reps_mem (c : Array Nat) : ∀ (k : Nat) (acc : Array Nat), ∀ y ∈ ((List.replicate k c).foldl (· ++ ·) acc).toList, y ∈ acc.toList ∨ y ∈ c.toList
  | 0, acc, y, h => .inl h
  | k + 1, acc, y, h => by
    rw [List.replicate_succ, List.foldl_cons] at h
    rcases reps_mem c k (acc ++ c) y h with h | h
    · rw [Array.toList_append] at h
      exact List.mem_append.mp h
    · exact .inr h
theorem op_times {X : Cx} : OpR X (binaryOp .Mult) rTimes := by
  intro pins s σ H x y v u Q I rx ry h
  obtain ⟨z, n, rfl, rfl, h1, h2, h3, q⟩ := h
  obtain ⟨t, rfl⟩ := rx
  obtain ⟨t', rfl⟩ := ry
  have hl : z.length ≤ 100 := h3
  obtain ⟨m1, m2, m3⟩ := mulOk_of (x := z) (n := n) 100 100 hl (by omega) (by omega) (by decide) (by decide)
  refine PySem.P.mul_str m1 m2 m3 ?_
  rw [if_neg (by omega)]
  by_cases c : (n == 1 || z.length == 0) = true
  · rw [if_pos c]
    refine ⟨.str z, H, I, ⟨t, rfl⟩, q z (fun _ h => h) ?_⟩
    have : 1 ≤ n.toNat := by omega
    exact Nat.le_trans (Nat.le_of_eq (Nat.one_mul _).symm) (Nat.mul_le_mul_right _ this)
  · rw [if_neg c]
    have ls := len_reps z.cps n.toNat #[]
    refine ⟨?_, ⟨.str _, H, I.tok _, ⟨_, rfl⟩, q _ (fun y hy => ?_) ?_⟩⟩
    · show ((List.replicate n.toNat z.cps).foldl (· ++ ·) #[]).size ≤ sizeLine
      rw [ls]
      have : n.toNat * z.cps.size ≤ 100 * 100 := Nat.mul_le_mul (by omega) h3
      exact Nat.le_trans (show (#[] : Array Nat).size + n.toNat * z.cps.size ≤ 10000 by simpa using this) (by decide)
    · rcases reps_mem z.cps n.toNat #[] y hy with h | h
      · simp at h
      · exact h
    · show ((List.replicate n.toNat z.cps).foldl (· ++ ·) #[]).size ≤ _
      rw [ls]; simp
/-- a comprehension over enumerate(l) -/
theorem lc_enum {K : PySem.W.Frag} {a : Addr} {xs : List V} {g : TG} {tt : TT} {te : TE} {vs : List Nat} {σ : L2.St} {H1 : Hp} {D : Addr} {Qd : Hp → Prop} (Pv : Nat → Hp → Prop) (h0 : Pv 0 (upd H1 D (.lst []))) (hl : ∀ i H, i ≤ xs.length → Pv i H → SqL K H a xs)
    (hs : ∀ (i : Nat) (x : V) (T : Addr) H, xs[i]? = some x → Pv i H → H T = none → g (.ref T) (wipe σ vs) (upd H T (.tup [.int (i : Nat), x])) fun σ2 H2 => wipe σ2 vs = wipe σ vs ∧ tt σ2 H2 fun b H3 =>
      if b = true then te σ2 H3 fun y H4 => ∃ acc, H4 D = some (.lst acc) ∧ acc.length < sizeLine ∧ Pv (i + 1) (upd H4 D (.lst (acc ++ [y]))) else Pv (i + 1) H3) (hd : ∀ H, Pv xs.length H → Qd H) :
    ∃ W : Nat → Nat → Hp → Prop, (∃ m, W 0 m (upd H1 D (.lst []))) ∧ ∀ i m H, W i m H →
      ((Ite K a).stop i H ∧ Qd H) ∨ ((Ite K a).go i H ∧ ∃ Nx : Hp → Prop, (∀ H', Nx H' → ∃ m', m' < m ∧ W (i + 1) m' H') ∧ ∀ x H', (Ite K a).yld i H x H' → g x (wipe σ vs) H' fun σ2 H2 => wipe σ2 vs = wipe σ vs ∧ tt σ2 H2 fun b H3 =>
        if b = true then te σ2 H3 fun y H4 => ∃ acc, H4 D = some (.lst acc) ∧ acc.length < sizeLine ∧ Nx (upd H4 D (.lst (acc ++ [y]))) else Nx H3) := by
  refine ⟨fun i m H => m = xs.length - i ∧ i ≤ xs.length ∧ Pv i H, ⟨_, rfl, Nat.zero_le _, h0⟩, ?_⟩
  rintro i m H ⟨rfl, hi, p⟩
  have q := hl i H hi p
  by_cases l : i < xs.length
  · refine .inr ⟨⟨xs, xs[i], q, by simp [l]⟩, Pv (i + 1), fun H' p' => ⟨xs.length - (i + 1), by omega, rfl, l, p'⟩, ?_⟩
    rintro v _ ⟨T, x, rfl, hT, rfl, hx⟩
    exact hs i x T H (hx xs q) p hT
  · obtain rfl : i = xs.length := by omega
    exact .inl ⟨⟨xs, q, Nat.le_refl _⟩, hd H p⟩
/-- a class over ValueError without a part of its own -/
structure E0 (K : PySem.W.Frag) (mg : Str → Option Value) (x : Str) (C : Addr) : Prop where
  gC : mg x = some (.ref C)
  kC : PySem.W.keepIn K (.ref C) = true
  xi : PySem.W.excIn K C [.type "ValueError", .type "Exception", .type "BaseException", .type "object"] "ValueError.__new__" = true
/-! kinds -/
/-- the places of the true ones -/
def kin (bs : List Bool) : List Int := ((List.range bs.length).filter fun j => bs.getD j false).map Int.ofNat
def baseNames : List String := ["ValueError", "KeyError", "LookupError", "RuntimeError", "OverflowError", "IndexError", "NotImplementedError"]
structure Kd (K : PySem.W.Frag) (Cs : List Addr) (C : Addr) (os bs : List Bool) : Prop where
  ec : ExcC K C
  xf : XfC K C
  ol : os.length = Cs.length
  bl : bs.length = 7
  own : ∀ (j : Nat) D b, Cs[j]? = some D → os[j]? = some b → PySem.W.kitOne K (.ref C) (.ref D) = some b
  bas : ∀ (j : Nat) T b, baseNames[j]? = some T → bs[j]? = some b → PySem.W.kitOne K (.ref C) (.type T) = some b
def kdB (K : PySem.W.Frag) (Cs : List Addr) (C : Addr) (os bs : List Bool) : Bool :=
  decide (PySem.W.findIn K (.ref C) "__getattribute__" = some (some (.builtin "BaseException.__getattribute__"))) && (decide (PySem.W.findIn K (.ref C) "__getattr__" = some none) && (decide (PySem.W.subIn K (.ref C) (.type "BaseException") = some true) && (PySem.W.hasDictIn K C &&
  (decide (PySem.W.findIn K (.ref C) "__class__" = some (some (.builtin "object.__class__"))) && (decide (PySem.W.specialIn K (.builtin "object.__class__") "__get__" = some (some (.builtin "getset_descriptor.__get__"))) && (decide (PySem.W.takesIn K (.builtin "object.__class__") = some true) && (decide (PySem.W.mroIn K C (.type "object") = some true) &&
  (os.length == Cs.length && (bs.length == 7 && ((Cs.zip os).all (fun z => decide (PySem.W.kitOne K (.ref C) (.ref z.1) = some z.2)) && (baseNames.zip bs).all fun z => decide (PySem.W.kitOne K (.ref C) (.type z.1) = some z.2)))))))))))
theorem all_zip {α β : Type} {f : α × β → Bool} : ∀ {as : List α} {bs : List β}, (as.zip bs).all f = true → ∀ (j : Nat) a b, as[j]? = some a → bs[j]? = some b → f (a, b) = true
  | [], _, _, j, a, b, h, _ => by simp at h
  | _ :: _, [], _, j, a, b, _, h => by simp at h
  | x :: as, y :: bs, h, 0, a, b, h1, h2 => by
    obtain rfl := Option.some.inj h1
    obtain rfl := Option.some.inj h2
    exact (Bool.and_eq_true_iff.mp h).1
  | x :: as, y :: bs, h, j + 1, a, b, h1, h2 => all_zip (Bool.and_eq_true_iff.mp h).2 j a b h1 h2
theorem kdB_ok {K : PySem.W.Frag} {Cs : List Addr} {C : Addr} {os bs : List Bool} (h : kdB K Cs C os bs = true) : Kd K Cs C os bs := by
  unfold kdB at h
  simp only [Bool.and_eq_true, decide_eq_true_eq, beq_iff_eq] at h
  obtain ⟨h1, h2, h3, h4, h5, h6, h7, h8, h9, h10, h11, h12⟩ := h
  exact ⟨⟨h1, h2, h3, h4, h5, h6, h7, h8⟩, ⟨h1, h2, h3, h4⟩, h9, h10, fun j D b e1 e2 => of_decide_eq_true (all_zip h11 j D b e1 e2), fun j T b e1 e2 => of_decide_eq_true (all_zip h12 j T b e1 e2)⟩
end Vx

/-! data level: what stands still (F) within the heap (H), values as data, slots as data or own lists -/
namespace Dl
open PySem PySem.Spec PyProof.Rows L2 Vx
def Thaw : HO → Prop
  | .frz _ _ => False
  | _ => True
structure Le (F F' : Hp) : Prop where
  l : ∀ b xs, F b = some (.lst xs) → F' b = some (.lst xs)
  t : ∀ b xs, F b = some (.tup xs) → F' b = some (.tup xs)
  r : ∀ b u, Thaw u → Rd F b u → Rd F' b u
theorem Le.refl (F : Hp) : Le F F := ⟨fun _ _ h => h, fun _ _ h => h, fun _ _ _ h => h⟩
theorem Le.trans {F F1 F2 : Hp} (a : Le F F1) (b : Le F1 F2) : Le F F2 := ⟨fun c xs h => b.l c xs (a.l c xs h), fun c xs h => b.t c xs (a.t c xs h), fun c u t h => b.r c u t (a.r c u t h)⟩
theorem Le.of {F F' : Hp} (s : Same F F') : Le F F' := ⟨fun b xs h => s b _ h, fun b xs h => s b _ h, fun b u _ h => h.elim (fun h => .inl (s b _ h)) fun ⟨o, h⟩ => .inr ⟨o, s b _ h⟩⟩
theorem Le.seqT {K : PySem.W.Frag} {F F' : Hp} (s : Le F F') {a : Addr} {xs : List V} (h : SqT K F a xs) : SqT K F' a xs := h.elim (fun h => .inl (s.r a _ trivial h)) .inr
theorem Le.seqL {K : PySem.W.Frag} {F F' : Hp} (s : Le F F') {a : Addr} {xs : List V} (h : SqL K F a xs) : SqL K F' a xs := h.elim (fun h => .inl (s.r a _ trivial h)) .inr
def keyD : Key → PyData
  | .inl i => .int i
  | .inr x => .str x
mutual
inductive Dd (K : PySem.W.Frag) (F : Hp) : V → PyData → Prop
  | non : Dd K F .non .none
  | bl (b : Bool) : Dd K F (.bl b) (.bool b)
  | int (i : Int) : Dd K F (.int i) (.int i)
  | str (x : Str) : Dd K F (.str x) (.str x)
  | lst {a : Addr} {xs : List V} {ds : List PyData} : F a = some (.lst xs) → DdAll K F xs ds → Dd K F (.ref a) (.list ds)
  | tup {a : Addr} {xs : List V} {ds : List PyData} : F a = some (.tup xs) → DdAll K F xs ds → Dd K F (.ref a) (.tuple ds)
  | dic {a : Addr} {kvs : List (Key × V)} {ds : List (PyData × PyData)} : Rd F a (.dK kvs) → ds.map Prod.fst = kvs.map (fun p => keyD p.1) → DdAll K F (kvs.map Prod.snd) (ds.map Prod.snd) → Dd K F (.ref a) (.dict ds)
  | dit {a : Addr} {kvs : List (List Key × V)} {ds : List (PyData × PyData)} : Rd F a (.dT kvs) → ds.map Prod.fst = kvs.map (fun p => PyData.tuple (p.1.map keyD)) → DdAll K F (kvs.map Prod.snd) (ds.map Prod.snd) → Dd K F (.ref a) (.dict ((.none, .none) :: ds))
  | obj {a C dx : Addr} {fs : List (Str × V)} {ds : List (PyData × PyData)} : Rd F a (.ins C dx fs) → ds.map Prod.fst = fs.map (fun p => PyData.str p.1) → DdAll K F (fs.map Prod.snd) (ds.map Prod.snd) → Dd K F (.ref a) (.dict ((.none, .int C) :: ds))
inductive DdAll (K : PySem.W.Frag) (F : Hp) : List V → List PyData → Prop
  | nil : DdAll K F [] []
  | cons {v : V} {vs : List V} {d : PyData} {ds : List PyData} : Dd K F v d → DdAll K F vs ds → DdAll K F (v :: vs) (d :: ds)
end
mutual
theorem Dd.le {K : PySem.W.Frag} {F F' : Hp} (s : Le F F') : ∀ {v : V} {d : PyData}, Dd K F v d → Dd K F' v d
  | _, _, .non => .non
  | _, _, .bl b => .bl b
  | _, _, .int i => .int i
  | _, _, .str x => .str x
  | _, _, .lst h r => .lst (s.l _ _ h) (DdAll.le s r)
  | _, _, .tup h r => .tup (s.t _ _ h) (DdAll.le s r)
  | _, _, .dic h e r => .dic (s.r _ _ trivial h) e (DdAll.le s r)
  | _, _, .dit h e r => .dit (s.r _ _ trivial h) e (DdAll.le s r)
  | _, _, .obj h e r => .obj (s.r _ _ trivial h) e (DdAll.le s r)
theorem DdAll.le {K : PySem.W.Frag} {F F' : Hp} (s : Le F F') : ∀ {vs : List V} {ds : List PyData}, DdAll K F vs ds → DdAll K F' vs ds
  | _, _, .nil => .nil
  | _, _, .cons a r => .cons (Dd.le s a) (DdAll.le s r)
end
theorem DdAll.len {K : PySem.W.Frag} {F : Hp} : ∀ {vs : List V} {ds : List PyData}, DdAll K F vs ds → vs.length = ds.length
  | _, _, .nil => rfl
  | _, _, .cons _ b => congrArg (· + 1) (DdAll.len b)
theorem DdAll.app {K : PySem.W.Frag} {F : Hp} : ∀ {vs ws : List V} {ds es : List PyData}, DdAll K F vs ds → DdAll K F ws es → DdAll K F (vs ++ ws) (ds ++ es)
  | _, _, _, _, .nil, h => h
  | _, _, _, _, .cons a b, h => .cons a (DdAll.app b h)
theorem DdAll.get {K : PySem.W.Frag} {F : Hp} : ∀ {vs : List V} {ds : List PyData} {i : Nat} {d : PyData}, DdAll K F vs ds → ds[i]? = some d → ∃ v, vs[i]? = some v ∧ Dd K F v d
  | [], [], i, d, .nil, h => by simp at h
  | v :: _, _ :: _, 0, d, .cons h _, e => ⟨v, rfl, by rw [← Option.some.inj e]; exact h⟩
  | _ :: vs, _ :: ds, i + 1, d, .cons _ r, e => DdAll.get (vs := vs) (ds := ds) (i := i) r e
theorem DdAll.of {K : PySem.W.Frag} {F : Hp} : ∀ {vs : List V} {ds : List PyData} {i : Nat} {v : V}, DdAll K F vs ds → vs[i]? = some v → ∃ d, ds[i]? = some d ∧ Dd K F v d
  | [], [], i, d, .nil, h => by simp at h
  | v :: _, d :: _, 0, _, .cons h _, e => ⟨d, rfl, by rw [← Option.some.inj e]; exact h⟩
  | _ :: vs, _ :: ds, i + 1, d, .cons _ r, e => DdAll.of (vs := vs) (ds := ds) (i := i) r e
theorem DdAll.set {K : PySem.W.Frag} {F : Hp} {v : V} {d : PyData} (h : Dd K F v d) : ∀ {vs : List V} {ds : List PyData} (i : Nat), DdAll K F vs ds → DdAll K F (vs.set i v) (ds.set i d)
  | [], [], _, .nil => .nil
  | _ :: _, _ :: _, 0, .cons _ r => .cons h r
  | _ :: _, _ :: _, i + 1, .cons a r => .cons a (DdAll.set h i r)
theorem DdAll.take {K : PySem.W.Frag} {F : Hp} : ∀ {vs : List V} {ds : List PyData} (n : Nat), DdAll K F vs ds → DdAll K F (vs.take n) (ds.take n)
  | _, _, 0, _ => .nil
  | [], [], _ + 1, .nil => .nil
  | _ :: _, _ :: _, n + 1, .cons a r => .cons a (DdAll.take n r)
theorem DdAll.drop {K : PySem.W.Frag} {F : Hp} : ∀ {vs : List V} {ds : List PyData} (n : Nat), DdAll K F vs ds → DdAll K F (vs.drop n) (ds.drop n)
  | _, _, 0, h => h
  | [], [], _ + 1, .nil => .nil
  | _ :: _, _ :: _, n + 1, .cons _ r => DdAll.drop n r
theorem DdAll.reps {K : PySem.W.Frag} {F : Hp} {vs : List V} {ds : List PyData} (h : DdAll K F vs ds) : ∀ n : Nat, DdAll K F (List.replicate n vs).flatten (List.replicate n ds).flatten
  | 0 => .nil
  | n + 1 => by rw [List.replicate_succ, List.replicate_succ, List.flatten_cons, List.flatten_cons]; exact h.app (DdAll.reps h n)
theorem DdAll.ints {K : PySem.W.Frag} {F : Hp} : ∀ {ns : List Int} {vs : List V}, DdAll K F vs (ns.map PyData.int) → vs = ns.map V.int
  | [], _, .nil => rfl
  | _ :: _, _, .cons (.int i) r => by rw [DdAll.ints r]; rfl
theorem ddInts {K : PySem.W.Frag} {F : Hp} : ∀ ns : List Int, DdAll K F (ns.map V.int) (ns.map PyData.int)
  | [] => .nil
  | n :: ns => .cons (.int n) (ddInts ns)
mutual
def noD : PyData → Bool
  | .list ds => noDs ds
  | .tuple ds => noDs ds
  | .dict _ => false
  | _ => true
def noDs : List PyData → Bool
  | [] => true
  | d :: ds => noD d && noDs ds
end
mutual
theorem Dd.dp {K : PySem.W.Frag} {F : Hp} : ∀ (d : PyData) (v : V), noD d = true → Dd K F v d → Dp K F v d
  | .none, _, _, h => by cases h; exact .non
  | .bool b, _, _, h => by cases h; exact .bl b
  | .int i, _, _, h => by cases h; exact .int i
  | .str x, _, _, h => by cases h; exact .str x
  | .dict _, _, n, _ => by cases n
  | .list ds, _, n, h => by
    cases h with
    | lst h r => exact .lst (SqL.of h) (DdAll.dp ds _ n r)
  | .tuple ds, _, n, h => by
    cases h with
    | tup h r => exact .tup (SqT.of h) (DdAll.dp ds _ n r)
theorem DdAll.dp {K : PySem.W.Frag} {F : Hp} : ∀ (ds : List PyData) (vs : List V), noDs ds = true → DdAll K F vs ds → DpAll K F vs ds
  | [], _, _, h => by cases h; exact .nil
  | d :: ds, _, n, h => by
    cases h with
    | cons a r =>
      have n2 := (Bool.and_eq_true _ _).mp n
      exact .cons (Dd.dp d _ n2.1 a) (DdAll.dp ds _ n2.2 r)
end
/-- the pen, in the part that changes; its cells stand still -/
def PenF (F H : Hp) (p : Addr) : Prop := F p = none ∧ ∃ (c : Addr) (ns : List Int) (i m : Int), H p = some (.lst [.ref c, .int i, .int m]) ∧ F c = some (.lst (ns.map V.int))
/-- what stands still in the heap -/
structure Fz (H F : Hp) : Prop where
  sub : Le F H
  fin : ∀ a, H a = none → F a = none
/-- no tuple -/
def NT (o : HO) : Prop := ∀ xs, o ≠ .tup xs
/-- from (H, F) to (H', F'): what stands still does, what else was there is as it was, but for the pens -/
structure Wd (hs : List Addr) (H F H' F' : Hp) : Prop where
  keep : ∀ a o, H a = some o → F a = none → a ∉ hs → H' a = some o
  fro : Le F F'
  kt : ∀ a xs, H a = some (.tup xs) → H' a = some (.tup xs)
  out2 : ∀ a o, H a = some o → F a = none → NT o → F' a = none ∧ ∀ o', H' a = some o' → NT o'
  trk : ∀ a o, H a = some o → ∃ o', H' a = some o'
  pen : ∀ p ∈ hs, PenF F H p → PenF F' H' p
theorem Wd.out {hs : List Addr} {H F H' F' : Hp} (w : Wd hs H F H' F') (a : Addr) (o : HO) (h : H a = some o) (n : F a = none) (t : NT o := by intro _ z; cases z) : F' a = none := (w.out2 a o h n t).1
theorem nt_same {o o' : HO} (e : some o = some o') (t : NT o) : NT o' := by cases e; exact t
theorem Wd.refl (hs : List Addr) (H F : Hp) : Wd hs H F H F := ⟨fun _ _ h _ _ => h, .refl _, fun _ _ h => h, fun _ _ h n t => ⟨n, fun _ h' => nt_same (h.symm.trans h') t⟩, fun _ o h => ⟨o, h⟩, fun _ _ h => h⟩
theorem Wd.trans {hs : List Addr} {H F H1 F1 H2 F2 : Hp} (a : Wd hs H F H1 F1) (b : Wd hs H1 F1 H2 F2) : Wd hs H F H2 F2 where
  keep := fun c o h n k => by
    by_cases t : NT o
    · exact b.keep c o (a.keep c o h n k) (a.out c o h n t) k
    · obtain ⟨xs, rfl⟩ : ∃ xs, o = .tup xs := Classical.byContradiction fun z => t fun xs e => z ⟨xs, e⟩
      exact b.kt _ _ (a.kt _ _ h)
  kt := fun c xs h => b.kt _ _ (a.kt _ _ h)
  fro := a.fro.trans b.fro
  out2 := fun c o h n t => by
    obtain ⟨o', h'⟩ := a.trk c o h
    have z := a.out2 c o h n t
    exact b.out2 c o' h' z.1 (z.2 _ h')
  trk := fun c o h => by
    obtain ⟨o', h'⟩ := a.trk c o h
    exact b.trk c o' h'
  pen := fun p m h => b.pen p m (a.pen p m h)
theorem PenF.le {F F' H H' : Hp} {p : Addr} (h : PenF F H p) (s : Le F F') (n : F' p = none) (e : ∀ o, H p = some o → H' p = some o) : PenF F' H' p := by
  obtain ⟨_, c, ns, i, m, h1, h2⟩ := h
  exact ⟨n, c, ns, i, m, e _ h1, s.l _ _ h2⟩
theorem PenF.there {F H : Hp} {p : Addr} (h : PenF F H p) : ∃ o, H p = some o := by
  obtain ⟨_, c, ns, i, m, h1, _⟩ := h
  exact ⟨_, h1⟩
/-- a new thing that stands still -/
theorem Wd.newF {hs : List Addr} {H F : Hp} {p : Addr} (z : Fz H F) (n : H p = none) (o : HO) : Wd hs H F (upd H p o) (upd F p o) where
  keep := fun a u h _ _ => by rw [upd_ne (ne_of_none h n)]; exact h
  fro := .of (same_new (z.fin p n) o)
  kt := fun a u h => by rw [upd_ne (ne_of_none h n)]; exact h
  out2 := fun a u h k t => by rw [upd_ne (ne_of_none h n), upd_ne (ne_of_none h n)]; exact ⟨k, fun _ h' => nt_same (h.symm.trans h') t⟩
  trk := fun a u h => ⟨u, by rw [upd_ne (ne_of_none h n)]; exact h⟩
  pen := fun q _ h => by
    obtain ⟨u, e⟩ := h.there
    exact h.le (.of (same_new (z.fin p n) o)) (by rw [upd_ne (ne_of_none e n)]; exact h.1) fun w e' => by rw [upd_ne (ne_of_none e n)]; exact e'
theorem Fz.newF {H F : Hp} {p : Addr} (z : Fz H F) (n : H p = none) (o : HO) : Fz (upd H p o) (upd F p o) where
  sub := by
    refine ⟨fun b xs h => ?_, fun b xs h => ?_, fun b u t h => ?_⟩
    · by_cases e : b = p
      · subst e; rw [upd_same] at h ⊢; exact h
      · rw [upd_ne e] at h ⊢; exact z.sub.l b xs h
    · by_cases e : b = p
      · subst e; rw [upd_same] at h ⊢; exact h
      · rw [upd_ne e] at h ⊢; exact z.sub.t b xs h
    · by_cases e : b = p
      · subst e; unfold Rd at *; rw [upd_same] at h ⊢; exact h
      · have := z.sub.r b u t
        unfold Rd at *; rw [upd_ne e] at h ⊢; exact this h
  fin := fun a h => by
    by_cases e : a = p
    · subst e; rw [upd_same] at h; cases h
    · rw [upd_ne e] at h ⊢; exact z.fin a h
/-- a new thing that may still change -/
theorem Wd.newO {hs : List Addr} {H F : Hp} {p : Addr} (n : H p = none) (o : HO) : Wd hs H F (upd H p o) F where
  keep := fun a u h _ _ => by rw [upd_ne (ne_of_none h n)]; exact h
  fro := .refl _
  kt := fun a u h => by rw [upd_ne (ne_of_none h n)]; exact h
  out2 := fun a u h k t => by rw [upd_ne (ne_of_none h n)]; exact ⟨k, fun _ h' => nt_same (h.symm.trans h') t⟩
  trk := fun a u h => ⟨u, by rw [upd_ne (ne_of_none h n)]; exact h⟩
  pen := fun q _ h => by
    obtain ⟨u, e⟩ := h.there
    exact h.le (.refl _) h.1 fun w e' => by rw [upd_ne (ne_of_none e n)]; exact e'
theorem Fz.newO {H F : Hp} {p : Addr} (z : Fz H F) (n : F p = none) (o : HO) : Fz (upd H p o) F where
  sub := by
    refine ⟨fun b xs h => ?_, fun b xs h => ?_, fun b u t h => ?_⟩
    · have e : b ≠ p := fun e => by subst e; rw [n] at h; cases h
      rw [upd_ne e]; exact z.sub.l b xs h
    · have e : b ≠ p := fun e => by subst e; rw [n] at h; cases h
      rw [upd_ne e]; exact z.sub.t b xs h
    · have e : b ≠ p := fun e => by
        subst e
        rcases h with h | ⟨_, h⟩ <;> (rw [n] at h; cases h)
      have := z.sub.r b u t h
      unfold Rd at *; rw [upd_ne e]; exact this
  fin := fun a h => by
    by_cases e : a = p
    · subst e; rw [upd_same] at h; cases h
    · rw [upd_ne e] at h; exact z.fin a h
/-- what was new since (H, F) and could change, changes -/
theorem Wd.mut {hs : List Addr} {H F H' F' : Hp} {p : Addr} (w : Wd hs H F H' F') (hn : H p = none) (hk : ∀ q ∈ hs, ∃ o, H q = some o) (o : HO) : Wd hs H F (upd H' p o) F' where
  keep := fun a u h k m => by rw [upd_ne (ne_of_none h hn)]; exact w.keep a u h k m
  fro := w.fro
  kt := fun a u h => by rw [upd_ne (ne_of_none h hn)]; exact w.kt a u h
  out2 := fun a u h k t => by rw [upd_ne (ne_of_none h hn)]; exact w.out2 a u h k t
  trk := fun a u h => by rw [upd_ne (ne_of_none h hn)]; exact w.trk a u h
  pen := fun q m h => by
    obtain ⟨u, e⟩ := hk q m
    exact (w.pen q m h).le (.refl _) (w.pen q m h).1 fun w' e' => by rw [upd_ne (ne_of_none e hn)]; exact e'
/-- .. now stands still -/
theorem Wd.stop {hs : List Addr} {H F H' F' : Hp} {p : Addr} {o : HO} (w : Wd hs H F H' F') (hn : H p = none) (hf : F' p = none) (hk : ∀ q ∈ hs, ∃ o, H q = some o) : Wd hs H F H' (upd F' p o) where
  keep := w.keep
  fro := w.fro.trans (.of (same_new hf o))
  kt := w.kt
  out2 := fun a u h k t => by rw [upd_ne (ne_of_none h hn)]; exact w.out2 a u h k t
  trk := w.trk
  pen := fun q m h => by
    obtain ⟨u, e⟩ := hk q m
    exact (w.pen q m h).le (.of (same_new hf o)) (by rw [upd_ne (ne_of_none e hn)]; exact (w.pen q m h).1) fun _ e => e
theorem Fz.stop {H F : Hp} {p : Addr} {o : HO} (z : Fz H F) (h : H p = some o) (hf : F p = none) : Fz H (upd F p o) where
  sub := by
    refine ⟨fun b xs k => ?_, fun b xs k => ?_, fun b u t k => ?_⟩
    · by_cases e : b = p
      · subst e; rw [upd_same] at k; rw [h]; exact k
      · rw [upd_ne e] at k; exact z.sub.l b xs k
    · by_cases e : b = p
      · subst e; rw [upd_same] at k; rw [h]; exact k
      · rw [upd_ne e] at k; exact z.sub.t b xs k
    · by_cases e : b = p
      · subst e; unfold Rd at *; rw [upd_same] at k; rw [h]; exact k
      · have := z.sub.r b u t
        unfold Rd at *; rw [upd_ne e] at k; exact this k
  fin := fun a k => by
    have e : a ≠ p := fun e => by subst e; rw [h] at k; cases k
    rw [upd_ne e]; exact z.fin a k
/-! slots -/
/-- a dict of one's own: keys ints and texts, or tuples of them -/
inductive DU where
  | k (kvs : List (Key × PyData))
  | t (kvs : List (List Key × PyData))
def DuR (K : PySem.W.Frag) (F : Hp) (u : HO) : DU → Prop
  | .k ds => ∃ kvs : List (Key × V), u = .dK kvs ∧ ds.map Prod.fst = kvs.map Prod.fst ∧ DdAll K F (kvs.map Prod.snd) (ds.map Prod.snd)
  | .t ds => ∃ kvs : List (List Key × V), u = .dT kvs ∧ ds.map Prod.fst = kvs.map Prod.fst ∧ DdAll K F (kvs.map Prod.snd) (ds.map Prod.snd)
theorem DuR.le {K : PySem.W.Frag} {F F' : Hp} {o : HO} (s : Le F F') : ∀ {u : DU}, DuR K F o u → DuR K F' o u
  | .k _, ⟨kvs, e, h, r⟩ => ⟨kvs, e, h, DdAll.le s r⟩
  | .t _, ⟨kvs, e, h, r⟩ => ⟨kvs, e, h, DdAll.le s r⟩
theorem DuR.nt {K : PySem.W.Frag} {F : Hp} {o : HO} : ∀ {u : DU}, DuR K F o u → NT o
  | .k _, ⟨_, e, _⟩ => by subst e; intro _ z; cases z
  | .t _, ⟨_, e, _⟩ => by subst e; intro _ z; cases z
theorem DuR.nl {K : PySem.W.Frag} {F : Hp} {xs : List V} : ∀ {u : DU}, DuR K F (.lst xs) u → False
  | .k _, ⟨_, e, _⟩ => by cases e
  | .t _, ⟨_, e, _⟩ => by cases e
inductive SV where
  /-- data that stands still -/
  | d (d : PyData)
  /-- a list of one's own, that none other holds -/
  | own (ds : List PyData)
  | pen
  /-- the script -/
  | scr (ns : List Int)
  /-- a list of the caller's own, lent -/
  | bor (ds : List PyData)
  /-- a dict of one's own -/
  | dct (u : DU)
abbrev Env' := List (Option SV)
structure Ctx where
  H0 : Hp
  F0 : Hp
  hs : List Addr
def SvR (K : PySem.W.Frag) (C : Ctx) (F H : Hp) (v : V) : SV → Prop
  | .d d => Dd K F v d
  | .own ds => ∃ a xs, v = .ref a ∧ C.H0 a = none ∧ F a = none ∧ H a = some (.lst xs) ∧ DdAll K F xs ds
  | .pen => ∃ p, v = .ref p ∧ p ∈ C.hs ∧ PenF F H p
  | .scr ns => ∃ a, v = .ref a ∧ ((a ∉ C.hs ∧ F a = none ∧ (∃ o, C.H0 a = some o) ∧ ∃ o, H a = some o ∧ (o = .lst (ns.map V.int) ∨ ∃ ob, o = .frz ob (.lst (ns.map V.int)))) ∨ ∀ H' : Hp, SqL K H' a (ns.map V.int))
  | .bor ds => ∃ a xs, v = .ref a ∧ a ∉ C.hs ∧ F a = none ∧ (∃ o, C.H0 a = some o) ∧ H a = some (.lst xs) ∧ DdAll K F xs ds
  | .dct u => ∃ a o, v = .ref a ∧ C.H0 a = none ∧ F a = none ∧ H a = some o ∧ DuR K F o u
structure At (K : PySem.W.Frag) (C : Ctx) (σ : L2.St) (H F : Hp) (E : Env') : Prop where
  w : Wd C.hs C.H0 C.F0 H F
  z : Fz H F
  ln : E.length = σ.length
  s : ∀ (i : Nat) sv, E[i]? = some (some sv) → ∃ v, σ[i]? = some (some v) ∧ SvR K C F H v sv
  dj : ∀ (i j : Nat) ds es v, i ≠ j → E[i]? = some (some (.own ds)) → E[j]? = some (some (.own es)) → σ[i]? = some (some v) → σ[j]? = some (some v) → False
  djd : ∀ (i j : Nat) u t v, i ≠ j → E[i]? = some (some (.dct u)) → E[j]? = some (some (.dct t)) → σ[i]? = some (some v) → σ[j]? = some (some v) → False
  hk : ∀ p ∈ C.hs, ∃ o, C.H0 p = some o
section
variable {K : PySem.W.Frag} {C : Ctx} {σ : L2.St} {H F H' F' : Hp} {E : Env'}
theorem SvR.step {v : V} {sv : SV} (h : SvR K C F H v sv) (hk : ∀ p ∈ C.hs, ∃ o, C.H0 p = some o) (w : Wd C.hs H F H' F') : SvR K C F' H' v sv := by
  cases sv with
  | d d => exact Dd.le w.fro h
  | own ds =>
    obtain ⟨a, xs, e, h0, hf, hh, hd⟩ := h
    have na : a ∉ C.hs := fun m => by
      obtain ⟨o, q⟩ := hk a m
      rw [h0] at q; cases q
    exact ⟨a, xs, e, h0, w.out a _ hh hf, w.keep a _ hh hf na, DdAll.le w.fro hd⟩
  | pen =>
    obtain ⟨p, e, m, h⟩ := h
    exact ⟨p, e, m, w.pen p m h⟩
  | scr ns =>
    obtain ⟨a, e, ⟨na, hf, h0, o, ho, q⟩ | h⟩ := h
    · exact ⟨a, e, .inl ⟨na, w.out a o ho hf (by rcases q with rfl | ⟨_, rfl⟩ <;> (intro _ z; cases z)), h0, o, w.keep a o ho hf na, q⟩⟩
    · exact ⟨a, e, .inr h⟩
  | bor ds =>
    obtain ⟨a, xs, e, na, hf, h0, hh, hd⟩ := h
    exact ⟨a, xs, e, na, w.out a _ hh hf, h0, w.keep a _ hh hf na, DdAll.le w.fro hd⟩
  | dct u =>
    obtain ⟨a, o, e, h0, hf, hh, hd⟩ := h
    have na : a ∉ C.hs := fun m => by
      obtain ⟨o, q⟩ := hk a m
      rw [h0] at q; cases q
    exact ⟨a, o, e, h0, w.out a _ hh hf hd.nt, w.keep a _ hh hf na, hd.le w.fro⟩
theorem At.step (I : At K C σ H F E) (w : Wd C.hs H F H' F') (z : Fz H' F') : At K C σ H' F' E where
  w := I.w.trans w
  z := z
  ln := I.ln
  s := fun i sv e => by
    obtain ⟨v, e1, r⟩ := I.s i sv e
    exact ⟨v, e1, r.step I.hk w⟩
  dj := I.dj
  djd := I.djd
  hk := I.hk
theorem set_get {α : Type} {l : List α} {i j : Nat} {x y : α} (h : (l.set i x)[j]? = some y) : (i = j ∧ y = x ∧ i < l.length) ∨ (i ≠ j ∧ l[j]? = some y) := by
  by_cases e : i = j
  · subst e
    by_cases lt : i < l.length
    · rw [List.getElem?_set_self lt] at h
      exact .inl ⟨rfl, (Option.some.inj h).symm, lt⟩
    · rw [List.getElem?_eq_none (by rw [List.length_set]; omega)] at h
      cases h
  · rw [List.getElem?_set_ne e] at h
    exact .inr ⟨e, h⟩
/-- a slot is stored -/
theorem At.set (I : At K C σ H F E) {i : Nat} {v : V} {sv : SV} (r : SvR K C F H v sv) (nd : ∀ j ds es, sv = .own ds → j ≠ i → E[j]? = some (some (.own es)) → σ[j]? = some (some v) → False) (nd2 : ∀ j u t, sv = .dct u → j ≠ i → E[j]? = some (some (.dct t)) → σ[j]? = some (some v) → False := by intro _ _ _ z; cases z) : At K C (σ.set i (some v)) H F (E.set i (some sv)) where
  w := I.w
  z := I.z
  ln := by rw [List.length_set, List.length_set, I.ln]
  s := fun j sw e => by
    rcases set_get e with ⟨rfl, e1, lt⟩ | ⟨ne, e1⟩
    · cases e1
      exact ⟨v, by rw [List.getElem?_set_self (by rw [← I.ln]; exact lt)], r⟩
    · obtain ⟨w, h1, h2⟩ := I.s j sw e1
      exact ⟨w, by rw [List.getElem?_set_ne ne]; exact h1, h2⟩
  dj := fun j k ds es u ne e1 e2 q1 q2 => by
    rcases set_get e1 with ⟨rfl, f1, lt⟩ | ⟨n1, f1⟩
    · rcases set_get e2 with ⟨rfl, _, _⟩ | ⟨n2, f2⟩
      · exact ne rfl
      · rw [List.getElem?_set_self (by rw [← I.ln]; exact lt)] at q1
        rw [List.getElem?_set_ne n2] at q2
        cases q1
        exact nd k ds es (Option.some.inj f1.symm) (Ne.symm n2) f2 q2
    · rcases set_get e2 with ⟨rfl, f2, lt⟩ | ⟨n2, f2⟩
      · rw [List.getElem?_set_self (by rw [← I.ln]; exact lt)] at q2
        rw [List.getElem?_set_ne n1] at q1
        cases q2
        exact nd j es ds (Option.some.inj f2.symm) (Ne.symm n1) f1 q1
      · rw [List.getElem?_set_ne n1] at q1
        rw [List.getElem?_set_ne n2] at q2
        exact I.dj j k ds es u ne f1 f2 q1 q2
  djd := fun j k ds es u ne e1 e2 q1 q2 => by
    rcases set_get e1 with ⟨rfl, f1, lt⟩ | ⟨n1, f1⟩
    · rcases set_get e2 with ⟨rfl, _, _⟩ | ⟨n2, f2⟩
      · exact ne rfl
      · rw [List.getElem?_set_self (by rw [← I.ln]; exact lt)] at q1
        rw [List.getElem?_set_ne n2] at q2
        cases q1
        exact nd2 k ds es (Option.some.inj f1.symm) (Ne.symm n2) f2 q2
    · rcases set_get e2 with ⟨rfl, f2, lt⟩ | ⟨n2, f2⟩
      · rw [List.getElem?_set_self (by rw [← I.ln]; exact lt)] at q2
        rw [List.getElem?_set_ne n1] at q1
        cases q2
        exact nd2 j es ds (Option.some.inj f2.symm) (Ne.symm n1) f1 q1
      · rw [List.getElem?_set_ne n1] at q1
        rw [List.getElem?_set_ne n2] at q2
        exact I.djd j k ds es u ne f1 f2 q1 q2
  hk := I.hk
theorem At.setD (I : At K C σ H F E) {i : Nat} {v : V} {d : PyData} (r : Dd K F v d) : At K C (σ.set i (some v)) H F (E.set i (some (.d d))) := I.set r fun _ _ _ h => nomatch h
/-- a slot is forgotten -/
theorem At.drop (I : At K C σ H F E) (i : Nat) : At K C (σ.set i none) H F (E.set i none) where
  w := I.w
  z := I.z
  ln := by rw [List.length_set, List.length_set, I.ln]
  s := fun j sw e => by
    rcases set_get e with ⟨rfl, e1, lt⟩ | ⟨ne, e1⟩
    · cases e1
    · obtain ⟨w, h1, h2⟩ := I.s j sw e1
      exact ⟨w, by rw [List.getElem?_set_ne ne]; exact h1, h2⟩
  dj := fun j k ds es u ne e1 e2 q1 q2 => by
    rcases set_get e1 with ⟨rfl, f1, lt⟩ | ⟨n1, f1⟩
    · cases f1
    · rcases set_get e2 with ⟨rfl, f2, lt⟩ | ⟨n2, f2⟩
      · cases f2
      · rw [List.getElem?_set_ne n1] at q1
        rw [List.getElem?_set_ne n2] at q2
        exact I.dj j k ds es u ne f1 f2 q1 q2
  djd := fun j k ds es u ne e1 e2 q1 q2 => by
    rcases set_get e1 with ⟨rfl, f1, lt⟩ | ⟨n1, f1⟩
    · cases f1
    · rcases set_get e2 with ⟨rfl, f2, lt⟩ | ⟨n2, f2⟩
      · cases f2
      · rw [List.getElem?_set_ne n1] at q1
        rw [List.getElem?_set_ne n2] at q2
        exact I.djd j k ds es u ne f1 f2 q1 q2
  hk := I.hk
def wipeE (E : Env') : List Nat → Env'
  | [] => E
  | v :: vs => (wipeE E vs).set v none
theorem At.wipe (I : At K C σ H F E) : ∀ vs : List Nat, At K C (wipe σ vs) H F (wipeE E vs)
  | [] => I
  | v :: vs => (At.wipe I vs).drop v
/-- a list of one's own changes -/
theorem At.mut (I : At K C σ H F E) {i : Nat} {ds es : List PyData} {a : Addr} {xs ys : List V} (e : E[i]? = some (some (.own ds))) (hv : σ[i]? = some (some (.ref a))) (hh : H a = some (.lst xs)) (h0 : C.H0 a = none) (hf : F a = none) (r : DdAll K F ys es) :
    At K C σ (upd H a (.lst ys)) F (E.set i (some (.own es))) where
  w := I.w.mut h0 I.hk _
  z := I.z.newO hf _
  ln := by rw [List.length_set, I.ln]
  s := fun j sw e' => by
    rcases set_get e' with ⟨rfl, e1, lt⟩ | ⟨ne, e1⟩
    · cases e1
      exact ⟨_, hv, a, ys, rfl, h0, hf, upd_same, r⟩
    · obtain ⟨w, h1, h2⟩ := I.s j sw e1
      refine ⟨w, h1, ?_⟩
      cases sw with
      | d d => exact h2
      | own fs =>
        obtain ⟨b, zs, rfl, k0, kf, kh, kd⟩ := h2
        have nb : b ≠ a := fun z => by subst z; exact I.dj i j ds fs _ ne e e1 hv h1
        exact ⟨b, zs, rfl, k0, kf, by rw [upd_ne nb]; exact kh, kd⟩
      | pen =>
        obtain ⟨p, rfl, m, hp⟩ := h2
        obtain ⟨u, q⟩ := I.hk p m
        exact ⟨p, rfl, m, hp.le (.refl _) hp.1 fun o ho => by rw [upd_ne (ne_of_none q h0)]; exact ho⟩
      | scr ns =>
        obtain ⟨b, rfl, ⟨nb, kf, ⟨u, k0⟩, o, ho, q⟩ | h⟩ := h2
        · exact ⟨b, rfl, .inl ⟨nb, kf, ⟨u, k0⟩, o, by rw [upd_ne (ne_of_none k0 h0)]; exact ho, q⟩⟩
        · exact ⟨b, rfl, .inr h⟩
      | bor fs =>
        obtain ⟨b, zs, rfl, nb, kf, ⟨u, k0⟩, kh, kd⟩ := h2
        exact ⟨b, zs, rfl, nb, kf, ⟨u, k0⟩, by rw [upd_ne (ne_of_none k0 h0)]; exact kh, kd⟩
      | dct u =>
        obtain ⟨b, o, rfl, k0, kf, kh, kd⟩ := h2
        have nb : b ≠ a := fun z => by
          subst z; rw [hh] at kh; cases kh
          exact kd.nl
        exact ⟨b, o, rfl, k0, kf, by rw [upd_ne nb]; exact kh, kd⟩
  dj := fun j k fs gs u ne e1 e2 q1 q2 => by
    have own : ∀ (m : Nat) (ts : List PyData), (E.set i (some (SV.own es)))[m]? = some (some (SV.own ts)) → ∃ us : List PyData, E[m]? = some (some (SV.own us)) := fun m ts q => by
      rcases set_get q with ⟨rfl, _, _⟩ | ⟨_, q⟩
      · exact ⟨ds, e⟩
      · exact ⟨ts, q⟩
    obtain ⟨us, e1'⟩ := own j fs e1
    obtain ⟨ws, e2'⟩ := own k gs e2
    exact I.dj j k us ws u ne e1' e2' q1 q2
  djd := fun j k fs gs u ne e1 e2 q1 q2 => by
    rcases set_get e1 with ⟨rfl, z, _⟩ | ⟨_, f1⟩
    · cases z
    · rcases set_get e2 with ⟨rfl, z, _⟩ | ⟨_, f2⟩
      · cases z
      · exact I.djd j k fs gs u ne f1 f2 q1 q2
  hk := I.hk
/-- a dict of one's own changes -/
theorem At.mutD (I : At K C σ H F E) {i : Nat} {u u' : DU} {a : Addr} {o o' : HO} (e : E[i]? = some (some (.dct u))) (hv : σ[i]? = some (some (.ref a))) (hh : H a = some o) (h0 : C.H0 a = none) (hf : F a = none) (r : DuR K F o u) (r' : DuR K F o' u') :
    At K C σ (upd H a o') F (E.set i (some (.dct u'))) where
  w := I.w.mut h0 I.hk _
  z := I.z.newO hf _
  ln := by rw [List.length_set, I.ln]
  s := fun j sw e' => by
    rcases set_get e' with ⟨rfl, e1, lt⟩ | ⟨ne, e1⟩
    · cases e1
      exact ⟨_, hv, a, o', rfl, h0, hf, upd_same, r'⟩
    · obtain ⟨w, h1, h2⟩ := I.s j sw e1
      refine ⟨w, h1, ?_⟩
      cases sw with
      | d d => exact h2
      | own fs =>
        obtain ⟨b, zs, rfl, k0, kf, kh, kd⟩ := h2
        have nb : b ≠ a := fun z => by
          subst z; rw [hh] at kh; cases kh
          exact r.nl
        exact ⟨b, zs, rfl, k0, kf, by rw [upd_ne nb]; exact kh, kd⟩
      | pen =>
        obtain ⟨p, rfl, m, hp⟩ := h2
        obtain ⟨u, q⟩ := I.hk p m
        exact ⟨p, rfl, m, hp.le (.refl _) hp.1 fun o ho => by rw [upd_ne (ne_of_none q h0)]; exact ho⟩
      | scr ns =>
        obtain ⟨b, rfl, ⟨nb, kf, ⟨u, k0⟩, o, ho, q⟩ | h⟩ := h2
        · exact ⟨b, rfl, .inl ⟨nb, kf, ⟨u, k0⟩, o, by rw [upd_ne (ne_of_none k0 h0)]; exact ho, q⟩⟩
        · exact ⟨b, rfl, .inr h⟩
      | bor fs =>
        obtain ⟨b, zs, rfl, nb, kf, ⟨u, k0⟩, kh, kd⟩ := h2
        exact ⟨b, zs, rfl, nb, kf, ⟨u, k0⟩, by rw [upd_ne (ne_of_none k0 h0)]; exact kh, kd⟩
      | dct t =>
        obtain ⟨b, q, rfl, k0, kf, kh, kd⟩ := h2
        have nb : b ≠ a := fun z => by subst z; exact I.djd i j u t _ ne e e1 hv h1
        exact ⟨b, q, rfl, k0, kf, by rw [upd_ne nb]; exact kh, kd⟩
  dj := fun j k fs gs x ne e1 e2 q1 q2 => by
    rcases set_get e1 with ⟨rfl, z, _⟩ | ⟨_, f1⟩
    · cases z
    · rcases set_get e2 with ⟨rfl, z, _⟩ | ⟨_, f2⟩
      · cases z
      · exact I.dj j k fs gs x ne f1 f2 q1 q2
  djd := fun j k fs gs x ne e1 e2 q1 q2 => by
    have own : ∀ (m : Nat) (t : DU), (E.set i (some (SV.dct u')))[m]? = some (some (SV.dct t)) → ∃ t : DU, E[m]? = some (some (SV.dct t)) := fun m t q => by
      rcases set_get q with ⟨rfl, _, _⟩ | ⟨_, q⟩
      · exact ⟨u, e⟩
      · exact ⟨t, q⟩
    obtain ⟨us, e1'⟩ := own j fs e1
    obtain ⟨ws, e2'⟩ := own k gs e2
    exact I.djd j k us ws x ne e1' e2' q1 q2
  hk := I.hk
/-- tuples that are there stand still -/
def withT (H F : Hp) (bs : List Addr) : Hp := fun a => if a ∈ bs then H a else F a
theorem withT_at {bs : List Addr} {b : Addr} (m : b ∈ bs) : withT H F bs b = H b := if_pos m
theorem withT_le {bs : List Addr} (z : Fz H F) (h : ∀ b ∈ bs, ∃ xs, H b = some (.tup xs)) : Le F (withT H F bs) := by
  refine ⟨fun b xs e => ?_, fun b xs e => ?_, fun b u t e => ?_⟩
  · unfold withT
    split
    · exact z.sub.l b xs e
    · exact e
  · unfold withT
    split
    · exact z.sub.t b xs e
    · exact e
  · by_cases c : b ∈ bs
    · have q := z.sub.r b u t e
      unfold Rd at *; rw [withT_at c]; exact q
    · have : withT H F bs b = F b := if_neg c
      unfold Rd at *; rw [this]; exact e
theorem Wd.tups {hs bs : List Addr} (z : Fz H F) (h : ∀ b ∈ bs, ∃ xs, H b = some (.tup xs)) : Wd hs H F H (withT H F bs) ∧ Fz H (withT H F bs) := by
  have ne : ∀ a o, H a = some o → NT o → a ∉ bs := fun a o e t m => by
    obtain ⟨xs, e2⟩ := h a m
    rw [e] at e2; cases e2
    exact t _ rfl
  refine ⟨⟨fun _ _ h _ _ => h, withT_le z h, fun _ _ h => h, fun a o e n t => ⟨?_, fun _ e' => nt_same (e.symm.trans e') t⟩, fun _ o h => ⟨o, h⟩, fun p _ hp => ?_⟩, ⟨⟨fun b xs e => ?_, fun b xs e => ?_, fun b u t e => ?_⟩, fun a e => ?_⟩⟩
  · unfold withT; rw [if_neg (ne a o e t)]; exact n
  · obtain ⟨n, c, ns, i, m, e, ec⟩ := hp
    refine ⟨?_, c, ns, i, m, e, (withT_le z h).l _ _ ec⟩
    unfold withT; rw [if_neg (ne p _ e (by intro _ z; cases z))]; exact n
  · unfold withT at e
    split at e
    · exact e
    · exact z.sub.l b xs e
  · unfold withT at e
    split at e
    · exact e
    · exact z.sub.t b xs e
  · by_cases c : b ∈ bs
    · unfold Rd at *; rw [withT_at c] at e; exact e
    · have : withT H F bs b = F b := if_neg c
      refine z.sub.r b u t ?_
      unfold Rd at *; rw [this] at e; exact e
  · unfold withT
    split
    · exact e
    · exact z.fin a e
end
end Dl

namespace Dl
open PySem PySem.Spec PyProof.Rows L2 Vx
abbrev FE := Env' → (PyData → Prop) → Prop
abbrev FT := Env' → (Bool → Prop) → Prop
abbrev FL := Env' → (List PyData → Prop) → Prop
/-- data, or a list of one's own -/
def OwR (K : PySem.W.Frag) (hs : List Addr) (H F : Hp) (v : V) (d : PyData) : Prop := Dd K F v d ∨ ∃ a xs ds, v = .ref a ∧ d = .list ds ∧ a ∉ hs ∧ F a = none ∧ H a = some (.lst xs) ∧ DdAll K F xs ds
theorem OwR.step {K : PySem.W.Frag} {hs : List Addr} {H F H' F' : Hp} {v : V} {d : PyData} (h : OwR K hs H F v d) (w : Wd hs H F H' F') : OwR K hs H' F' v d := by
  rcases h with h | ⟨a, xs, ds, rfl, rfl, na, hf, hh, hd⟩
  · exact .inl (Dd.le w.fro h)
  · exact .inr ⟨a, xs, ds, rfl, rfl, na, w.out a _ hh hf, w.keep a _ hh hf na, DdAll.le w.fro hd⟩
/-- as data in the whole heap -/
theorem OwR.all {K : PySem.W.Frag} {hs : List Addr} {H F : Hp} {v : V} {d : PyData} (h : OwR K hs H F v d) (z : Fz H F) : Dd K H v d := by
  rcases h with h | ⟨a, xs, ds, rfl, rfl, na, hf, hh, hd⟩
  · exact Dd.le z.sub h
  · exact .lst hh (DdAll.le z.sub hd)
/-! readings by data -/
def tE (K : PySem.W.Frag) (f : FE) : TE := fun σ H Q => ∃ C F E Qd, At K C σ H F E ∧ f E Qd ∧ ∀ v H' F' d, Wd C.hs H F H' F' → Fz H' F' → Dd K F' v d → Qd d → Q v H'
def tH (K : PySem.W.Frag) (f : FE) : TE := fun σ H Q => ∃ C F E Qd, At K C σ H F E ∧ f E Qd ∧ ∀ v H' F' d, Wd C.hs H F H' F' → Fz H' F' → OwR K C.hs H' F' v d → Qd d → Q v H'
def tF (K : PySem.W.Frag) (f : FL) : TE := fun σ H Q => ∃ C F E Qd, At K C σ H F E ∧ f E Qd ∧ ∀ a xs H' F' ds, H a = none → Wd C.hs H F H' F' → Fz H' F' → F' a = none → H' a = some (.lst xs) → DdAll K F' xs ds → Qd ds → Q (.ref a) H'
def tT (K : PySem.W.Frag) (f : FT) : TT := fun σ H Q => ∃ C F E Qd, At K C σ H F E ∧ f E Qd ∧ ∀ b H' F', Wd C.hs H F H' F' → Fz H' F' → Qd b → Q b H'
abbrev pD (X : Cx) (e : Expr) (f : FE) : Prop := PE X e (tE X.K f)
abbrev pH (X : Cx) (e : Expr) (f : FE) : Prop := PE X e (tH X.K f)
abbrev pF (X : Cx) (e : Expr) (f : FL) : Prop := PE X e (tF X.K f)
abbrev pT (X : Cx) (e : Expr) (f : FT) : Prop := PT X e (tT X.K f)
abbrev pW (X : Cx) (e : Expr) (f : FT) : Prop := PW X e (tT X.K f)
theorem PT.imp {X : Cx} {e : Expr} {t t' : TT} (h : PT X e t) (k : ∀ σ H Q, t' σ H Q → t σ H Q) : PT X e t' := ⟨fun pins s σ H Q I w => h.run pins s σ H Q I (k σ H Q w)⟩
theorem PW.imp {X : Cx} {e : Expr} {t t' : TT} (h : PW X e t) (k : ∀ σ H Q, t' σ H Q → t σ H Q) : PW X e t' := ⟨fun wh pins s σ H Q I w => h.run wh pins s σ H Q I (k σ H Q w)⟩
section
variable {X : Cx} {a b c e : Expr} {fa fb fc f : FE} {pos : Pos}
theorem ph_of (h : pD X e f) : pH X e f := PE.imp h fun σ H Q ⟨C, F, E, Qd, I, q, k⟩ => ⟨C, F, E, Qd, I, q, fun v H' F' d w z r => k v H' F' d w z (.inl r)⟩
/-- a list just made stands still from now on -/
theorem Wd.rest {hs : List Addr} {H F H' F' : Hp} {a : Addr} {o : HO} (w : Wd hs H F H' F') (n : H a = none) (nf : F' a = none) : Wd hs H F H' (upd F' a o) where
  keep := w.keep
  fro := w.fro.trans (.of (same_new nf o))
  kt := w.kt
  out2 := fun b u h k t => by rw [upd_ne (ne_of_none h n)]; exact w.out2 b u h k t
  trk := w.trk
  pen := fun q m h => by
    obtain ⟨u, e⟩ := h.there
    have k := w.pen q m h
    exact k.le (.of (same_new nf o)) (by rw [upd_ne (ne_of_none e n)]; exact k.1) fun _ e => e
theorem pd_new {g : FL} (h : pF X e g) : pD X e (fun E Q => g E fun ds => Q (.list ds)) := PE.imp h fun σ H Q ⟨C, F, E, Qd, I, q, k⟩ => ⟨C, F, E, _, I, q, fun a xs H' F' ds n w z nf hh hd q2 => by
  have s : Le F' (upd F' a (.lst xs)) := .of (same_new nf _)
  exact k (.ref a) H' (upd F' a (.lst xs)) (.list ds) (w.rest n nf) (z.stop hh nf) (.lst upd_same (DdAll.le s hd)) q2⟩
/-! names, constants -/
def wVar (i : Nat) : FE := fun E Q => match E[i]? with
  | some (some (.d d)) => Q d
  | _ => False
def wVarH (i : Nat) : FE := fun E Q => match E[i]? with
  | some (some (.d d)) => Q d
  | some (some (.own ds)) => Q (.list ds)
  | some (some (.bor ds)) => Q (.list ds)
  | _ => False
theorem pd_var {i : Nat} (h : PE X e (tVar i)) : pD X e (wVar i) := PE.imp h fun σ H Q ⟨C, F, E, Qd, I, q, k⟩ => by
  unfold wVar at q
  split at q
  · rename_i d hd
    obtain ⟨v, hv, r⟩ := I.s i _ hd
    exact ⟨v, hv, k v H F d (.refl _ _ _) I.z r q⟩
  · exact q.elim
theorem ph_var {i : Nat} (h : PE X e (tVar i)) : pH X e (wVarH i) := PE.imp h fun σ H Q ⟨C, F, E, Qd, I, q, k⟩ => by
  unfold wVarH at q
  split at q
  · rename_i d hd
    obtain ⟨v, hv, r⟩ := I.s i _ hd
    exact ⟨v, hv, k v H F d (.refl _ _ _) I.z (.inl r) q⟩
  · rename_i ds hd
    obtain ⟨v, hv, a, xs, e, h0, hf, hh, r⟩ := I.s i _ hd
    refine ⟨v, hv, k v H F _ (.refl _ _ _) I.z (.inr ⟨a, xs, ds, e, rfl, fun m => ?_, hf, hh, r⟩) q⟩
    obtain ⟨o, z⟩ := I.hk a m
    rw [h0] at z; cases z
  · rename_i ds hd
    obtain ⟨v, hv, a, xs, e, na, hf, h0, hh, r⟩ := I.s i _ hd
    exact ⟨v, hv, k v H F _ (.refl _ _ _) I.z (.inr ⟨a, xs, ds, e, rfl, na, hf, hh, r⟩) q⟩
  · exact q.elim
def wC (d : PyData) : FE := fun _ Q => Q d
theorem pd_const {v : V} {d : PyData} (h : PE X e (tC v)) (hd : ∀ F, Dd X.K F v d) : pD X e (wC d) := PE.imp h fun σ H Q ⟨C, F, E, Qd, I, q, k⟩ => k v H F d (.refl _ _ _) I.z (hd F) q
theorem pd_int {i j pos} : pD X (.Constant (.int i) j pos) (wC (.int i)) := pd_const pe_int fun _ => .int i
theorem pd_str {i j pos} : pD X (.Constant (.str i) j pos) (wC (.str i)) := pd_const pe_str fun _ => .str i
theorem pd_bl {i j pos} : pD X (.Constant (.bool i) j pos) (wC (.bool i)) := pd_const pe_bl fun _ => .bl i
theorem pd_non {j pos} : pD X (.Constant .none j pos) (wC .none) := pd_const pe_non fun _ => .non
/-! operators by data -/
def OpD (K : PySem.W.Frag) (r : R2) (g : PyData → PyData → (PyData → Prop) → Prop) : Prop :=
  ∀ hs H F x y d e Qd Q, Fz H F → OwR K hs H F x d → OwR K hs H F y e → g d e Qd → (∀ v H' F' d, Wd hs H F H' F' → Fz H' F' → Dd K F' v d → Qd d → Q v H') → r x y H Q
def wOp (g : PyData → PyData → (PyData → Prop) → Prop) (fa fb : FE) : FE := fun E Q => fa E fun x => fb E fun y => g x y Q
theorem op_imp {K : PySem.W.Frag} {r : R2} {g : PyData → PyData → (PyData → Prop) → Prop} (o : OpD K r g) : ∀ σ H Q, tE K (wOp g fa fb) σ H Q → tOp r (tH K fa) (tH K fb) σ H Q := fun σ H Q ⟨C, F, E, Qd, I, q, k⟩ =>
  ⟨C, F, E, _, I, q, fun x H1 F1 d w1 z1 r1 q1 => ⟨C, F1, E, _, I.step w1 z1, q1, fun y H2 F2 e w2 z2 r2 q2 =>
    o C.hs H2 F2 x y d e Qd Q z2 (r1.step w2) r2 q2 fun v H' F' d w z => k v H' F' d (w1.trans (w2.trans w)) z⟩⟩
theorem pd_op {op : Operator} {r : R2} {g : PyData → PyData → (PyData → Prop) → Prop} (ho : OpR X (binaryOp op) r) (hg : OpD X.K r g) (ha : pH X a fa) (hb : pH X b fb) : pD X (.BinOp a op b pos) (wOp g fa fb) := PE.imp (pe_op ho ha hb) (op_imp hg)
theorem pd_cmp {op : CmpOp} {r : R2} {g : PyData → PyData → (PyData → Prop) → Prop} (ho : OpR X (compareOp op) r) (hg : OpD X.K r g) (ha : pH X a fa) (hb : pH X b fb) (hm : behindInMarks op b = false) : pD X (.Compare a [op] [b] pos) (wOp g fa fb) := PE.imp (pe_cmpR ho ha hb hm) (op_imp hg)
theorem pd_ix {r : R2} {g : PyData → PyData → (PyData → Prop) → Prop} (ho : IxR X r) (hg : OpD X.K r g) (ha : pH X a fa) (hb : pH X b fb) (hs : PlainIx b) : pD X (.Subscript a b pos) (wOp g fa fb) := PE.imp (pe_ix ho ha hb hs) (op_imp hg)
def gB (f : FE) : FT := fun E Q => f E fun d => match d with
  | .bool b => Q b
  | _ => False
theorem Dd.bool {K : PySem.W.Frag} {F : Hp} {v : V} {b : Bool} (h : Dd K F v (.bool b)) : v = .bl b := by cases h; rfl
theorem Dd.inte {K : PySem.W.Frag} {F : Hp} {v : V} {b : Int} (h : Dd K F v (.int b)) : v = .int b := by cases h; rfl
theorem Dd.stre {K : PySem.W.Frag} {F : Hp} {v : V} {b : Str} (h : Dd K F v (.str b)) : v = .str b := by cases h; rfl
theorem val_imp {K : PySem.W.Frag} : ∀ σ H Q, tT K (gB f) σ H Q → tB (tE K f) σ H Q := fun σ H Q ⟨C, F, E, Qd, I, q, k⟩ =>
  ⟨C, F, E, _, I, q, fun v H' F' d w z r q1 => by
    cases d with
    | bool b => exact ⟨b, r.bool, k b H' F' w z q1⟩
    | _ => exact q1.elim⟩
theorem pt_cmpD {op : CmpOp} {r : R2} {g : PyData → PyData → (PyData → Prop) → Prop} (ho : OpR X (compareOp op) r) (hg : OpD X.K r g) (ha : pH X a fa) (hb : pH X b fb) (hm : behindInMarks op b = false) : pT X (.Compare a [op] [b] pos) (gB (wOp g fa fb)) :=
  PT.imp (pt_cmpR ho ha hb hm) fun σ H Q ⟨C, F, E, Qd, I, q, k⟩ => op_imp hg σ H _ ⟨C, F, E, _, I, q, fun v H' F' d w z r q1 => by
    cases d with
    | bool b => exact ⟨b, r.bool, k b H' F' w z q1⟩
    | _ => exact q1.elim⟩
theorem pt_valD (h : pD X e f) (he : ∀ whole, isTrue e X.env whole = (do let v ← whole; standAt e.pos; holding [v] (truthy v)) := by intro _; rfl) : pT X e (gB f) := PT.imp (pt_val h he) val_imp
/-! and, or, not -/
variable {ta tb : FT} {rest : List Expr}
def wAnd (f g : FT) : FT := fun E Q => f E fun c => if c = true then g E Q else Q false
def wOr (f g : FT) : FT := fun E Q => f E fun c => if c = true then Q true else g E Q
def wNot (f : FT) : FT := fun E Q => f E fun c => Q (!c)
theorem pw_and1D (ha : pT X a ta) : pW X (.BoolOp .And [a] pos) ta := pw_and1 ha
theorem pw_or1D (ha : pT X a ta) : pW X (.BoolOp .Or [a] pos) ta := pw_or1 ha
theorem pw_andD (ha : pT X a ta) (hb : pW X (.BoolOp .And (b :: rest) pos) tb) : pW X (.BoolOp .And (a :: b :: rest) pos) (wAnd ta tb) := PW.imp (pw_and ha hb) fun σ H Q ⟨C, F, E, Qd, I, q, k⟩ =>
  ⟨C, F, E, _, I, q, fun c H1 F1 w1 z1 q1 => by
    cases c with
    | true => exact ⟨C, F1, E, _, I.step w1 z1, q1, fun c H2 F2 w2 z2 q2 => k c H2 F2 (w1.trans w2) z2 q2⟩
    | false => exact k false H1 F1 w1 z1 q1⟩
theorem pw_orD (ha : pT X a ta) (hb : pW X (.BoolOp .Or (b :: rest) pos) tb) : pW X (.BoolOp .Or (a :: b :: rest) pos) (wOr ta tb) := PW.imp (pw_or ha hb) fun σ H Q ⟨C, F, E, Qd, I, q, k⟩ =>
  ⟨C, F, E, _, I, q, fun c H1 F1 w1 z1 q1 => by
    cases c with
    | false => exact ⟨C, F1, E, _, I.step w1 z1, q1, fun c H2 F2 w2 z2 q2 => k c H2 F2 (w1.trans w2) z2 q2⟩
    | true => exact k true H1 F1 w1 z1 q1⟩
theorem pt_notD (ha : pT X a ta) : pT X (.UnaryOp .Not a pos) (wNot ta) := PT.imp (pt_not ha) fun σ H Q ⟨C, F, E, Qd, I, q, k⟩ =>
  ⟨C, F, E, _, I, q, fun c H1 F1 w1 z1 q1 => k (!c) H1 F1 w1 z1 q1⟩
theorem pt_ofW (h : pW X e ta) : pT X e ta := h.pt
/-- .. as values -/
def wAndV (f g : FE) : FE := fun E Q => f E fun d => match d with
  | .bool c => if c = true then g E Q else Q (.bool false)
  | _ => False
def wOrV (f g : FE) : FE := fun E Q => f E fun d => match d with
  | .bool c => if c = true then Q (.bool true) else g E Q
  | _ => False
def wNotV (f : FE) : FE := fun E Q => f E fun d => match d with
  | .bool c => Q (.bool (!c))
  | _ => False
theorem pd_one {op} (h : pD X a fa) : pD X (.BoolOp op [a] pos) fa := pe_one h
theorem pd_and (ha : pD X a fa) (hb : pD X (.BoolOp .And (b :: rest) pos) fb) : pD X (.BoolOp .And (a :: b :: rest) pos) (wAndV fa fb) := PE.imp (pe_and ha hb) fun σ H Q ⟨C, F, E, Qd, I, q, k⟩ =>
  ⟨C, F, E, _, I, q, fun v H1 F1 d w1 z1 r1 q1 => by
    cases d with
    | bool c =>
      refine ⟨c, r1.bool, ?_⟩
      cases c with
      | true => exact ⟨C, F1, E, _, I.step w1 z1, q1, fun v H2 F2 d w2 z2 r2 q2 => k v H2 F2 d (w1.trans w2) z2 r2 q2⟩
      | false => exact k _ H1 F1 _ w1 z1 (.bl false) q1
    | _ => exact q1.elim⟩
theorem pd_or (ha : pD X a fa) (hb : pD X (.BoolOp .Or (b :: rest) pos) fb) : pD X (.BoolOp .Or (a :: b :: rest) pos) (wOrV fa fb) := PE.imp (pe_or ha hb) fun σ H Q ⟨C, F, E, Qd, I, q, k⟩ =>
  ⟨C, F, E, _, I, q, fun v H1 F1 d w1 z1 r1 q1 => by
    cases d with
    | bool c =>
      refine ⟨c, r1.bool, ?_⟩
      cases c with
      | false => exact ⟨C, F1, E, _, I.step w1 z1, q1, fun v H2 F2 d w2 z2 r2 q2 => k v H2 F2 d (w1.trans w2) z2 r2 q2⟩
      | true => exact k _ H1 F1 _ w1 z1 (.bl true) q1
    | _ => exact q1.elim⟩
theorem pd_not (ha : pD X a fa) : pD X (.UnaryOp .Not a pos) (wNotV fa) := PE.imp (pe_not ha) fun σ H Q ⟨C, F, E, Qd, I, q, k⟩ =>
  ⟨C, F, E, _, I, q, fun v H1 F1 d w1 z1 r1 q1 => by
    cases d with
    | bool c => exact ⟨c, r1.bool, k _ H1 F1 _ w1 z1 (.bl _) q1⟩
    | _ => exact q1.elim⟩
def wIf (t : FT) (f g : FE) : FE := fun E Q => t E fun c => if c = true then f E Q else g E Q
theorem pd_ifExp (hc : pT X c ta) (ha : pD X a fa) (hb : pD X b fb) : pD X (.IfExp c a b pos) (wIf ta fa fb) := PE.imp (pe_ifExp hc ha hb) fun σ H Q ⟨C, F, E, Qd, I, q, k⟩ =>
  ⟨C, F, E, _, I, q, fun c H1 F1 w1 z1 q1 => by
    cases c with
    | true => exact ⟨C, F1, E, _, I.step w1 z1, q1, fun v H2 F2 d w2 z2 r2 q2 => k v H2 F2 d (w1.trans w2) z2 r2 q2⟩
    | false => exact ⟨C, F1, E, _, I.step w1 z1, q1, fun v H2 F2 d w2 z2 r2 q2 => k v H2 F2 d (w1.trans w2) z2 r2 q2⟩⟩
/-! a chain of comparisons: the middle once -/
def wChain (g g' : PyData → PyData → (PyData → Prop) → Prop) (fa fb fc : FE) : FE := fun E Q => fa E fun x => fb E fun y => g x y fun d => match d with
  | .bool c => if c = true then fc E fun z => g' y z Q else Q (.bool false)
  | _ => False
end
/-! arguments -/
abbrev FA := Env' → (List SV → Prop) → Prop
def SvA (K : PySem.W.Frag) (hs : List Addr) (H F : Hp) (v : V) : SV → Prop
  | .d d => Dd K F v d
  | .own _ => False
  | .pen => ∃ p, v = .ref p ∧ p ∈ hs ∧ PenF F H p
  | .scr _ => False
  | .bor ds => ∃ a xs, v = .ref a ∧ a ∉ hs ∧ F a = none ∧ H a = some (.lst xs) ∧ DdAll K F xs ds
  | .dct _ => False
inductive SvAs (K : PySem.W.Frag) (hs : List Addr) (H F : Hp) : List V → List SV → Prop
  | nil : SvAs K hs H F [] []
  | cons {v : V} {vs : List V} {s : SV} {ss : List SV} : SvA K hs H F v s → SvAs K hs H F vs ss → SvAs K hs H F (v :: vs) (s :: ss)
theorem SvA.step {K : PySem.W.Frag} {hs : List Addr} {H F H' F' : Hp} (w : Wd hs H F H' F') : ∀ {v : V} {s : SV}, SvA K hs H F v s → SvA K hs H' F' v s
  | _, .d _, h => Dd.le w.fro h
  | _, .own _, h => h
  | _, .pen, ⟨p, e, m, h⟩ => ⟨p, e, m, w.pen p m h⟩
  | _, .bor _, ⟨a, xs, e, na, hf, hh, hd⟩ => ⟨a, xs, e, na, w.out a _ hh hf, w.keep a _ hh hf na, DdAll.le w.fro hd⟩
  | _, .scr _, h => h
  | _, .dct _, h => h
theorem SvAs.step {K : PySem.W.Frag} {hs : List Addr} {H F H' F' : Hp} (w : Wd hs H F H' F') : ∀ {vs : List V} {ss : List SV}, SvAs K hs H F vs ss → SvAs K hs H' F' vs ss
  | _, _, .nil => .nil
  | _, _, .cons a r => .cons (a.step w) (SvAs.step w r)
theorem SvAs.len {K : PySem.W.Frag} {hs : List Addr} {H F : Hp} : ∀ {vs : List V} {ss : List SV}, SvAs K hs H F vs ss → vs.length = ss.length
  | _, _, .nil => rfl
  | _, _, .cons _ r => congrArg (· + 1) (SvAs.len r)
def tAr (K : PySem.W.Frag) (f : FA) : TA := fun σ H Q => ∃ C F E Qd, At K C σ H F E ∧ f E Qd ∧ ∀ vs H' F' ss, Wd C.hs H F H' F' → Fz H' F' → SvAs K C.hs H' F' vs ss → Qd ss → Q vs H'
abbrev pA (X : Cx) (es : List Expr) (f : FA) : Prop := PA X es (tAr X.K f)
/-- one argument -/
abbrev FV := Env' → (SV → Prop) → Prop
def tV (K : PySem.W.Frag) (f : FV) : TE := fun σ H Q => ∃ C F E Qd, At K C σ H F E ∧ f E Qd ∧ ∀ v H' F' s, Wd C.hs H F H' F' → Fz H' F' → SvA K C.hs H' F' v s → Qd s → Q v H'
abbrev pV (X : Cx) (e : Expr) (f : FV) : Prop := PE X e (tV X.K f)
section
variable {X : Cx} {a b c e : Expr} {es : List Expr} {f : FE} {fv : FV} {fa : FA} {pos : Pos}
def vD (f : FE) : FV := fun E Q => f E fun d => Q (.d d)
def vVar (i : Nat) : FV := fun E Q => match E[i]? with
  | some (some (.d d)) => Q (.d d)
  | some (some .pen) => Q .pen
  | some (some (.own ds)) => Q (.bor ds)
  | some (some (.bor ds)) => Q (.bor ds)
  | _ => False
theorem pv_d (h : pD X e f) : pV X e (vD f) := PE.imp h fun σ H Q ⟨C, F, E, Qd, I, q, k⟩ => ⟨C, F, E, _, I, q, fun v H' F' d w z r q => k v H' F' (.d d) w z r q⟩
theorem pv_var {i : Nat} (h : PE X e (tVar i)) : pV X e (vVar i) := PE.imp h fun σ H Q ⟨C, F, E, Qd, I, q, k⟩ => by
  unfold vVar at q
  split at q
  · rename_i d hd
    obtain ⟨v, hv, r⟩ := I.s i _ hd
    exact ⟨v, hv, k v H F (.d d) (.refl _ _ _) I.z r q⟩
  · rename_i hd
    obtain ⟨v, hv, r⟩ := I.s i _ hd
    exact ⟨v, hv, k v H F .pen (.refl _ _ _) I.z r q⟩
  · rename_i ds hd
    obtain ⟨v, hv, a, xs, e, h0, hf, hh, r⟩ := I.s i _ hd
    refine ⟨v, hv, k v H F (.bor ds) (.refl _ _ _) I.z ⟨a, xs, e, fun m => ?_, hf, hh, r⟩ q⟩
    obtain ⟨o, z⟩ := I.hk a m
    rw [h0] at z; cases z
  · rename_i ds hd
    obtain ⟨v, hv, a, xs, e, na, hf, h0, hh, r⟩ := I.s i _ hd
    exact ⟨v, hv, k v H F (.bor ds) (.refl _ _ _) I.z ⟨a, xs, e, na, hf, hh, r⟩ q⟩
  · exact q.elim
def aNil : FA := fun _ Q => Q []
def aCons (f : FV) (g : FA) : FA := fun E Q => f E fun s => g E fun ss => Q (s :: ss)
theorem pa_nilD : pA X [] aNil := PA.imp pa_nil fun σ H Q ⟨C, F, E, Qd, I, q, k⟩ => k [] H F [] (.refl _ _ _) I.z .nil q
theorem pa_consD (h : pV X e fv) (r : pA X es fa) (hs : starEach (e :: es) X.env = (false, eval e X.env) :: starEach es X.env := by rfl) : pA X (e :: es) (aCons fv fa) := PA.imp (pa_cons h r hs) fun σ H Q ⟨C, F, E, Qd, I, q, k⟩ =>
  ⟨C, F, E, _, I, q, fun v H1 F1 s w1 z1 r1 q1 => ⟨C, F1, E, _, I.step w1 z1, q1, fun vs H2 F2 ss w2 z2 r2 q2 => k (v :: vs) H2 F2 (s :: ss) (w1.trans w2) z2 (.cons (r1.step w2) r2) q2⟩⟩
/-- keywords -/
theorem PK.imp {kws : List Keyword} {t t' : TA} (h : PK X kws t) (k : ∀ σ H Q, t' σ H Q → t σ H Q) : PK X kws t' := ⟨fun pos pins s σ H Q I w => h.run pos pins s σ H Q I (k σ H Q w)⟩
abbrev pK (X : Cx) (kws : List Keyword) (f : FA) : Prop := PK X kws (tAr X.K f)
theorem pk_nilD : pK X [] aNil := PK.imp pk_nil fun σ H Q ⟨C, F, E, Qd, I, q, k⟩ => k [] H F [] (.refl _ _ _) I.z .nil q
theorem pk_consD {nm : Option Str} {kpos : Pos} {kws : List Keyword} (h : pV X e fv) (r : pK X kws fa) : pK X (⟨nm, e, kpos⟩ :: kws) (aCons fv fa) := PK.imp (pk_cons h r) fun σ H Q ⟨C, F, E, Qd, I, q, k⟩ =>
  ⟨C, F, E, _, I, q, fun v H1 F1 s w1 z1 r1 q1 => ⟨C, F1, E, _, I.step w1 z1, q1, fun vs H2 F2 ss w2 z2 r2 q2 => k (v :: vs) H2 F2 (s :: ss) (w1.trans w2) z2 (.cons (r1.step w2) r2) q2⟩⟩
/-! data arguments alone: displays, built-ins -/
def tAd (K : PySem.W.Frag) (f : FL) : TA := fun σ H Q => ∃ C F E Qd, At K C σ H F E ∧ f E Qd ∧ ∀ vs H' F' ds, Wd C.hs H F H' F' → Fz H' F' → DdAll K F' vs ds → Qd ds → Q vs H'
abbrev pL (X : Cx) (es : List Expr) (f : FL) : Prop := PA X es (tAd X.K f)
def lNil : FL := fun _ Q => Q []
def lCons (f : FE) (g : FL) : FL := fun E Q => f E fun d => g E fun ds => Q (d :: ds)
variable {fl : FL}
theorem pl_nil : pL X [] lNil := PA.imp pa_nil fun σ H Q ⟨C, F, E, Qd, I, q, k⟩ => k [] H F [] (.refl _ _ _) I.z .nil q
theorem pl_cons (h : pD X e f) (r : pL X es fl) (hs : starEach (e :: es) X.env = (false, eval e X.env) :: starEach es X.env := by rfl) : pL X (e :: es) (lCons f fl) := PA.imp (pa_cons h r hs) fun σ H Q ⟨C, F, E, Qd, I, q, k⟩ =>
  ⟨C, F, E, _, I, q, fun v H1 F1 s w1 z1 r1 q1 => ⟨C, F1, E, _, I.step w1 z1, q1, fun vs H2 F2 ss w2 z2 r2 q2 => k (v :: vs) H2 F2 (s :: ss) (w1.trans w2) z2 (.cons (Dd.le w2.fro r1) r2) q2⟩⟩
def wTup (f : FL) : FE := fun E Q => f E fun ds => ds.length ≤ sizeLine ∧ Q (.tuple ds)
def wLst (f : FL) : FL := fun E Q => f E fun ds => ds.length ≤ sizeLine ∧ Q ds
theorem pd_tup {x1} (h : pL X es fl) : pD X (.Tuple es x1 pos) (wTup fl) := PE.imp (pe_tup h) fun σ H Q ⟨C, F, E, Qd, I, q, k⟩ =>
  ⟨C, F, E, _, I, q, fun vs H1 F1 ds w1 z1 r1 ⟨hl, q1⟩ => ⟨by rw [r1.len]; exact hl, fun p hp => k (.ref p) _ (upd F1 p (.tup vs)) _ (w1.trans (.newF z1 hp _)) (z1.newF hp _) (.tup upd_same (DdAll.le (.of (same_new (z1.fin p hp) _)) r1)) q1⟩⟩
theorem pf_lst (h : pL X es fl) : pF X (.List es pos) (wLst fl) := PE.imp (pe_lst h) fun σ H Q ⟨C, F, E, Qd, I, q, k⟩ =>
  ⟨C, F, E, _, I, q, fun vs H1 F1 ds w1 z1 r1 ⟨hl, q1⟩ => ⟨by rw [r1.len]; exact hl, fun p hp => k p vs _ F1 ds (by
      cases e : H p with
      | none => rfl
      | some o =>
        obtain ⟨o', h'⟩ := w1.trk p o e
        rw [hp] at h'; cases h') (w1.trans (.newO hp _)) (z1.newO (z1.fin p hp) _) (z1.fin p hp) upd_same r1 q1⟩⟩
theorem Wd.back {hs : List Addr} {H F H' F' : Hp} (w : Wd hs H F H' F') {p : Addr} (h : H' p = none) : H p = none := by
  cases e : H p with
  | none => rfl
  | some o =>
    obtain ⟨o', h'⟩ := w.trk p o e
    rw [h] at h'; cases h'
/-- one container, or data, read by a built-in -/
def tH1 (K : PySem.W.Frag) (f : FE) : TA := fun σ H Q => ∃ C F E Qd, At K C σ H F E ∧ f E Qd ∧ ∀ v H' F' d, Wd C.hs H F H' F' → Fz H' F' → OwR K C.hs H' F' v d → Qd d → Q [v] H'
theorem pa_h1 (h : pH X e f) (hs : starEach [e] X.env = [(false, eval e X.env)] := by rfl) : PA X [e] (tH1 X.K f) := PA.imp (pa_cons h pa_nil hs) fun σ H Q ⟨C, F, E, Qd, I, q, k⟩ => ⟨C, F, E, _, I, q, fun v H' F' d w z r q => k v H' F' d w z r q⟩
end
end Dl

namespace Dl
open PySem PySem.Spec PyProof.Rows L2 Vx
/-! statements by data -/
structure DEnds where
  nx : Env' → Prop
  rt : SV → Prop
  bk : Env' → Prop := fun _ => False
  ct : Env' → Prop := fun _ => False
  xx : Value → List (Str × PyData) → Prop := fun _ _ => False
/-- what whoever waits for an exception asks of it -/
def Wm (X : Cx) : WX := fun c d σ H => ∃ W, Takes X W ∧ W c d σ H
theorem takes_max (X : Cx) : Takes X (Wm X) := fun u s' ⟨a, B, sI, pins, σ, H, cls, d, e, I, nb, up, sky, na, os, ag, W, tk, w⟩ =>
  tk u s' ⟨a, B, sI, pins, σ, H, cls, d, e, I, nb, up, sky, na, os, ag, w⟩
/-- the fields of an exception, by data -/
def XfR (K : PySem.W.Frag) (F : Hp) : List (Str × V) → List (Str × PyData) → Prop
  | [], [] => True
  | (f, v) :: r, (g, d) :: r' => f = g ∧ Dd K F v d ∧ XfR K F r r'
  | _, _ => False
abbrev FS := DEnds → Env' → Prop
structure LiftS (X : Cx) (C : Ctx) (F : Hp) (Q : DEnds) (D : Ends) : Prop where
  nx : ∀ σ' H' F' E', At X.K C σ' H' F' E' → Le F F' → Q.nx E' → D.nx σ' H'
  bk : ∀ σ' H' F' E', At X.K C σ' H' F' E' → Le F F' → Q.bk E' → D.bk σ' H'
  ct : ∀ σ' H' F' E', At X.K C σ' H' F' E' → Le F F' → Q.ct E' → D.ct σ' H'
  rt : ∀ v H' F' r, Wd C.hs C.H0 C.F0 H' F' → Fz H' F' → SvR X.K C F' H' v r → Q.rt r → D.rt v H'
  xx : ∀ c d xs σ' H' F' fs, Wd C.hs C.H0 C.F0 H' F' → Fz H' F' → H' d = some (.xd xs) → XfR X.K F' xs fs → Q.xx c fs → Wm X c (some d) σ' H'
theorem LiftS.mono {X : Cx} {C : Ctx} {F F' : Hp} {Q : DEnds} {D : Ends} (L : LiftS X C F Q D) (s : Le F F') : LiftS X C F' Q D := ⟨fun σ' H' F2 E' I s2 => L.nx σ' H' F2 E' I (s.trans s2), fun σ' H' F2 E' I s2 => L.bk σ' H' F2 E' I (s.trans s2), fun σ' H' F2 E' I s2 => L.ct σ' H' F2 E' I (s.trans s2), L.rt, L.xx⟩
def tS (X : Cx) (g : FS) : TS := fun D σ H => ∃ C F E Q, At X.K C σ H F E ∧ g Q E ∧ LiftS X C F Q D
abbrev pS (X : Cx) (st : Stmt) (g : FS) : Prop := PS X st (tS X g)
abbrev pSs (X : Cx) (st : List Stmt) (g : FS) : Prop := PSs X st (tS X g)
theorem PS.imp {X : Cx} {st : Stmt} {t t' : TS} (h : PS X st t) (k : ∀ D σ H, t' D σ H → t D σ H) : PS X st t' := ⟨fun pins s σ H D I w => h.run pins s σ H D I (k D σ H w)⟩
theorem PSs.imp {X : Cx} {st : List Stmt} {t t' : TS} (h : PSs X st t) (k : ∀ D σ H, t' D σ H → t D σ H) : PSs X st t' := ⟨fun pins s σ H D I w => h.run pins s σ H D I (k D σ H w)⟩
theorem PI.imp {X : Cx} {tg it : Expr} {t t' : TI} (h : PI X tg it t) (k : ∀ σ H R, t' σ H R → t σ H R) : PI X tg it t' := ⟨fun pins s σ H R I w => h.run pins s σ H R I (k σ H R w)⟩
theorem PG.imp {X : Cx} {tg : Expr} {t t' : TG} (h : PG X tg t) (k : ∀ v σ H Q, t' v σ H Q → t v σ H Q) : PG X tg t' := ⟨fun pins s σ H v u Q I r w => h.run pins s σ H v u Q I r (k v σ H Q w)⟩
theorem PGs.imp {X : Cx} {tg : List Expr} {t t' : TGs} (h : PGs X tg t) (k : ∀ v σ H Q, t' v σ H Q → t v σ H Q) : PGs X tg t' := ⟨fun pins s σ H v u Q I r w => h.run pins s σ H v u Q I r (k v σ H Q w)⟩
section
variable {X : Cx} {st : Stmt} {rest : List Stmt} {g g' : FS} {a b c e : Expr} {f fa fb : FE} {ft : FT} {pos : Pos}
def sNext : FS := fun Q E => Q.nx E
def sSeq (g g' : FS) : FS := fun Q E => g { Q with nx := g' Q } E
theorem qs_nil : pSs X [] sNext := PSs.imp pss_nil fun D σ H ⟨C, F, E, Q, I, q, L⟩ => L.nx σ H F E I (.refl F) q
theorem qs_cons (h1 : pS X st g) (h2 : pSs X rest g') : pSs X (st :: rest) (sSeq g g') := PSs.imp (pss_cons h1 h2) fun D σ H ⟨C, F, E, Q, I, q, L⟩ =>
  ⟨C, F, E, { Q with nx := g' Q }, I, q, fun σ' H' F' E' I' s q' => ⟨C, F', E', Q, I', q', L.mono s⟩, L.bk, L.ct, L.rt, L.xx⟩
theorem qs_one (h1 : pS X st g) : pSs X [st] g := pss_one h1
theorem q_pass : pS X (.Pass pos) sNext := PS.imp ps_pass fun D σ H ⟨C, F, E, Q, I, q, L⟩ => L.nx σ H F E I (.refl F) q
theorem q_break : pS X (.Break pos) (fun Q E => Q.bk E) := PS.imp ps_break fun D σ H ⟨C, F, E, Q, I, q, L⟩ => L.bk σ H F E I (.refl F) q
theorem q_continue : pS X (.Continue pos) (fun Q E => Q.ct E) := PS.imp ps_continue fun D σ H ⟨C, F, E, Q, I, q, L⟩ => L.ct σ H F E I (.refl F) q
def sNever : FS := fun _ _ => False
theorem q_never : pS X st sNever := PS.imp ps_never fun D σ H ⟨C, F, E, Q, I, q, L⟩ => q.elim
def sIf (t : FT) (g g' : FS) : FS := fun Q E => t E fun c => if c = true then g Q E else g' Q E
theorem q_if {sa sb : List Stmt} (hc : pT X c ft) (ha : pSs X sa g) (hb : pSs X sb g') : pS X (.If c sa sb pos) (sIf ft g g') := PS.imp (ps_if hc ha hb) fun D σ H ⟨C, F, E, Q, I, q, L⟩ =>
  ⟨C, F, E, _, I, q, fun c H' F' w z q' => by
    cases c with
    | true => exact ⟨C, F', E, Q, I.step w z, q', L.mono w.fro⟩
    | false => exact ⟨C, F', E, Q, I.step w z, q', L.mono w.fro⟩⟩
def sExpr (f : FE) : FS := fun Q E => f E fun _ => Q.nx E
theorem q_expr (he : pD X e f) (hs : swapsWith e none pos.line X.env = pure false := by rfl) : pS X (.Expr e pos) (sExpr f) := PS.imp (ps_expr he hs) fun D σ H ⟨C, F, E, Q, I, q, L⟩ =>
  ⟨C, F, E, _, I, q, fun v H' F' d w z r q' => L.nx σ H' F' E (I.step w z) w.fro q'⟩
theorem q_doc {x j pos pos'} : pS X (.Expr (.Constant (.str x) j pos) pos') sNext := PS.imp ps_doc fun D σ H ⟨C, F, E, Q, I, q, L⟩ => L.nx σ H F E I (.refl F) q
def sRet (f : FE) : FS := fun Q E => f E fun d => Q.rt (.d d)
theorem q_ret (he : pD X e f) : pS X (.Return (some e) pos) (sRet f) := PS.imp (ps_ret he) fun D σ H ⟨C, F, E, Q, I, q, L⟩ =>
  ⟨C, F, E, _, I, q, fun v H' F' d w z r q' => L.rt v H' F' (.d d) (I.w.trans w) z r q'⟩
theorem q_retN : pS X (.Return none pos) (fun Q E => Q.rt (.d .none)) := PS.imp ps_retN fun D σ H ⟨C, F, E, Q, I, q, L⟩ => L.rt .non H F (.d .none) I.w I.z .non q
theorem At.new0 {K : PySem.W.Frag} {C : Ctx} {σ : L2.St} {H F : Hp} {E : Env'} (I : At K C σ H F E) {a : Addr} (n : H a = none) : C.H0 a = none := I.w.back n
/-- a list just made is given back -/
def sRetF (f : FL) : FS := fun Q E => f E fun ds => Q.rt (.own ds)
theorem q_retF {f : FL} (he : pF X e f) : pS X (.Return (some e) pos) (sRetF f) := PS.imp (ps_ret he) fun D σ H ⟨C, F, E, Q, I, q, L⟩ =>
  ⟨C, F, E, _, I, q, fun a xs H' F' ds n w z nf hh hd q' => L.rt (.ref a) H' F' (.own ds) (I.w.trans w) z ⟨a, xs, rfl, I.new0 n, nf, hh, hd⟩ q'⟩
/-- one's own list is given back -/
def sRetO (i : Nat) : FS := fun Q E => match E[i]? with
  | some (some (.own ds)) => Q.rt (.own ds)
  | some (some (.d d)) => Q.rt (.d d)
  | _ => False
theorem q_retO {i : Nat} (he : PE X e (tVar i)) : pS X (.Return (some e) pos) (sRetO i) := PS.imp (ps_ret he) fun D σ H ⟨C, F, E, Q, I, q, L⟩ => by
  unfold sRetO at q
  split at q
  · rename_i ds hd
    obtain ⟨v, hv, r⟩ := I.s i _ hd
    exact ⟨v, hv, L.rt v H F (.own ds) I.w I.z r q⟩
  · rename_i d hd
    obtain ⟨v, hv, r⟩ := I.s i _ hd
    exact ⟨v, hv, L.rt v H F (.d d) I.w I.z r q⟩
  · exact q.elim
/-! targets -/
def Agree (js : List Nat) (σ σ' : L2.St) : Prop := σ'.length = σ.length ∧ ∀ i, i ∉ js → σ'[i]? = σ[i]?
theorem Agree.refl (js : List Nat) (σ : L2.St) : Agree js σ σ := ⟨rfl, fun _ _ => rfl⟩
theorem wipe_get (σ : L2.St) (i : Nat) : ∀ vs : List Nat, (wipe σ vs)[i]? = if i ∈ vs then (σ[i]?).map (fun _ => none) else σ[i]?
  | [] => by simp [wipe]
  | v :: vs => by
    show ((wipe σ vs).set v none)[i]? = _
    have ih := wipe_get σ i vs
    have hl := wipe_length σ vs
    by_cases e : v = i
    · subst e
      rw [if_pos List.mem_cons_self]
      by_cases lt : v < σ.length
      · rw [List.getElem?_set_self (by omega), List.getElem?_eq_getElem lt]; rfl
      · rw [List.getElem?_eq_none (by rw [List.length_set]; omega), List.getElem?_eq_none (by omega)]; rfl
    · rw [List.getElem?_set_ne e, ih]
      by_cases m : i ∈ vs
      · rw [if_pos m, if_pos (List.mem_cons_of_mem _ m)]
      · rw [if_neg m, if_neg (by intro z; rcases List.mem_cons.mp z with z | z; exact e z.symm; exact m z)]
theorem Agree.wipe {js vs : List Nat} {σ σ' : L2.St} (h : Agree js (wipe σ vs) σ') (s : ∀ j ∈ js, j ∈ vs) : L2.wipe σ' vs = L2.wipe σ vs := by
  refine List.ext_getElem? fun i => ?_
  rw [wipe_get, wipe_get]
  by_cases m : i ∈ vs
  · rw [if_pos m, if_pos m]
    have l1 := h.1
    rw [wipe_length] at l1
    by_cases lt : i < σ.length
    · rw [List.getElem?_eq_getElem lt, List.getElem?_eq_getElem (by omega)]; rfl
    · rw [List.getElem?_eq_none (by omega), List.getElem?_eq_none (by omega)]
  · rw [if_neg m, if_neg m, h.2 i (fun z => m (s i z)), wipe_get, if_neg m]
abbrev FG := PyData → Env' → (Env' → Prop) → Prop
abbrev FGs := List PyData → Env' → (Env' → Prop) → Prop
def tG (K : PySem.W.Frag) (js : List Nat) (fg : FG) : TG := fun v σ H Q => ∃ C F E d Qd, At K C σ H F E ∧ Dd K F v d ∧ fg d E Qd ∧ ∀ σ' E', At K C σ' H F E' → Agree js σ σ' → Qd E' → Q σ' H
def tGs (K : PySem.W.Frag) (js : List Nat) (fg : FGs) : TGs := fun vs σ H Q => ∃ C F E ds Qd, At K C σ H F E ∧ DdAll K F vs ds ∧ fg ds E Qd ∧ ∀ σ' E', At K C σ' H F E' → Agree js σ σ' → Qd E' → Q σ' H
abbrev pG (X : Cx) (e : Expr) (js : List Nat) (fg : FG) : Prop := PG X e (tG X.K js fg)
abbrev pGs (X : Cx) (es : List Expr) (js : List Nat) (fg : FGs) : Prop := PGs X es (tGs X.K js fg)
def dName (i : Nat) : FG := fun d E Q => Q (E.set i (some (.d d)))
theorem qg_name {i : Nat} {x : Str} (hN : X.N.Nodup) (hi : X.N[i]? = some x) (hx : Loc X.env.scope x) (hf : X.fn x = true ∨ X.env.scope.names.lookup x = some .local := by first | exact .inl rfl | exact .inr rfl | assumption) : pG X (.Name x pos) [i] (dName i) :=
  PG.imp (pg_name hN hi hx hf) fun v σ H Q ⟨C, F, E, d, Qd, I, r, q, k⟩ => k _ _ (I.setD r) ⟨List.length_set .., fun j hj => List.getElem?_set_ne fun e => hj (by simp [e])⟩ q
def dNil : FGs := fun ds E Q => match ds with
  | [] => Q E
  | _ => False
def dCons (f : FG) (g : FGs) : FGs := fun ds E Q => match ds with
  | d :: r => f d E fun E1 => g r E1 Q
  | _ => False
theorem qgs_nil : pGs X [] [] dNil := PGs.imp pgs_nil fun vs σ H Q ⟨C, F, E, ds, Qd, I, r, q, k⟩ => by
  cases r with
  | nil => exact ⟨rfl, k σ E I (.refl _ _) q⟩
  | cons _ _ => exact q.elim
theorem qgs_cons {e : Expr} {es : List Expr} {js ks : List Nat} {fg : FG} {fgs : FGs} (h1 : pG X e js fg) (h2 : pGs X es ks fgs)
    (hs : (assignEach (e :: es) X.env).map (·.2) = assign e X.env :: (assignEach es X.env).map (·.2) := by rfl) : pGs X (e :: es) (js ++ ks) (dCons fg fgs) := PGs.imp (pgs_cons h1 h2 hs) fun vs σ H Q ⟨C, F, E, ds, Qd, I, r, q, k⟩ => by
  cases r with
  | nil => exact q.elim
  | cons r1 rr =>
    refine ⟨_, _, rfl, C, F, E, _, _, I, r1, q, fun σ1 E1 I1 a1 q1 => ⟨C, F, E1, _, _, I1, rr, q1, fun σ2 E2 I2 a2 q2 => k σ2 E2 I2 ⟨a2.1.trans a1.1, fun i hi => ?_⟩ q2⟩⟩
    rw [a2.2 i fun z => hi (List.mem_append_right _ z), a1.2 i fun z => hi (List.mem_append_left _ z)]
def dTup (n : Nat) (g : FGs) : FG := fun d E Q => match d with
  | .tuple ds => ds.length = n ∧ g ds E Q
  | _ => False
theorem qg_tup {es : List Expr} {k : Nat} {js : List Nat} {fgs : FGs} {n : Nat} (hc : X.calm = true) (h : pGs X es js fgs)
    (hn : (assignEach es X.env).length = n := by rfl) (hst : (assignEach es X.env).findIdx? (·.1) = none := by rfl) : pG X (.Tuple es k pos) js (dTup n fgs) := PG.imp (pg_tup hc h hn hst) fun v σ H Q ⟨C, F, E, d, Qd, I, r, q, k⟩ => by
  cases r with
  | tup hq r =>
    obtain ⟨hl, q⟩ := q
    exact ⟨_, _, rfl, SqT.of (I.z.sub.t _ _ hq), by rw [r.len]; exact hl, C, F, E, _, _, I, r, q, k⟩
  | _ => exact q.elim
/-! assignments -/
def sAsg (f : FE) (fg : FG) : FS := fun Q E => f E fun d => fg d E Q.nx
theorem asg_imp {js : List Nat} {fg : FG} : ∀ D σ H, tS X (sAsg f fg) D σ H → tAsg (tE X.K f) (tG X.K js fg) D σ H := fun D σ H ⟨C, F, E, Q, I, q, L⟩ =>
  ⟨C, F, E, _, I, q, fun v H' F' d w z r q' => ⟨C, F', E, d, _, I.step w z, r, q', fun σ2 E2 I2 _ q2 => L.nx σ2 H' F' E2 I2 w.fro q2⟩⟩
theorem q_asg {tg : Expr} {js : List Nat} {fg : FG} (he : pD X e f) (hg : pG X tg js fg) (hs : swapsWithSole [tg] e pos.line X.env = pure false := by rfl) (hw : swappedStores [tg] e X.env = pure none := by rfl)
    (h1 : (assignEach [tg] X.env).map (·.2) = [assign tg X.env] := by rfl) : pS X (.Assign [tg] e pos) (sAsg f fg) := PS.imp (ps_asg he hg hs hw h1) asg_imp
def sSet (i : Nat) (f : FE) : FS := fun Q E => f E fun d => Q.nx (E.set i (some (.d d)))
theorem set_imp {i : Nat} : ∀ D σ H, tS X (sSet i f) D σ H → tAsg (tE X.K f) (gName i) D σ H := fun D σ H ⟨C, F, E, Q, I, q, L⟩ =>
  ⟨C, F, E, _, I, q, fun v H' F' d w z r q' => L.nx _ H' F' _ ((I.step w z).setD r) w.fro q'⟩
theorem q_set {i : Nat} {x : Str} {pos' : Pos} (hN : X.N.Nodup) (hi : X.N[i]? = some x) (hx : Loc X.env.scope x) (he : pD X e f) (hs : swapsWith e (some (.Name x pos')) pos.line X.env = pure false := by rfl) (hf : X.fn x = true ∨ X.env.scope.names.lookup x = some .local := by first | exact .inl rfl | exact .inr rfl | assumption) :
    pS X (.Assign [.Name x pos'] e pos) (sSet i f) := PS.imp (ps_set hN hi hx he hs hf) set_imp
/-- .. a list just made, from now on one's own -/
def sSetF (i : Nat) (f : FL) : FS := fun Q E => f E fun ds => Q.nx (E.set i (some (.own ds)))
theorem At.setO {K : PySem.W.Frag} {C : Ctx} {σ : L2.St} {H F H' F' : Hp} {E : Env'} (I : At K C σ H F E) (w : Wd C.hs H F H' F') (z : Fz H' F') {a : Addr} {xs : List V} {ds : List PyData} (n : H a = none) (nf : F' a = none) (hh : H' a = some (.lst xs)) (hd : DdAll K F' xs ds) (i : Nat) : At K C (σ.set i (some (.ref a))) H' F' (E.set i (some (.own ds))) := by
  refine (I.step w z).set ⟨a, xs, rfl, I.new0 n, nf, hh, hd⟩ fun j es fs _ _ e hv => ?_
  obtain ⟨v, hv', b, ys, rfl, _, _, hb, _⟩ := I.s j _ e
  rw [hv] at hv'
  cases hv'
  rw [n] at hb; cases hb
theorem setF_imp {i : Nat} {f : FL} : ∀ D σ H, tS X (sSetF i f) D σ H → tAsg (tF X.K f) (gName i) D σ H := fun D σ H ⟨C, F, E, Q, I, q, L⟩ =>
  ⟨C, F, E, _, I, q, fun a xs H' F' ds n w z nf hh hd q' => L.nx _ H' F' _ (I.setO w z n nf hh hd i) w.fro q'⟩
theorem q_setF {i : Nat} {x : Str} {f : FL} {pos' : Pos} (hN : X.N.Nodup) (hi : X.N[i]? = some x) (hx : Loc X.env.scope x) (he : pF X e f) (hs : swapsWith e (some (.Name x pos')) pos.line X.env = pure false := by rfl) (hf : X.fn x = true ∨ X.env.scope.names.lookup x = some .local := by first | exact .inl rfl | exact .inr rfl | assumption) :
    pS X (.Assign [.Name x pos'] e pos) (sSetF i f) := PS.imp (ps_set hN hi hx he hs hf) setF_imp
/-- one's own list stands still from now on: a step of the reading alone -/
def duD : DU → PyData
  | .k ds => .dict (ds.map fun p => (keyD p.1, p.2))
  | .t ds => .dict ((.none, .none) :: ds.map fun p => (.tuple (p.1.map keyD), p.2))
theorem DuR.dd {K : PySem.W.Frag} {F : Hp} {o : HO} {a : Addr} (e : F a = some o) : ∀ {u : DU}, DuR K F o u → Dd K F (.ref a) (duD u)
  | .k ds, ⟨kvs, h, hf, r⟩ => .dic (kvs := kvs) (.inl (by rw [e, h])) (by
      have : (fun p : Key × V => keyD p.1) = keyD ∘ Prod.fst := rfl
      rw [this, ← List.map_map, ← hf, List.map_map, List.map_map]; rfl) (by rw [List.map_map]; exact r)
  | .t ds, ⟨kvs, h, hf, r⟩ => .dit (kvs := kvs) (.inl (by rw [e, h])) (by
      have : (fun p : List Key × V => PyData.tuple (p.1.map keyD)) = (fun k : List Key => PyData.tuple (k.map keyD)) ∘ Prod.fst := rfl
      rw [this, ← List.map_map, ← hf, List.map_map, List.map_map]; rfl) (by rw [List.map_map]; exact r)
def sFrz (i : Nat) (g : FS) : FS := fun Q E => match E[i]? with
  | some (some (.own ds)) => g Q (E.set i (some (.d (.list ds))))
  | some (some (.d _)) => g Q E
  | some (some (.dct u)) => g Q (E.set i (some (.d (duD u))))
  | _ => False
theorem At.frz {K : PySem.W.Frag} {C : Ctx} {σ : L2.St} {H F : Hp} {E : Env'} (I : At K C σ H F E) {i : Nat} {ds : List PyData} (e : E[i]? = some (some (.own ds))) : ∃ F', At K C σ H F' (E.set i (some (.d (.list ds)))) ∧ Le F F' := by
  obtain ⟨v, hv, a, xs, rfl, h0, hf, hh, hd⟩ := I.s i _ e
  have s : Le F (upd F a (.lst xs)) := .of (same_new hf _)
  have w' := I.w.stop (p := a) (o := .lst xs) h0 hf I.hk
  refine ⟨upd F a (.lst xs), ⟨w', I.z.stop hh hf, by rw [List.length_set, I.ln], fun j sw e' => ?_, fun j k fs gs u ne e1 e2 q1 q2 => ?_, fun j k fs gs u ne e1 e2 q1 q2 => ?_, I.hk⟩, s⟩
  · rcases set_get e' with ⟨rfl, e1, lt⟩ | ⟨ne, e1⟩
    · cases e1
      exact ⟨_, hv, .lst upd_same (DdAll.le s hd)⟩
    · obtain ⟨w, h1, h2⟩ := I.s j sw e1
      refine ⟨w, h1, ?_⟩
      cases sw with
      | d d => exact Dd.le s h2
      | own fs =>
        obtain ⟨b, zs, rfl, k0, kf, kh, kd⟩ := h2
        have nb : b ≠ a := fun z => by subst z; exact I.dj i j ds fs _ ne e e1 hv h1
        exact ⟨b, zs, rfl, k0, by rw [upd_ne nb]; exact kf, kh, DdAll.le s kd⟩
      | pen =>
        obtain ⟨p, rfl, m, hp⟩ := h2
        obtain ⟨u, q⟩ := I.hk p m
        exact ⟨p, rfl, m, hp.le s (by rw [upd_ne (ne_of_none q h0)]; exact hp.1) fun o ho => ho⟩
      | scr ns =>
        obtain ⟨b, rfl, ⟨nb, kf, ⟨u, k0⟩, o, ho, q⟩ | h⟩ := h2
        · exact ⟨b, rfl, .inl ⟨nb, by rw [upd_ne (ne_of_none k0 h0)]; exact kf, ⟨u, k0⟩, o, ho, q⟩⟩
        · exact ⟨b, rfl, .inr h⟩
      | bor fs =>
        obtain ⟨b, zs, rfl, nb, kf, ⟨u, k0⟩, kh, kd⟩ := h2
        exact ⟨b, zs, rfl, nb, by rw [upd_ne (ne_of_none k0 h0)]; exact kf, ⟨u, k0⟩, kh, DdAll.le s kd⟩
      | dct t =>
        obtain ⟨b, o, rfl, k0, kf, kh, kd⟩ := h2
        have nb : b ≠ a := fun z => by
          subst z; rw [hh] at kh; cases kh
          exact kd.nl
        exact ⟨b, o, rfl, k0, by rw [upd_ne nb]; exact kf, kh, kd.le s⟩
  · rcases set_get e1 with ⟨rfl, f1, lt⟩ | ⟨n1, f1⟩
    · cases f1
    · rcases set_get e2 with ⟨rfl, f2, lt⟩ | ⟨n2, f2⟩
      · cases f2
      · exact I.dj j k fs gs u ne f1 f2 q1 q2
  · rcases set_get e1 with ⟨rfl, f1, lt⟩ | ⟨n1, f1⟩
    · cases f1
    · rcases set_get e2 with ⟨rfl, f2, lt⟩ | ⟨n2, f2⟩
      · cases f2
      · exact I.djd j k fs gs u ne f1 f2 q1 q2
theorem At.frzU {K : PySem.W.Frag} {C : Ctx} {σ : L2.St} {H F : Hp} {E : Env'} (I : At K C σ H F E) {i : Nat} {u : DU} (e : E[i]? = some (some (.dct u))) : ∃ F', At K C σ H F' (E.set i (some (.d (duD u)))) ∧ Le F F' := by
  obtain ⟨v, hv, a, o, rfl, h0, hf, hh, hd⟩ := I.s i _ e
  have s : Le F (upd F a o) := .of (same_new hf _)
  have w' := I.w.stop (p := a) (o := o) h0 hf I.hk
  refine ⟨upd F a o, ⟨w', I.z.stop hh hf, by rw [List.length_set, I.ln], fun j sw e' => ?_, fun j k fs gs u ne e1 e2 q1 q2 => ?_, fun j k fs gs u ne e1 e2 q1 q2 => ?_, I.hk⟩, s⟩
  · rcases set_get e' with ⟨rfl, e1, lt⟩ | ⟨ne, e1⟩
    · cases e1
      exact ⟨_, hv, (hd.le s).dd upd_same⟩
    · obtain ⟨w, h1, h2⟩ := I.s j sw e1
      refine ⟨w, h1, ?_⟩
      cases sw with
      | d d => exact Dd.le s h2
      | own fs =>
        obtain ⟨b, zs, rfl, k0, kf, kh, kd⟩ := h2
        have nb : b ≠ a := fun z => by
          subst z; rw [hh] at kh; cases kh
          exact hd.nl
        exact ⟨b, zs, rfl, k0, by rw [upd_ne nb]; exact kf, kh, DdAll.le s kd⟩
      | pen =>
        obtain ⟨p, rfl, m, hp⟩ := h2
        obtain ⟨u, q⟩ := I.hk p m
        exact ⟨p, rfl, m, hp.le s (by rw [upd_ne (ne_of_none q h0)]; exact hp.1) fun o ho => ho⟩
      | scr ns =>
        obtain ⟨b, rfl, ⟨nb, kf, ⟨u, k0⟩, o, ho, q⟩ | h⟩ := h2
        · exact ⟨b, rfl, .inl ⟨nb, by rw [upd_ne (ne_of_none k0 h0)]; exact kf, ⟨u, k0⟩, o, ho, q⟩⟩
        · exact ⟨b, rfl, .inr h⟩
      | bor fs =>
        obtain ⟨b, zs, rfl, nb, kf, ⟨u, k0⟩, kh, kd⟩ := h2
        exact ⟨b, zs, rfl, nb, by rw [upd_ne (ne_of_none k0 h0)]; exact kf, ⟨u, k0⟩, kh, DdAll.le s kd⟩
      | dct t =>
        obtain ⟨b, q, rfl, k0, kf, kh, kd⟩ := h2
        have nb : b ≠ a := fun z => by subst z; exact I.djd i j u t _ ne e e1 hv h1
        exact ⟨b, q, rfl, k0, by rw [upd_ne nb]; exact kf, kh, kd.le s⟩
  · rcases set_get e1 with ⟨rfl, f1, lt⟩ | ⟨n1, f1⟩
    · cases f1
    · rcases set_get e2 with ⟨rfl, f2, lt⟩ | ⟨n2, f2⟩
      · cases f2
      · exact I.dj j k fs gs u ne f1 f2 q1 q2
  · rcases set_get e1 with ⟨rfl, f1, lt⟩ | ⟨n1, f1⟩
    · cases f1
    · rcases set_get e2 with ⟨rfl, f2, lt⟩ | ⟨n2, f2⟩
      · cases f2
      · exact I.djd j k fs gs u ne f1 f2 q1 q2
theorem frz_imp {i : Nat} : ∀ D σ H, tS X (sFrz i g) D σ H → tS X g D σ H := fun D σ H ⟨C, F, E, Q, I, q, L⟩ => by
  unfold sFrz at q
  split at q
  · rename_i ds hd
    obtain ⟨F', I', s⟩ := I.frz hd
    exact ⟨C, F', _, Q, I', q, L.mono s⟩
  · exact ⟨C, F, E, Q, I, q, L⟩
  · rename_i u hd
    obtain ⟨F', I', s⟩ := I.frzU hd
    exact ⟨C, F', _, Q, I', q, L.mono s⟩
  · exact q.elim
theorem q_frz {i : Nat} (h : pS X st g) : pS X st (sFrz i g) := PS.imp h frz_imp
theorem qs_frz {i : Nat} (h : pSs X rest g) : pSs X rest (sFrz i g) := PSs.imp h frz_imp
/-- x = y, the list goes over: y is not used again -/
def sMove (i j : Nat) : FS := fun Q E => match E[j]? with
  | some (some (.own ds)) => Q.nx ((E.set j none).set i (some (.own ds)))
  | some (some (.d d)) => Q.nx (E.set i (some (.d d)))
  | _ => False
theorem At.forget {K : PySem.W.Frag} {C : Ctx} {σ : L2.St} {H F : Hp} {E : Env'} (I : At K C σ H F E) (i : Nat) : At K C σ H F (E.set i none) where
  w := I.w
  z := I.z
  ln := by rw [List.length_set, I.ln]
  s := fun j sw e => by
    rcases set_get e with ⟨rfl, e1, lt⟩ | ⟨ne, e1⟩
    · cases e1
    · exact I.s j sw e1
  dj := fun j k ds es u ne e1 e2 q1 q2 => by
    rcases set_get e1 with ⟨rfl, f1, lt⟩ | ⟨n1, f1⟩
    · cases f1
    · rcases set_get e2 with ⟨rfl, f2, lt⟩ | ⟨n2, f2⟩
      · cases f2
      · exact I.dj j k ds es u ne f1 f2 q1 q2
  djd := fun j k ds es u ne e1 e2 q1 q2 => by
    rcases set_get e1 with ⟨rfl, f1, lt⟩ | ⟨n1, f1⟩
    · cases f1
    · rcases set_get e2 with ⟨rfl, f2, lt⟩ | ⟨n2, f2⟩
      · cases f2
      · exact I.djd j k ds es u ne f1 f2 q1 q2
  hk := I.hk
theorem move_imp {i j : Nat} : ∀ D σ H, tS X (sMove i j) D σ H → tAsg (tVar j) (gName i) D σ H := fun D σ H ⟨C, F, E, Q, I, q, L⟩ => by
  unfold sMove at q
  split at q
  · rename_i ds hd
    obtain ⟨v, hv, r⟩ := I.s j _ hd
    refine ⟨v, hv, L.nx _ H F _ ((I.forget j).set r fun k es fs _ ne e hk => ?_) (.refl F) q⟩
    by_cases z : j = k
    · subst z
      rcases set_get e with ⟨_, e1, _⟩ | ⟨n, _⟩
      · cases e1
      · exact n rfl
    · rcases set_get e with ⟨z2, _, _⟩ | ⟨_, e1⟩
      · exact z z2
      · exact I.dj j k ds fs v z hd e1 hv hk
  · rename_i d hd
    obtain ⟨v, hv, r⟩ := I.s j _ hd
    exact ⟨v, hv, L.nx _ H F _ (I.setD r) (.refl F) q⟩
  · exact q.elim
theorem q_move {i j : Nat} {x : Str} {pos' : Pos} (hN : X.N.Nodup) (hi : X.N[i]? = some x) (hx : Loc X.env.scope x) (he : PE X e (tVar j)) (hs : swapsWith e (some (.Name x pos')) pos.line X.env = pure false := by rfl) (hf : X.fn x = true ∨ X.env.scope.names.lookup x = some .local := by first | exact .inl rfl | exact .inr rfl | assumption) :
    pS X (.Assign [.Name x pos'] e pos) (sMove i j) := PS.imp (ps_set hN hi hx he hs hf) move_imp
/-- x += e -/
def sAug (i : Nat) (op : Int → Int → Int) (f : FE) : FS := fun Q E => match E[i]? with
  | some (some (.d (.int x))) => f E fun d => match d with
    | .int y => Q.nx (E.set i (some (.d (.int (op x y)))))
    | _ => False
  | _ => False
theorem q_aug {i : Nat} {x : Str} {op : Operator} {fn : Int → Int → Int} {pos' : Pos} (hN : X.N.Nodup) (hi : X.N[i]? = some x) (hx : Loc X.env.scope x) (he : pD X e f) (ho : PIp X op (ipI fn)) (hf : X.fn x = true ∨ X.env.scope.names.lookup x = some .local := by first | exact .inl rfl | exact .inr rfl | assumption) :
    pS X (.AugAssign (.Name x pos') op e pos) (sAug i fn f) := PS.imp (ps_aug hN hi hx he ho hf) fun D σ H ⟨C, F, E, Q, I, q, L⟩ => by
  unfold sAug at q
  split at q
  · rename_i n hd
    obtain ⟨v, hv, r⟩ := I.s i _ hd
    cases r
    refine ⟨_, hv, C, F, E, _, I, q, fun v H' F' d w z r q' => ?_⟩
    cases d with
    | int y =>
      cases r
      exact ⟨_, _, rfl, rfl, L.nx _ H' F' _ ((I.step w z).setD (.int _)) w.fro q'⟩
    | _ => exact q'.elim
  · exact q.elim
/-! lists of one's own change -/
def sApp (i : Nat) (f : FE) : FS := fun Q E => match E[i]? with
  | some (some (.own ds)) => f E fun d => ds.length < sizeLine ∧ Q.nx (E.set i (some (.own (ds ++ [d]))))
  | _ => False
theorem app_imp {i : Nat} : ∀ D σ H, tS X (sApp i f) D σ H → tDrop (tBM X.K "list" rAppend (tVar i) (tCons (tE X.K f) tNil)) D σ H := fun D σ H ⟨C, F, E, Q, I, q, L⟩ => by
  unfold sApp at q
  split at q
  · rename_i ds hd
    obtain ⟨v, hv, a, xs, rfl, h0, hf, hh, hds⟩ := I.s i _ hd
    refine ⟨_, hv, .inl ⟨rfl, _, SqL.of hh⟩, C, F, E, _, I, q, fun v H' F' d w z r ⟨hl, q'⟩ => ?_⟩
    have I' := I.step w z
    obtain ⟨v', hv', a', xs', e, h0', hf', hh', hds'⟩ := I'.s i _ hd
    rw [hv] at hv'; cases hv'; cases e
    exact ⟨a, xs', v, rfl, rfl, hh', by rw [hds'.len]; exact hl, L.nx _ _ F' _ (I'.mut hd hv hh' h0' hf' (hds'.app (.cons r .nil))) w.fro q'⟩
  · exact q.elim
theorem q_app {i : Nat}
    (hp : PS X st (tDrop (tBM X.K "list" rAppend (tVar i) (tCons (tE X.K f) tNil)))) : pS X st (sApp i f) := PS.imp hp app_imp
/-- x[i] = e -/
def sPut (j : Nat) (fi fe : FE) : FS := fun Q E => fe E fun d => match E[j]? with
  | some (some (.own ds)) => fi E fun i => match i with
    | .int k => ∃ n, ixN ds.length k = some n ∧ Q.nx (E.set j (some (.own (ds.set n d))))
    | _ => False
  | _ => False
theorem q_put {j : Nat} {o i : Expr} {fi fe : FE} {ip : Pos} (ho : PE X o (tVar j)) (hi : pD X i fi) (he : pD X e fe) (hs : swapsWithSole [.Subscript o i ip] e pos.line X.env = pure false := by rfl) (hw : swappedStores [.Subscript o i ip] e X.env = pure none := by rfl)
    (h1 : (assignEach [.Subscript o i ip] X.env).map (·.2) = [assign (.Subscript o i ip) X.env] := by rfl)
    (ha : ∀ v, assign (.Subscript o i ip) X.env v = (do
      let ov ← holding [v] (eval o X.env)
      let iv ← holding [v, ov] (eval i X.env)
      standAt ip
      holding [v, ov, iv] (setItem ov iv v)
      release [v, ov, iv] []) := by intro _; rfl) : pS X (.Assign [.Subscript o i ip] e pos) (sPut j fi fe) := PS.imp (ps_asg he (pg_sub ho hi set_list ha) hs hw h1) fun D σ H ⟨C, F, E, Q, I, q, L⟩ =>
  ⟨C, F, E, _, I, q, fun v H1 F1 d w1 z1 r1 q1 => by
    have I1 := I.step w1 z1
    split at q1
    · rename_i ds hd
      obtain ⟨v0, hv, _⟩ := I1.s j _ hd
      refine ⟨v0, hv, C, F1, E, _, I1, q1, fun i H2 F2 k w2 z2 r2 q2 => ?_⟩
      have I2 := I1.step w2 z2
      obtain ⟨v', hv', a', xs', rfl, h0', hf', hh', hds'⟩ := I2.s j _ hd
      rw [hv] at hv'; cases hv'
      cases k with
      | int k =>
        cases r2
        obtain ⟨n, hn, q2⟩ := q2
        exact ⟨a', xs', k, n, rfl, rfl, hh', by rw [hds'.len]; exact hn, L.nx _ _ F2 _ (I2.mut hd hv hh' h0' hf' (hds'.set (Dd.le w2.fro r1) n)) (w1.fro.trans w2.fro) q2⟩
      | _ => exact q2.elim
    · exact q1.elim⟩
end
end Dl

namespace Dl
open PySem PySem.Spec PyProof.Rows L2 Vx
/-! what is walked -/
def IterR (K : PySem.W.Frag) (hs : List Addr) (J : It) (F : Hp) (ds : List PyData) : Prop := ∀ H1 F1, Le F F1 → Fz H1 F1 →
  (∀ (i : Nat) d, ds[i]? = some d → J.go i H1 ∧ ∀ x H2, J.yld i H1 x H2 → ∃ F2, Wd hs H1 F1 H2 F2 ∧ Fz H2 F2 ∧ Dd K F2 x d) ∧ J.stop ds.length H1
def tI (K : PySem.W.Frag) (f : FL) : TI := fun σ H R => ∃ C F E Qd, At K C σ H F E ∧ f E Qd ∧ ∀ J H' F' ds, Wd C.hs H F H' F' → Fz H' F' → IterR K C.hs J F' ds → Qd ds → R J H'
abbrev pI (X : Cx) (tg it : Expr) (f : FL) : Prop := PI X tg it (tI X.K f)
section
variable {X : Cx} {tg e a b : Expr} {f fa fb : FE} {fl : FL} {pos : Pos}
def iSeq (f : FE) : FL := fun E Q => f E fun d => match d with
  | .list ds => Q ds
  | _ => False
def iTupl (f : FE) : FL := fun E Q => f E fun d => match d with
  | .tuple ds => Q ds
  | _ => False
theorem iter_list {K : PySem.W.Frag} {hs : List Addr} {a : Addr} {F : Hp} {xs : List V} {ds : List PyData} (h : F a = some (.lst xs)) (r : DdAll K F xs ds) : IterR K hs (Itl K a) F ds := fun H1 F1 s z => by
  have q : SqL K H1 a xs := SqL.of (z.sub.l _ _ (s.l _ _ h))
  refine ⟨fun i d hd => ?_, xs, q, Nat.le_of_eq r.len⟩
  obtain ⟨v, hv, rv⟩ := r.get hd
  refine ⟨⟨xs, v, q, hv⟩, fun x H2 ⟨e, y⟩ => ?_⟩
  subst e
  have := y xs q
  rw [hv] at this; cases this
  exact ⟨F1, .refl _ _ _, z, Dd.le s rv⟩
theorem iter_tup {K : PySem.W.Frag} {hs : List Addr} {a : Addr} {F : Hp} {xs : List V} {ds : List PyData} (h : SqT K F a xs) (r : DdAll K F xs ds) : IterR K hs (Itt K a) F ds := fun H1 F1 s z => by
  have q : SqT K H1 a xs := z.sub.seqT (s.seqT h)
  refine ⟨fun i d hd => ?_, xs, q, Nat.le_of_eq r.len⟩
  obtain ⟨v, hv, rv⟩ := r.get hd
  refine ⟨⟨xs, v, q, hv⟩, fun x H2 ⟨e, y⟩ => ?_⟩
  subst e
  have := y xs q
  rw [hv] at this; cases this
  exact ⟨F1, .refl _ _ _, z, Dd.le s rv⟩
theorem qi_list (h : pD X e f) : pI X tg e (iSeq f) := PI.imp (pi_list h) fun σ H R ⟨C, F, E, Qd, I, q, k⟩ => ⟨C, F, E, _, I, q, fun v H' F' d w z r q' => by
  cases r with
  | lst h r => exact ⟨_, rfl, ⟨_, SqL.of (z.sub.l _ _ h)⟩, k _ H' F' _ w z (iter_list h r) q'⟩
  | _ => exact q'.elim⟩
theorem qi_tup (h : pD X e f) : pI X tg e (iTupl f) := PI.imp (pi_tup h) fun σ H R ⟨C, F, E, Qd, I, q, k⟩ => ⟨C, F, E, _, I, q, fun v H' F' d w z r q' => by
  cases r with
  | tup h r => exact ⟨_, rfl, ⟨_, SqT.of (z.sub.t _ _ h)⟩, k _ H' F' _ w z (iter_tup (SqT.of h) r) q'⟩
  | _ => exact q'.elim⟩
/-- the ints lo, .., lo + n - 1 -/
def rngD (lo : Int) (n : Nat) : List PyData := (List.range n).map fun i => .int (lo + (i : Nat))
theorem rngD_len (lo : Int) (n : Nat) : (rngD lo n).length = n := by unfold rngD; rw [List.length_map, List.length_range]
theorem rngD_get {lo : Int} {n i : Nat} {d : PyData} (h : (rngD lo n)[i]? = some d) : i < n ∧ d = .int (lo + (i : Nat)) := by
  have l : i < n := by
    have := (List.getElem?_eq_some_iff.mp h).1
    rwa [rngD_len] at this
  unfold rngD at h
  rw [List.getElem?_map, List.getElem?_range l] at h
  exact ⟨l, (Option.some.inj h).symm⟩
theorem iter_range {K : PySem.W.Frag} {hs : List Addr} (F : Hp) (lo : Int) (n : Nat) : IterR K hs (Itr lo n) F (rngD lo n) := fun H1 F1 s z => by
  refine ⟨fun i d hd => ?_, by rw [rngD_len]; exact Nat.le_refl n⟩
  obtain ⟨l, rfl⟩ := rngD_get hd
  refine ⟨l, fun x H2 ⟨e1, e2⟩ => ?_⟩
  subst e1 e2
  exact ⟨F1, .refl _ _ _, z, .int _⟩
def Sm (i : Int) : Prop := -(2 ^ 62) ≤ i ∧ i < 2 ^ 62
def iRg1 (f : FE) : FL := fun E Q => f E fun d => match d with
  | .int n => Sm n ∧ Q (rngD 0 n.toNat)
  | _ => False
def iRg2 (f g : FE) : FL := fun E Q => f E fun d => g E fun d2 => match d, d2 with
  | .int i, .int j => Sm i ∧ Sm j ∧ Q (rngD i (j - i).toNat)
  | _, _ => False
theorem qi_range1 {p : Pos} (hg : Gl X "range") (hm : X.mg "range" = none) (ha : pD X a fa) (hs : starEach [a] X.env = [(false, eval a X.env)] := by rfl) : pI X tg (.Call (.Name "range" p) [a] [] pos) (iRg1 fa) := PI.imp (pi_range1 hg hm (pa_cons ha pa_nil hs) hs) fun σ H R ⟨C, F, E, Qd, I, q, k⟩ =>
  ⟨C, F, E, _, I, q, fun v H' F' d w z r q' => by
    cases d with
    | int n =>
      cases r
      exact ⟨n, rfl, q'.1.1, q'.1.2, k _ H' F' _ w z (iter_range F' 0 n.toNat) q'.2⟩
    | _ => exact q'.elim⟩
theorem qi_range2 {p : Pos} (hg : Gl X "range") (hm : X.mg "range" = none) (ha : pD X a fa) (hb : pD X b fb) (hs : starEach [a, b] X.env = [(false, eval a X.env), (false, eval b X.env)] := by rfl) (hs2 : starEach [b] X.env = [(false, eval b X.env)] := by rfl) : pI X tg (.Call (.Name "range" p) [a, b] [] pos) (iRg2 fa fb) :=
  PI.imp (pi_range2 hg hm (pa_cons ha (pa_cons hb pa_nil hs2) (by rw [hs, hs2])) hs hs2) fun σ H R ⟨C, F, E, Qd, I, q, k⟩ =>
  ⟨C, F, E, _, I, q, fun v H1 F1 d w1 z1 r1 q1 => ⟨C, F1, E, _, I.step w1 z1, q1, fun v2 H2 F2 d2 w2 z2 r2 q2 => by
    cases d with
    | int i => cases d2 with
      | int j =>
        cases r1; cases r2
        exact ⟨i, j, rfl, ⟨q2.1.1, q2.1.2, q2.2.1.1, q2.2.1.2⟩, k _ H2 F2 _ (w1.trans w2) z2 (iter_range F2 i _) q2.2.2⟩
      | _ => exact q2.elim
    | _ => cases d2 <;> exact q2.elim⟩⟩
/-! for -/
def sFor (fi : FL) (fg : FG) (g : FS) : FS := fun Q E => fi E fun ds => ∃ J : Nat → Env' → Prop, J 0 E ∧ (∀ (i : Nat) d E', ds[i]? = some d → J i E' → fg d E' fun E2 => g { nx := J (i + 1), ct := J (i + 1), bk := Q.nx, rt := Q.rt, xx := Q.xx } E2) ∧ ∀ E', J ds.length E' → Q.nx E'
theorem for_imp {X : Cx} {fi : FL} {fg : FG} {g : FS} {js : List Nat} : ∀ D σ H, tS X (sFor fi fg g) D σ H → tFor (tI X.K fi) (tG X.K js fg) (tS X g) D σ H := fun D σ H ⟨C, F, E, Q, I, q, L⟩ =>
  ⟨C, F, E, _, I, q, fun J H1 F1 ds w1 z1 it ⟨V, q0, qs, qd⟩ => by
    refine ⟨fun i m ρ h => m = ds.length - i ∧ i ≤ ds.length ∧ ∃ F2 E2, At X.K C ρ h F2 E2 ∧ Le F1 F2 ∧ V i E2, ⟨_, rfl, Nat.zero_le _, F1, E, I.step w1 z1, .refl _, q0⟩, ?_⟩
    rintro i m ρ h ⟨rfl, hi, F2, E2, I2, s2, q2⟩
    obtain ⟨hgo, hstop⟩ := it h F2 s2 I2.z
    by_cases lt : i < ds.length
    · have hd : ds[i]? = some ds[i] := List.getElem?_eq_getElem lt
      obtain ⟨g1, g2⟩ := hgo i _ hd
      refine .inr ⟨g1, fun ρ' h' => ∃ F3 E3, At X.K C ρ' h' F3 E3 ∧ Le F1 F3 ∧ V (i + 1) E3, fun ρ' h' ⟨F3, E3, I3, s3, q3⟩ => ⟨_, by omega, rfl, lt, F3, E3, I3, s3, q3⟩, fun x h' hy => ?_⟩
      obtain ⟨F3, w3, z3, r3⟩ := g2 x h' hy
      have I3 := I2.step w3 z3
      refine ⟨C, F3, E2, ds[i], _, I3, r3, qs i _ E2 hd q2, fun ρ2 E4 I4 _ q4 => ⟨C, F3, E4, _, I4, q4, ?_⟩⟩
      have s3 := s2.trans w3.fro
      have sF : Le F F3 := w1.fro.trans s3
      exact ⟨fun σ' H' F' E' I' s' q' => ⟨F', E', I', s3.trans s', q'⟩, fun σ' H' F' E' I' s' q' => L.nx σ' H' F' E' I' (sF.trans s') q', fun σ' H' F' E' I' s' q' => ⟨F', E', I', s3.trans s', q'⟩, L.rt, L.xx⟩
    · have e : i = ds.length := by omega
      subst e
      exact .inl ⟨hstop, L.nx ρ h F2 E2 I2 (w1.fro.trans s2) (qd E2 q2)⟩⟩
theorem q_for {it : Expr} {body : List Stmt} {fi : FL} {js : List Nat} {fg : FG} {g : FS} (hp : PassesOwn (model X.prog X.w) X.A X.env X.xe) (hc : X.calm = true) (hi : pI X tg it fi) (hg : pG X tg js fg) (hb : pSs X body g)
    (hs : ∀ x, foldedSetIterable it X.env x = pure x := by intro _; rfl) : pS X (.For tg it body [] pos) (sFor fi fg g) := PS.imp (ps_for hp hc hi hg hb hs) for_imp
/-! while -/
def sWhile (c : FT) (g : FS) : FS := fun Q E => ∃ W : Nat → Env' → Prop, (∃ m, W m E) ∧ ∀ m E, W m E → c E fun b => if b = true then g { nx := fun E' => ∃ m', m' < m ∧ W m' E', ct := fun E' => ∃ m', m' < m ∧ W m' E', bk := Q.nx, rt := Q.rt, xx := Q.xx } E else Q.nx E
theorem q_while {c : Expr} {body : List Stmt} {ft : FT} {g : FS} (hp : PassesOwn (model X.prog X.w) X.A X.env X.xe) (hc : pT X c ft) (hb : pSs X body g) : pS X (.While c body [] pos) (sWhile ft g) := PS.imp (ps_while hp hc hb) fun D σ H ⟨C, F, E, Q, I, ⟨W, ⟨m0, w0⟩, turn⟩, L⟩ => by
  refine ⟨fun m ρ h => ∃ F1 E1, At X.K C ρ h F1 E1 ∧ Le F F1 ∧ W m E1, ⟨m0, F, E, I, .refl _, w0⟩, ?_⟩
  rintro m ρ h ⟨F1, E1, I1, s1, w1⟩
  refine ⟨C, F1, E1, _, I1, turn m E1 w1, fun b H2 F2 w2 z2 q2 => ?_⟩
  cases b with
  | true =>
    refine ⟨fun ρ' h' => ∃ m', m' < m ∧ ∃ F3 E3, At X.K C ρ' h' F3 E3 ∧ Le F F3 ∧ W m' E3, fun ρ' h' ⟨m', l, z⟩ => ⟨m', l, z⟩, C, F2, E1, _, I1.step w2 z2, q2, ?_⟩
    have s2 := s1.trans w2.fro
    exact ⟨fun σ' H' F' E' I' s' ⟨m', l, q'⟩ => ⟨m', l, F', E', I', s2.trans s', q'⟩, fun σ' H' F' E' I' s' q' => L.nx σ' H' F' E' I' (s2.trans s') q', fun σ' H' F' E' I' s' ⟨m', l, q'⟩ => ⟨m', l, F', E', I', s2.trans s', q'⟩, L.rt, L.xx⟩
  | false => exact L.nx ρ H2 F2 E1 (I1.step w2 z2) (s1.trans w2.fro) q2
/-! comprehensions -/
def lcW (stp : PyData → (PyData → Prop) → Prop → Prop) : List PyData → (List PyData → Prop) → Prop
  | [], Q => Q []
  | d :: ds, Q => stp d (fun r => lcW stp ds fun rs => Q (r :: rs)) (lcW stp ds Q)
def tTs (K : PySem.W.Frag) (f : FT) : TT := tT K f
abbrev pTs (X : Cx) (ifs : List Expr) (f : FT) : Prop := PTs X ifs (tT X.K f)
def wYes : FT := fun _ Q => Q true
theorem PTs.imp {ifs : List Expr} {t t' : TT} (h : PTs X ifs t) (k : ∀ σ H Q, t' σ H Q → t σ H Q) : PTs X ifs t' := ⟨fun pins s σ H Q I w => h.run pins s σ H Q I (k σ H Q w)⟩
theorem qts_nil : pTs X [] wYes := PTs.imp pts_nil fun σ H Q ⟨C, F, E, Qd, I, q, k⟩ => k true H F (.refl _ _ _) I.z q
theorem qts_one {c : Expr} {ft : FT} (h : pT X c ft) : pTs X [c] ft := pts_one h
def wLc (fi : FL) (fg : FG) (ft : FT) (fe : FE) (vs : List Nat) : FL := fun E Q => fi E fun ds => ds.length < sizeLine ∧ lcW (fun d ok skip => fg d (wipeE E vs) fun E2 => ft E2 fun b => if b = true then fe E2 ok else skip) ds Q
theorem lc_imp {K : PySem.W.Frag} {fi : FL} {fg : FG} {ft : FT} {fe : FE} {js vs : List Nat} (hj : ∀ j ∈ js, j ∈ vs) : ∀ σ H Q, tF K (wLc fi fg ft fe vs) σ H Q → tLc (tI K fi) (tG K js fg) (tT K ft) (tE K fe) vs σ H Q := fun σ H Q ⟨C, F, E, Qd, I, q, k⟩ =>
  ⟨C, F, E, _, I, q, fun J H1 F1 ds w1 z1 it ⟨hl, q1⟩ => by
    intro D hD1
    have hD : H D = none := w1.back hD1
    have nD : D ∉ C.hs := fun m => by
      obtain ⟨o, e⟩ := I.hk D m
      obtain ⟨o', e'⟩ := I.w.trk D o e
      rw [hD] at e'; cases e'
    have hk : ∀ p ∈ C.hs, ∃ o, H p = some o := fun p m => by
      obtain ⟨o, e⟩ := I.hk p m
      exact I.w.trk p o e
    let stp : PyData → (PyData → Prop) → Prop → Prop := fun d ok skip => fg d (wipeE E vs) fun E2 => ft E2 fun b => if b = true then fe E2 ok else skip
    let W : Nat → Nat → Hp → Prop := fun i m h => m = ds.length - i ∧ i ≤ ds.length ∧ ∃ F2 acc rs, Wd C.hs H F h F2 ∧ Fz h F2 ∧ Le F1 F2 ∧ F2 D = none ∧ h D = some (.lst acc) ∧ DdAll K F2 acc rs ∧ rs.length ≤ i ∧ lcW stp (ds.drop i) fun zs => Qd (rs ++ zs)
    refine ⟨W, ⟨_, rfl, Nat.zero_le _, F1, [], [], w1.trans (.newO hD1 _), z1.newO (z1.fin D hD1) _, .refl _, z1.fin D hD1, upd_same, .nil, Nat.le_refl _, q1⟩, ?_⟩
    rintro i m h ⟨rfl, hi, F2, acc, rs, w2, z2, s2, fD, hh, hr, hlen, q2⟩
    obtain ⟨hgo, hstop⟩ := it h F2 s2 z2
    by_cases lt : i < ds.length
    · have hd : ds[i]? = some ds[i] := List.getElem?_eq_getElem lt
      obtain ⟨g1, g2⟩ := hgo i _ hd
      refine .inr ⟨g1, fun h' => W (i + 1) (ds.length - (i + 1)) h', fun h' x => ⟨_, by omega, x⟩, fun x h' hy => ?_⟩
      obtain ⟨F3, w3, z3, r3⟩ := g2 x h' hy
      rw [List.drop_eq_getElem_cons lt] at q2
      have w23 := w2.trans w3
      have I3 : At K C (wipe σ vs) h' F3 (wipeE E vs) := (I.step w23 z3).wipe vs
      refine ⟨C, F3, wipeE E vs, ds[i], _, I3, r3, q2, fun ρ2 E2 I4 ag q4 => ⟨ag.wipe hj, C, F3, E2, _, I4, q4, fun b H5 F5 w5 z5 q5 => ?_⟩⟩
      have keep3 := w3.keep D _ hh fD nD
      have fD3 := w3.out D _ hh fD
      have keep5 := w5.keep D _ keep3 fD3 nD
      have fD5 := w5.out D _ keep3 fD3
      cases b with
      | true =>
        refine ⟨C, F5, E2, _, I4.step w5 z5, q5, fun v H6 F6 d w6 z6 r6 q6 => ?_⟩
        have keep6 := w6.keep D _ keep5 fD5 nD
        have fD6 := w6.out D _ keep5 fD5
        have w36 := w3.trans (w5.trans w6)
        refine ⟨acc, keep6, by rw [hr.len]; omega, rfl, lt, F6, acc ++ [v], rs ++ [d], (w2.trans w36).mut hD hk _, z6.newO fD6 _, s2.trans w36.fro, fD6, upd_same, (hr.le w36.fro).app (.cons r6 .nil), by rw [List.length_append]; simp; omega, ?_⟩
        have e : (fun zs => Qd (rs ++ [d] ++ zs)) = fun zs => Qd (rs ++ (d :: zs)) := by funext zs; rw [List.append_assoc]; rfl
        rw [e]
        exact q6
      | false =>
        have w35 := w3.trans w5
        exact ⟨rfl, lt, F5, acc, rs, w2.trans w35, z5, s2.trans w35.fro, fD5, keep5, hr.le w35.fro, by omega, q5⟩
    · have e : i = ds.length := by omega
      subst e
      rw [List.drop_length] at q2
      have q3 : Qd (rs ++ []) := q2
      rw [List.append_nil] at q3
      exact .inl ⟨hstop, k D acc h F2 rs hD w2 z2 fD hh hr q3⟩⟩
theorem pf_lc {elt tg iter : Expr} {ifs : List Expr} {scope : Scope} {own : List (Str × Nat)} {fi : FL} {js : List Nat} {fg : FG} {ft : FT} {fe : FE} (hc : X.calm = true) (hN : X.N.Nodup) (hi : pI X tg iter fi) (ok : BlkOk X.N X.env.scope scope own)
    (hg : ∀ (s : Shared) (H : Hp) (C : Addr) (cl : List (Str × Addr)) (fp : List Addr), PG (X.blk s H scope (compEnvC scope cl C X.env) fp) tg (tG X.K js fg)) (ht : ∀ (s : Shared) (H : Hp) (C : Addr) (cl : List (Str × Addr)) (fp : List Addr), PTs (X.blk s H scope (compEnvC scope cl C X.env) fp) ifs (tT X.K ft))
    (he : ∀ (s : Shared) (H : Hp) (C : Addr) (cl : List (Str × Addr)) (fp : List Addr), PE (X.blk s H scope (compEnvC scope cl C X.env) fp) elt (tE X.K fe)) (hj : ∀ j ∈ js, j ∈ own.map (·.2) := by decide) (hs : ∀ x, foldedSetIterable iter X.env x = pure x := by intro _; rfl) :
    pF X (.ListComp elt [⟨tg, iter, ifs, 0⟩] scope pos) (wLc fi fg ft fe (own.map (·.2))) := PE.imp (pe_lc hc hN hi ok hg ht he hs) (lc_imp hj)
theorem q_setLc {i : Nat} {y : Str} {py : Pos} {elt tg iter : Expr} {ifs : List Expr} {scope : Scope} {own : List (Str × Nat)} {spos : Pos} {fi : FL} {js : List Nat} {fg : FG} {ft : FT} {fe : FE} (hc : X.calm = true) (hN : X.N.Nodup) (hy : X.N[i]? = some y) (hyl : X.env.scope.names.lookup y = some .local)
    (hsw : swapsWith (.ListComp elt [⟨tg, iter, ifs, 0⟩] scope pos) (some (.Name y py)) spos.line X.env = pure true) (hi : pI X tg iter fi) (ok : BlkOk X.N X.env.scope scope own)
    (hg : ∀ (s : Shared) (H : Hp) (C : Addr) (cl : List (Str × Addr)) (fp : List Addr), PG (X.blk s H scope (compEnvC scope cl C X.env) fp) tg (tG X.K js fg)) (ht : ∀ (s : Shared) (H : Hp) (C : Addr) (cl : List (Str × Addr)) (fp : List Addr), PTs (X.blk s H scope (compEnvC scope cl C X.env) fp) ifs (tT X.K ft))
    (he : ∀ (s : Shared) (H : Hp) (C : Addr) (cl : List (Str × Addr)) (fp : List Addr), PE (X.blk s H scope (compEnvC scope cl C X.env) fp) elt (tE X.K fe)) (hj : ∀ j ∈ js, j ∈ own.map (·.2) := by decide) (hs : ∀ x, foldedSetIterable iter X.env x = pure x := by intro _; rfl) :
    pS X (.Assign [.Name y py] (.ListComp elt [⟨tg, iter, ifs, 0⟩] scope pos) spos) (sSetF i (wLc fi fg ft fe (own.map (·.2)))) := PS.imp (ps_setLc hc hN hy hyl hsw hi ok hg ht he hs) fun D σ H ⟨C, F, E, Q, I, q, L⟩ =>
  lc_imp hj σ H _ ⟨C, F, E, _, I, q, fun a xs H' F' ds n w z nf hh hd q' => L.nx _ H' F' _ (I.setO w z n nf hh hd i) w.fro q'⟩
end
/-! defs by data: S tells from the arguments and the wish for what comes back -/
abbrev DSp := List SV → (SV → Prop) → Prop
def spD (K : PySem.W.Frag) (S : DSp) : Sp := fun vs H Q _ => ∃ F hs ss Qd, Fz H F ∧ (∀ p ∈ hs, ∃ o, H p = some o) ∧ SvAs K hs H F vs ss ∧ S ss Qd ∧ ∀ v H' F' r, Wd hs H F H' F' → Fz H' F' → SvR K ⟨H, F, hs⟩ F' H' v r → Qd r → Q v H'
section
variable {P : Program} {w : World} {K : PySem.W.Frag} {mg : Str → Option Value} {base : Heap}
theorem start_at {H F : Hp} {hs : List Addr} {vs : List V} {ss : List SV} {N : List Str} (z : Fz H F) (hk : ∀ p ∈ hs, ∃ o, H p = some o) (r : SvAs K hs H F vs ss) : At K ⟨H, F, hs⟩ (L2.start N vs) H F (ss.map some ++ List.replicate (N.length - ss.length) none) where
  w := .refl _ _ _
  z := z
  ln := by unfold L2.start; rw [List.length_append, List.length_append, List.length_map, List.length_map, List.length_replicate, List.length_replicate, r.len]
  s := fun i sv e => by
    have l := r.len
    by_cases lt : i < ss.length
    · rw [List.getElem?_append_left (by rw [List.length_map]; exact lt), List.getElem?_map] at e
      have gen : ∀ {vs : List V} {ss : List SV} {i : Nat} {sv : SV}, SvAs K hs H F vs ss → (ss[i]?).map some = some (some sv) → ∃ v, vs[i]? = some v ∧ SvA K hs H F v sv := by
        intro vs ss i sv r e
        induction r generalizing i with
        | nil => simp at e
        | cons a r ih =>
          cases i with
          | zero =>
            simp at e; subst e
            exact ⟨_, rfl, a⟩
          | succ i => exact ih (by simpa using e)
      obtain ⟨v, hv, q⟩ := gen r e
      refine ⟨v, ?_, ?_⟩
      · unfold L2.start
        rw [List.getElem?_append_left (by rw [List.length_map, l]; exact lt), List.getElem?_map, hv]; rfl
      · cases sv with
        | d d => exact q
        | own ds => exact q.elim
        | dct u => exact q.elim
        | pen => exact q
        | scr ns => exact q.elim
        | bor ds =>
          obtain ⟨a, xs, e, na, hf, hh, hd⟩ := q
          exact ⟨a, xs, e, na, hf, ⟨_, hh⟩, hh, hd⟩
    · rw [List.getElem?_append_right (by rw [List.length_map]; omega), List.getElem?_replicate] at e
      split at e <;> cases e
  dj := fun i j ds es v _ e1 _ q1 _ => by
    have l := r.len
    by_cases lt : i < ss.length
    · rw [List.getElem?_append_left (by rw [List.length_map]; exact lt), List.getElem?_map] at e1
      have gen : ∀ {vs : List V} {ss : List SV} {i : Nat} {ds : List PyData}, SvAs K hs H F vs ss → (ss[i]?).map some = some (some (.own ds)) → False := by
        intro vs ss i ds r e
        induction r generalizing i with
        | nil => simp at e
        | cons a r ih =>
          cases i with
          | zero =>
            simp at e; subst e
            exact a
          | succ i => exact ih (by simpa using e)
      exact gen r e1
    · rw [List.getElem?_append_right (by rw [List.length_map]; omega), List.getElem?_replicate] at e1
      split at e1 <;> cases e1
  djd := fun i j ds es v _ e1 _ q1 _ => by
    have l := r.len
    by_cases lt : i < ss.length
    · rw [List.getElem?_append_left (by rw [List.length_map]; exact lt), List.getElem?_map] at e1
      have gen : ∀ {vs : List V} {ss : List SV} {i : Nat} {ds : DU}, SvAs K hs H F vs ss → (ss[i]?).map some = some (some (.dct ds)) → False := by
        intro vs ss i ds r e
        induction r generalizing i with
        | nil => simp at e
        | cons a r ih =>
          cases i with
          | zero =>
            simp at e; subst e
            exact a
          | succ i => exact ih (by simpa using e)
      exact gen r e1
    · rw [List.getElem?_append_right (by rw [List.length_map]; omega), List.getElem?_replicate] at e1
      split at e1 <;> cases e1
  hk := hk
/-- a def, by its body's reading -/
theorem okD {x qual : Str} {st : Stmt} {f : Addr} {fd : FuncData} {N ps : List Str} {k : Nat} {S : DSp} {g : FS} (F : Fun K x qual st f fd) (Sc : FnScope N ps (defScope st)) (ln : ∀ ss Q, S ss Q → ss.length = ps.length)
    (hb : ∀ (cdv : Value) (A : Around) (o : List Env) (s : Shared) (H : Hp) (E : XK), Rm k (A.deeper (envOfC qual (defScope st) s.heap.objs.size f cdv)) → pSs (cxOf CX0 P w K mg base N qual (defScope st) f cdv A o s H E).nox (defBody st) g)
    (hs : ∀ ss Q, S ss Q → g { nx := fun _ => Q (.d .none), rt := Q } (ss.map some ++ List.replicate (N.length - ss.length) none)) : FnG P w K mg base CX0 (k + 1) f fd ps (spD K S) := by
  refine okG F Sc (fun vs H Q E h => ?_) (fun cdv A o s H vs Q E hr h => ?_)
  · obtain ⟨F1, hs1, ss, Qd, z, hk, r, q, _⟩ := h
    rw [r.len]; exact ln ss Qd q
  · obtain ⟨F1, hs1, ss, Qd, z, hk, r, q, k1⟩ := h
    refine ⟨_, hb cdv A o s H E hr, ⟨H, F1, hs1⟩, F1, _, _, start_at z hk r, hs ss Qd q, ?_⟩
    refine ⟨fun σ' H' F' E' I' s' q' => k1 .non H' F' (.d .none) I'.w I'.z .non q', fun _ _ _ _ _ _ q' => q'.elim, fun _ _ _ _ _ _ q' => q'.elim, fun v H' F' r w' z' rr q' => k1 v H' F' r w' z' rr q', fun _ _ _ _ _ _ _ _ _ _ _ q' => q'.elim⟩
end
/-! calls -/
section
variable {X : Cx} {S : DSp} {fa fk : FA} {t tk : TA}
def rD (Q : PyData → Prop) : SV → Prop
  | .d d => Q d
  | .own ds => Q (.list ds)
  | _ => False
def rF (Q : List PyData → Prop) : SV → Prop
  | .own ds => Q ds
  | _ => False
def wCall (S : DSp) (fa : FA) : FE := fun E Q => fa E fun ss => S ss (rD Q)
def wCallF (S : DSp) (fa : FA) : FL := fun E Q => fa E fun ss => S ss (rF Q)
theorem call_imp {K : PySem.W.Frag} {E0 : XK} : ∀ σ H Q, tE K (wCall S fa) σ H Q → tCall (spD K S) [] E0 (tAr K fa) σ H Q := fun σ H Q ⟨C, F, E, Qd, I, q, k⟩ =>
  ⟨C, F, E, _, I, q, fun vs H1 F1 ss w1 z1 r1 q1 => by
    refine ⟨F1, C.hs, ss, _, z1, fun p m => ?_, by rw [List.append_nil]; exact r1, q1, fun v H' F' r w2 z2 rr q2 => ?_⟩
    · obtain ⟨o, e⟩ := I.hk p m
      obtain ⟨o1, e1⟩ := I.w.trk p o e
      exact w1.trk p o1 e1
    · cases r with
      | d d => exact k v H' F' d (w1.trans w2) z2 rr q2
      | own ds =>
        obtain ⟨a, xs, rfl, n, nf, hh, hd⟩ := rr
        have s : Le F' (upd F' a (.lst xs)) := .of (same_new nf _)
        exact k (.ref a) H' (upd F' a (.lst xs)) (.list ds) (w1.trans (w2.rest n nf)) (z2.stop hh nf) (.lst upd_same (DdAll.le s hd)) q2
      | pen => exact q2.elim
      | scr _ => exact q2.elim
      | bor _ => exact q2.elim
      | dct _ => exact q2.elim⟩
theorem callF_imp {K : PySem.W.Frag} {E0 : XK} : ∀ σ H Q, tF K (wCallF S fa) σ H Q → tCall (spD K S) [] E0 (tAr K fa) σ H Q := fun σ H Q ⟨C, F, E, Qd, I, q, k⟩ =>
  ⟨C, F, E, _, I, q, fun vs H1 F1 ss w1 z1 r1 q1 => by
    refine ⟨F1, C.hs, ss, _, z1, fun p m => ?_, by rw [List.append_nil]; exact r1, q1, fun v H' F' r w2 z2 rr q2 => ?_⟩
    · obtain ⟨o, e⟩ := I.hk p m
      obtain ⟨o1, e1⟩ := I.w.trk p o e
      exact w1.trk p o1 e1
    · cases r with
      | own ds =>
        obtain ⟨a, xs, rfl, n, nf, hh, hd⟩ := rr
        exact k a xs H' F' ds (w1.back n) (w1.trans w2) z2 nf hh hd q2
      | d d => exact q2.elim
      | pen => exact q2.elim
      | scr _ => exact q2.elim
      | bor _ => exact q2.elim
      | dct _ => exact q2.elim⟩
variable {f : Addr} {fd : FuncData} {ps ks : List Str} {k : Nat} {x : Str} {p pos : Pos} {e : Expr} {es : List Expr} {kws : List Keyword}
theorem pd_call (G : FnG X.prog X.w X.K X.mg X.base CX0 k f fd ps (spD X.K S)) (hr : Rm k X.A) (hg : Gl X x) (hm : X.mg x = some (.ref f)) (hk : PySem.W.keepIn X.K (.ref f) = true) (hb : Binds X.K fd ps [])
    (ha : pA X (e :: es) fa) (hdb : (x == ("__debug__" : Str)) = false := by decide) (he : starEach (e :: es) X.env = (false, eval e X.env) :: starEach es X.env := by rfl) (hpl : (backTo pos (starEach es X.env)).any (·.1) = false := by rfl) :
    pD X (.Call (.Name x p) (e :: es) [] pos) (wCall S fa) := PE.imp (ge_call (E := fun _ _ _ => False) G hr hg hm hk hb .nil pass0 ha hdb he hpl) call_imp
theorem pf_call (G : FnG X.prog X.w X.K X.mg X.base CX0 k f fd ps (spD X.K S)) (hr : Rm k X.A) (hg : Gl X x) (hm : X.mg x = some (.ref f)) (hk : PySem.W.keepIn X.K (.ref f) = true) (hb : Binds X.K fd ps [])
    (ha : pA X (e :: es) fa) (hdb : (x == ("__debug__" : Str)) = false := by decide) (he : starEach (e :: es) X.env = (false, eval e X.env) :: starEach es X.env := by rfl) (hpl : (backTo pos (starEach es X.env)).any (·.1) = false := by rfl) :
    pF X (.Call (.Name x p) (e :: es) [] pos) (wCallF S fa) := PE.imp (ge_call (E := fun _ _ _ => False) G hr hg hm hk hb .nil pass0 ha hdb he hpl) callF_imp
/-- keywords alone, put in order -/
theorem SvAs.perm {K : PySem.W.Frag} {hs : List Addr} {H F : Hp} {g : {α : Type} → List α → List α → List α} (hg : ∀ {α β : Type} (R : α → β → Prop) (as : List α) (bs : List β), Paired R as bs → Paired R (g [] as) (g [] bs)) {vs : List V} {ss : List SV} (r : SvAs K hs H F vs ss) : SvAs K hs H F (g [] vs) (g [] ss) := by
  have to : ∀ {vs : List V} {ss : List SV}, SvAs K hs H F vs ss → Paired (SvA K hs H F) vs ss := by
    intro vs ss r
    induction r with
    | nil => exact .nil
    | cons a _ ih => exact .cons a ih
  have fro : ∀ {vs : List V} {ss : List SV}, Paired (SvA K hs H F) vs ss → SvAs K hs H F vs ss := by
    intro vs ss r
    induction r with
    | nil => exact .nil
    | cons a _ ih => exact .cons a ih
  exact fro (hg _ _ _ (to r))
def wCallK (S : DSp) (g : {α : Type} → List α → List α → List α) (fk : FA) : FE := fun E Q => fk E fun ss => S (g [] ss) (rD Q)
theorem pd_callK {g : {α : Type} → List α → List α → List α} (hp : ∀ {α β : Type} (R : α → β → Prop) (as : List α) (bs : List β), Paired R as bs → Paired R (g [] as) (g [] bs)) (G : FnG X.prog X.w X.K X.mg X.base CX0 k f fd ps (spD X.K S)) (hr : Rm k X.A) (hg : Gl X x) (hm : X.mg x = some (.ref f)) (hk : PySem.W.keepIn X.K (.ref f) = true) (hb : KBinds X.K fd ps ks g g)
    (hkw : pK X kws fk) (hall : (backToKw pos (keywordEach kws X.env)).all (·.1.isSome) = true := by rfl) (hks : (backToKw pos (keywordEach kws X.env)).filterMap (·.1) = ks := by rfl)
    (hdb : (x == ("__debug__" : Str)) = false := by decide)
    (hpl : ((backTo pos (starEach [] X.env)).any (·.1) || (backToKw pos (keywordEach kws X.env)).any (·.1.isNone)) = false := by rfl) :
    pD X (.Call (.Name x p) [] kws pos) (wCallK S g fk) := PE.imp (ge_callK (E := fun _ _ _ => False) G hr hg hm hk hb pass0 hkw hall hks hdb hpl) fun σ H Q ⟨C, F, E, Qd, I, q, k⟩ =>
  ⟨C, F, E, _, I, q, fun vs H1 F1 ss w1 z1 r1 q1 => by
    refine ⟨F1, C.hs, g [] ss, _, z1, fun p m => ?_, r1.perm hp, q1, fun v H' F' r w2 z2 rr q2 => ?_⟩
    · obtain ⟨o, e⟩ := I.hk p m
      obtain ⟨o1, e1⟩ := I.w.trk p o e
      exact w1.trk p o1 e1
    · cases r with
      | d d => exact k v H' F' d (w1.trans w2) z2 rr q2
      | own ds =>
        obtain ⟨a, xs, rfl, n, nf, hh, hd⟩ := rr
        have s : Le F' (upd F' a (.lst xs)) := .of (same_new nf _)
        exact k (.ref a) H' (upd F' a (.lst xs)) (.list ds) (w1.trans (w2.rest n nf)) (z2.stop hh nf) (.lst upd_same (DdAll.le s hd)) q2
      | pen => exact q2.elim
      | scr _ => exact q2.elim
      | bor _ => exact q2.elim
      | dct _ => exact q2.elim⟩
end
end Dl

/-! operators, built-ins by data -/
namespace Dl
open PySem PySem.Spec PyProof.Rows L2 Vx
section
variable {K : PySem.W.Frag} {hs : List Addr} {H F : Hp} {v : V}
theorem OwR.list {ds : List PyData} (h : OwR K hs H F v (.list ds)) (z : Fz H F) : ∃ a xs, v = .ref a ∧ H a = some (.lst xs) ∧ DdAll K F xs ds := by
  rcases h with h | ⟨a, xs, es, rfl, e, na, hf, hh, hd⟩
  · cases h with
    | lst h r => exact ⟨_, _, rfl, z.sub.l _ _ h, r⟩
  · cases e
    exact ⟨a, xs, rfl, hh, hd⟩
theorem OwR.tup {ds : List PyData} (h : OwR K hs H F v (.tuple ds)) (z : Fz H F) : ∃ a xs, v = .ref a ∧ SqT K H a xs ∧ DdAll K F xs ds := by
  rcases h with h | ⟨a, xs, es, rfl, e, na, hf, hh, hd⟩
  · cases h with
    | tup h r => exact ⟨_, _, rfl, SqT.of (z.sub.t _ _ h), r⟩
  · cases e
theorem OwR.tupF {ds : List PyData} (h : OwR K hs H F v (.tuple ds)) : ∃ a xs, v = .ref a ∧ F a = some (.tup xs) ∧ DdAll K F xs ds := by
  rcases h with h | ⟨a, xs, es, rfl, e, na, hf, hh, hd⟩
  · cases h with
    | tup h r => exact ⟨_, _, rfl, h, r⟩
  · cases e
theorem OwR.int {i : Int} (h : OwR K hs H F v (.int i)) : v = .int i := by
  rcases h with h | ⟨a, xs, es, rfl, e, _⟩
  · exact h.inte
  · cases e
theorem OwR.str {i : Str} (h : OwR K hs H F v (.str i)) : v = .str i := by
  rcases h with h | ⟨a, xs, es, rfl, e, _⟩
  · exact h.stre
  · cases e
theorem OwR.bl {i : Bool} (h : OwR K hs H F v (.bool i)) : v = .bl i := by
  rcases h with h | ⟨a, xs, es, rfl, e, _⟩
  · exact h.bool
  · cases e
theorem OwR.non (h : OwR K hs H F v .none) : v = .non := by
  rcases h with h | ⟨a, xs, es, rfl, e, _⟩
  · cases h; rfl
  · cases e
theorem OwR.dp {d : PyData} (h : OwR K hs H F v d) (z : Fz H F) (n : noD d = true) : Dp K H v d := Dd.dp d v n (h.all z)
abbrev G2 := PyData → PyData → (PyData → Prop) → Prop
/-- some tuple of these, new or not -/
theorem someT_of {xs : List V} {ds : List PyData} {Qd : PyData → Prop} {Q : VK} (z : Fz H F) (r : DdAll K F xs ds) (q : Qd (.tuple ds)) (k : ∀ v H' F' d, Wd hs H F H' F' → Fz H' F' → Dd K F' v d → Qd d → Q v H') : ∀ p, H p = none → Q (.ref p) (upd H p (.tup xs)) := fun p hp =>
  k _ _ (upd F p (.tup xs)) _ (.newF z hp _) (z.newF hp _) (.tup upd_same (DdAll.le (.of (same_new (z.fin p hp) _)) r)) q
end
section
variable {X : Cx}
/-! + -/
def gAdd : G2 := fun d e Q => match d, e with
  | .int i, .int j => Q (.int (i + j))
  | .str a, .str b => a.length + b.length ≤ sizeLine ∧ Q (.str (a ++ b))
  | .tuple a, .tuple b => a.length + b.length ≤ sizeLine ∧ Q (.tuple (a ++ b))
  | .list a, .list b => a.length + b.length ≤ sizeLine ∧ Q (.list (a ++ b))
  | _, _ => False
/-- t + u of tuples, by what comes of it, new or one of the two -/
def rCatD (K : PySem.W.Frag) : R2 := fun x y H Q => ∃ a b xs ys, x = .ref a ∧ y = .ref b ∧ SqT K H a xs ∧ SqT K H b ys ∧ xs.length + ys.length ≤ sizeLine ∧ (xs = [] → Q y H) ∧ (ys = [] → Q x H) ∧ ∀ p, H p = none → Q (.ref p) (upd H p (.tup (xs ++ ys)))
theorem op_catD : OpR X (binaryOp .Add) (rCatD X.K) := by
  intro pins s σ H x y v u Q I rx ry h
  obtain ⟨a, b, xs, ys, ea, eb, ha, hb, hz, q1, q2, q3⟩ := h
  refine op_catA pins s σ H x y v u Q I rx ry ⟨a, b, xs, ys, ea, eb, ha, hb, hz, fun e => ?_, fun _ e => ?_, fun _ _ => q3⟩
  · exact eb ▸ q1 e
  · exact ea ▸ q2 e
def rAddA (K : PySem.W.Frag) : R2 := fun x y H Q => (∃ i j, x = .int i ∧ y = .int j ∧ Q (.int (i + j)) H) ∨ (∃ i j, x = .str i ∧ y = .str j ∧ i.length + j.length ≤ sizeLine ∧ Q (.str (i ++ j)) H) ∨ rCatD K x y H Q ∨ rCat x y H Q
theorem op_addA : OpR X (binaryOp .Add) (rAddA X.K) := OpR.or op_add (OpR.or op_add_str (OpR.or op_catD op_cat))
theorem add_d {K : PySem.W.Frag} : OpD K (rAddA K) gAdd := by
  intro hs H F x y d e Qd Q z rx ry g k
  cases d with
  | int i => cases e with
    | int j => exact .inl ⟨i, j, rx.int, ry.int, k _ H F _ (.refl _ _ _) z (.int _) g⟩
    | _ => exact g.elim
  | str i => cases e with
    | str j => exact .inr (.inl ⟨i, j, rx.str, ry.str, g.1, k _ H F _ (.refl _ _ _) z (.str _) g.2⟩)
    | _ => exact g.elim
  | tuple i => cases e with
    | tuple j =>
      rcases rx with rx | ⟨_, _, _, _, w, _⟩
      · rcases ry with ry | ⟨_, _, _, _, w, _⟩
        · cases rx with
          | tup h1 r1 => cases ry with
            | tup h2 r2 =>
              refine .inr (.inr (.inl ⟨_, _, _, _, rfl, rfl, SqT.of (z.sub.t _ _ h1), SqT.of (z.sub.t _ _ h2), by rw [r1.len, r2.len]; exact g.1, fun e => ?_, fun e => ?_, someT_of z (r1.app r2) g.2 k⟩))
              · subst e
                cases r1
                exact k _ H F _ (.refl _ _ _) z (.tup h2 r2) g.2
              · subst e
                cases r2
                refine k _ H F _ (.refl _ _ _) z (.tup h1 r1) ?_
                have := g.2
                rwa [List.append_nil] at this
        · cases w
      · cases w
    | _ => exact g.elim
  | list i => cases e with
    | list j =>
      obtain ⟨a, xs, rfl, h1, r1⟩ := rx.list z
      obtain ⟨b, ys, rfl, h2, r2⟩ := ry.list z
      refine .inr (.inr (.inr ⟨a, b, xs, ys, rfl, rfl, h1, h2, by rw [r1.len, r2.len]; exact g.1, fun p hp => ?_⟩))
      exact k _ _ (upd F p (.lst (xs ++ ys))) _ (.newF z hp _) (z.newF hp _) (.lst upd_same (DdAll.le (.of (same_new (z.fin p hp) _)) (r1.app r2))) g.2
    | _ => exact g.elim
  | _ => cases e <;> exact g.elim
/-- a list plus a list, one's own -/
def OpF (K : PySem.W.Frag) (r : R2) (g : PyData → PyData → (List PyData → Prop) → Prop) : Prop :=
  ∀ hs H F x y d e Qd Q, Fz H F → OwR K hs H F x d → OwR K hs H F y e → g d e Qd → (∀ a xs H' F' ds, H a = none → Wd hs H F H' F' → Fz H' F' → F' a = none → H' a = some (.lst xs) → DdAll K F' xs ds → Qd ds → Q (.ref a) H') → r x y H Q
def wOpF (g : PyData → PyData → (List PyData → Prop) → Prop) (fa fb : FE) : FL := fun E Q => fa E fun x => fb E fun y => g x y Q
theorem opF_imp {K : PySem.W.Frag} {r : R2} {g : PyData → PyData → (List PyData → Prop) → Prop} {fa fb : FE} (o : OpF K r g) : ∀ σ H Q, tF K (wOpF g fa fb) σ H Q → tOp r (tH K fa) (tH K fb) σ H Q := fun σ H Q ⟨C, F, E, Qd, I, q, k⟩ =>
  ⟨C, F, E, _, I, q, fun x H1 F1 d w1 z1 r1 q1 => ⟨C, F1, E, _, I.step w1 z1, q1, fun y H2 F2 e w2 z2 r2 q2 =>
    o C.hs H2 F2 x y d e Qd Q z2 (r1.step w2) r2 q2 fun a xs H' F' ds n w z => k a xs H' F' ds ((w1.trans w2).back n) (w1.trans (w2.trans w)) z⟩⟩
theorem pf_op {op : Operator} {r : R2} {g : PyData → PyData → (List PyData → Prop) → Prop} {a b : Expr} {fa fb : FE} {pos : Pos} (ho : OpR X (binaryOp op) r) (hg : OpF X.K r g) (ha : pH X a fa) (hb : pH X b fb) : pF X (.BinOp a op b pos) (wOpF g fa fb) := PE.imp (pe_op ho ha hb) (opF_imp hg)
def gCat : PyData → PyData → (List PyData → Prop) → Prop := fun d e Q => match d, e with
  | .list a, .list b => a.length + b.length ≤ sizeLine ∧ Q (a ++ b)
  | _, _ => False
theorem cat_f {K : PySem.W.Frag} : OpF K rCat gCat := by
  intro hs H F x y d e Qd Q z rx ry g k
  cases d with
  | list i => cases e with
    | list j =>
      obtain ⟨a, xs, rfl, h1, r1⟩ := rx.list z
      obtain ⟨b, ys, rfl, h2, r2⟩ := ry.list z
      exact ⟨a, b, xs, ys, rfl, rfl, h1, h2, by rw [r1.len, r2.len]; exact g.1, fun p hp => k p _ _ F _ hp (.newO hp _) (z.newO (z.fin p hp) _) (z.fin p hp) upd_same (r1.app r2) g.2⟩
    | _ => exact g.elim
  | _ => cases e <;> exact g.elim
/-! -, *, %, //, ** -/
def gSub : G2 := fun d e Q => match d, e with
  | .int i, .int j => Q (.int (i - j))
  | _, _ => False
theorem sub_d {K : PySem.W.Frag} : OpD K (rI0 fun i j => .int (i - j)) gSub := by
  intro hs H F x y d e Qd Q z rx ry g k
  cases d with
  | int i => cases e with
    | int j => exact ⟨i, j, rx.int, ry.int, k _ H F _ (.refl _ _ _) z (.int _) g⟩
    | _ => exact g.elim
  | _ => cases e <;> exact g.elim
def MulOk (i j : Int) : Prop := CMul i j ∨ CMulW i j
def gMul : G2 := fun d e Q => match d, e with
  | .int i, .int j => MulOk i j ∧ Q (.int (i * j))
  | .tuple a, .int j => a ≠ [] ∧ -1000 ≤ j ∧ j ≤ 1000 ∧ a.length ≤ 1000 ∧ Q (.tuple (List.replicate j.toNat a).flatten)
  | .list a, .int j => -(2 ^ 63) ≤ j ∧ j < 2 ^ 63 ∧ a.length * j.toNat ≤ sizeLine ∧ Q (.list (List.replicate j.toNat a).flatten)
  | _, _ => False
/-- t * k: new, or t itself -/
def rRepD (K : PySem.W.Frag) : R2 := fun x y H Q => ∃ l k xs, x = .ref l ∧ y = .int k ∧ SqT K H l xs ∧ xs ≠ [] ∧ -1000 ≤ k ∧ k ≤ 1000 ∧ xs.length ≤ 1000 ∧ (k = 1 → Q x H) ∧ ∀ p, H p = none → Q (.ref p) (upd H p (.tup (List.replicate k.toNat xs).flatten))
theorem op_repD : OpR X (binaryOp .Mult) (rRepD X.K) := by
  intro pins s σ H x y v u Q I rx ry h
  obtain ⟨l, k, xs, rfl, rfl, hT, hne, h1, h2, hz, q1, q⟩ := h
  by_cases k2 : 2 ≤ k
  · exact op_repT pins s σ H _ _ v u Q I rx ry ⟨l, k, xs, rfl, rfl, hT, hne, k2, h2, hz, q⟩
  cases rx
  obtain ⟨t, rfl⟩ := ry
  obtain ⟨its, r, ⟨⟨cls, dd, data, sl⟩, ho, hc, n, hd⟩, hs⟩ := I.tuple hT
  simp only at hc hd
  subst hc hd
  have hle : its.length = xs.length := r.length.symm
  have hi : its.toArray.isEmpty = false := by
    match its, hle with
    | [], e => exact absurd (List.eq_nil_of_length_eq_zero e.symm) hne
    | _ :: _, _ => rfl
  by_cases k1 : k = 1
  · subst k1
    have c1 : (its.toArray.isEmpty || (1 : Int) == 1) = true := by rw [hi]; rfl
    refine wpAny_binaryOp_repeat_ref (T := "tuple") (U := "int") (by decide) ⟨_, ho, rfl⟩ (fun s' => typeIs_int s' 1 t) noFill_tuple_mul F.fills_int_mul F.slot_int_rmul repeat_tuple F.slot_int_index.lookup ?_
    refine call_meets F.slot_int_rmul (typeIs_int s 1 t) F.entry_int_rmul (F.args_int_rmul_2 _ _) (int_rmul_tuple 1 t l its.toArray n dd sl) ⟨ho, rfl, ⟨_, ho, rfl⟩, ?_⟩
    refine call_meets F.slot_tuple_mul ⟨_, ho, rfl⟩ F.entry_tuple_mul (F.args_tuple_mul_2 _ _) (times_one l its.toArray n dd sl t c1) ⟨ho, ?_⟩
    exact ⟨.ref l, H, I, rfl, q1 rfl⟩
  · have k0 : k ≤ 0 := by omega
    have e0 : k.toNat = 0 := by omega
    rw [e0] at q
    have c0 : (decide (k < -(2 ^ 63)) || decide (k ≥ 2 ^ 63)) = false := by
      rw [decide_eq_false (by omega), decide_eq_false (by omega)]; rfl
    have c1 : (its.toArray.isEmpty || k == 1) = false := by
      rw [hi, Bool.false_or]
      exact beq_eq_false_iff_ne.mpr k1
    have c2 : (decide (k ≤ 0) || its.toArray.isEmpty) = true := by rw [decide_eq_true k0]; rfl
    refine wpAny_binaryOp_repeat_ref (T := "tuple") (U := "int") (by decide) ⟨_, ho, rfl⟩ (fun s' => typeIs_int s' k t) noFill_tuple_mul F.fills_int_mul F.slot_int_rmul repeat_tuple F.slot_int_index.lookup ?_
    refine call_meets F.slot_int_rmul (typeIs_int s k t) F.entry_int_rmul (F.args_int_rmul_2 _ _) (int_rmul_tuple k t l its.toArray n dd sl) ⟨ho, rfl, ⟨_, ho, rfl⟩, ?_⟩
    refine call_meets F.slot_tuple_mul ⟨_, ho, rfl⟩ F.entry_tuple_mul (F.args_tuple_mul_2 _ _) (times_none l its.toArray n dd sl k t c0 c1 c2) ⟨ho, ?_⟩
    have hp : H s.heap.objs.size = none := I.hok.fresh (Nat.le_refl _)
    refine ⟨.ref s.heap.objs.size, _, I.laid (t' := s.toks) (o := .tup []) (fun b ob e => Heap.get?_push_of_some _ e) (Nat.le_refl _) ?_, rfl, q _ hp⟩
    exact ⟨Nat.zero_le _, [], .nil, IsTup.new _ _⟩
def rMulA (K : PySem.W.Frag) : R2 := fun x y H Q => (∃ i j, x = .int i ∧ y = .int j ∧ CMul i j ∧ Q (.int (i * j)) H) ∨ (∃ i j, x = .int i ∧ y = .int j ∧ CMulW i j ∧ Q (.int (i * j)) H) ∨ rRepD K x y H Q ∨ rRep x y H Q
theorem op_mulA : OpR X (binaryOp .Mult) (rMulA X.K) := OpR.or op_mul (OpR.or op_mulW (OpR.or op_repD op_rep))
theorem mul_d {K : PySem.W.Frag} : OpD K (rMulA K) gMul := by
  intro hs H F x y d e Qd Q z rx ry g k
  cases d with
  | int i => cases e with
    | int j =>
      obtain ⟨m | m, g⟩ := g
      · exact .inl ⟨i, j, rx.int, ry.int, m, k _ H F _ (.refl _ _ _) z (.int _) g⟩
      · exact .inr (.inl ⟨i, j, rx.int, ry.int, m, k _ H F _ (.refl _ _ _) z (.int _) g⟩)
    | _ => exact g.elim
  | tuple i => cases e with
    | int j =>
      obtain ⟨g0, g1, g2, g3, g4⟩ := g
      rcases rx with rx | ⟨_, _, _, _, w, _⟩
      · cases rx with
        | tup h1 r1 =>
          refine .inr (.inr (.inl ⟨_, j, _, rfl, ry.int, SqT.of (z.sub.t _ _ h1), fun e => ?_, g1, g2, by rw [r1.len]; exact g3, fun e => ?_, someT_of z (r1.reps j.toNat) g4 k⟩))
          · subst e; cases r1; exact g0 rfl
          · subst e
            refine k _ H F _ (.refl _ _ _) z (.tup h1 r1) ?_
            have e : (List.replicate (1 : Int).toNat i).flatten = i := by simp
            rwa [e] at g4
      · cases w
    | _ => exact g.elim
  | list i => cases e with
    | int j =>
      obtain ⟨a, xs, rfl, h1, r1⟩ := rx.list z
      obtain ⟨g1, g2, g3, g4⟩ := g
      refine .inr (.inr (.inr ⟨a, j, xs, rfl, ry.int, h1, g1, g2, by rw [r1.len]; exact g3, fun p hp => ?_⟩))
      exact k _ _ (upd F p _) _ (.newF z hp _) (z.newF hp _) (.lst upd_same (DdAll.le (.of (same_new (z.fin p hp) _)) (r1.reps j.toNat))) g4
    | _ => exact g.elim
  | _ => cases e <;> exact g.elim
def gRep : PyData → PyData → (List PyData → Prop) → Prop := fun d e Q => match d, e with
  | .list a, .int j => -(2 ^ 63) ≤ j ∧ j < 2 ^ 63 ∧ a.length * j.toNat ≤ sizeLine ∧ Q (List.replicate j.toNat a).flatten
  | _, _ => False
theorem rep_f {K : PySem.W.Frag} : OpF K rRep gRep := by
  intro hs H F x y d e Qd Q z rx ry g k
  cases d with
  | list i => cases e with
    | int j =>
      obtain ⟨a, xs, rfl, h1, r1⟩ := rx.list z
      obtain ⟨g1, g2, g3, g4⟩ := g
      exact ⟨a, j, xs, rfl, ry.int, h1, g1, g2, by rw [r1.len]; exact g3, fun p hp => k p _ _ F _ hp (.newO hp _) (z.newO (z.fin p hp) _) (z.fin p hp) upd_same (r1.reps j.toNat) g4⟩
    | _ => exact g.elim
  | _ => cases e <;> exact g.elim
def gMod : G2 := fun d e Q => match d, e with
  | .int i, .int j => 0 < j ∧ Q (.int (i % j))
  | _, _ => False
theorem mod_d {K : PySem.W.Frag} : OpD K (rI (fun _ j => 0 < j) fun i j => .int (i % j)) gMod := by
  intro hs H F x y d e Qd Q z rx ry g k
  cases d with
  | int i => cases e with
    | int j => exact ⟨i, j, rx.int, ry.int, g.1, k _ H F _ (.refl _ _ _) z (.int _) g.2⟩
    | _ => exact g.elim
  | _ => cases e <;> exact g.elim
def gDiv : G2 := fun d e Q => match d, e with
  | .int i, .int j => CDivW i j ∧ Q (.int (i / j))
  | _, _ => False
theorem div_d {K : PySem.W.Frag} : OpD K (rI CDivW fun i j => .int (i / j)) gDiv := by
  intro hs H F x y d e Qd Q z rx ry g k
  cases d with
  | int i => cases e with
    | int j => exact ⟨i, j, rx.int, ry.int, g.1, k _ H F _ (.refl _ _ _) z (.int _) g.2⟩
    | _ => exact g.elim
  | _ => cases e <;> exact g.elim
theorem divOk {i j : Int} (h : 0 < j) (h2 : j ≤ 1000000) : CDivW i j := wide_div h (b := 20) (Nat.lt_of_le_of_lt (show j.natAbs ≤ 1000000 by omega) (by decide)) (by decide) (by decide)
def gPow : G2 := fun d e Q => match d, e with
  | .int i, .int j => CPow i j ∧ Q (.int (i ^ j.toNat))
  | _, _ => False
theorem pow_d {K : PySem.W.Frag} : OpD K (rI CPow fun i j => .int (i ^ j.toNat)) gPow := by
  intro hs H F x y d e Qd Q z rx ry g k
  cases d with
  | int i => cases e with
    | int j => exact ⟨i, j, rx.int, ry.int, g.1, k _ H F _ (.refl _ _ _) z (.int _) g.2⟩
    | _ => exact g.elim
  | _ => cases e <;> exact g.elim
/-! comparisons -/
def gLt : G2 := fun d e Q => match d, e with
  | .int i, .int j => Q (.bool (decide (i < j)))
  | .str i, .str j => Q (.bool (decide (i.cps.toList < j.cps.toList)))
  | _, _ => False
def rLtA : R2 := fun x y H Q => (∃ i j, x = .int i ∧ y = .int j ∧ Q (.bl (decide (i < j))) H) ∨ (∃ i j, x = .str i ∧ y = .str j ∧ Q (.bl (decide (i.cps.toList < j.cps.toList))) H)
theorem op_ltA : OpR X (compareOp .Lt) rLtA := OpR.or op_lt op_lt_str
theorem lt_d {K : PySem.W.Frag} : OpD K rLtA gLt := by
  intro hs H F x y d e Qd Q z rx ry g k
  cases d with
  | int i => cases e with
    | int j => exact .inl ⟨i, j, rx.int, ry.int, k _ H F _ (.refl _ _ _) z (.bl _) g⟩
    | _ => exact g.elim
  | str i => cases e with
    | str j => exact .inr ⟨i, j, rx.str, ry.str, k _ H F _ (.refl _ _ _) z (.bl _) g⟩
    | _ => exact g.elim
  | _ => cases e <;> exact g.elim
def gLe : G2 := fun d e Q => match d, e with
  | .int i, .int j => Q (.bool (decide (i ≤ j)))
  | .str i, .str j => Q (.bool (!decide (j.cps.toList < i.cps.toList)))
  | _, _ => False
def rLeA : R2 := fun x y H Q => (∃ i j, x = .int i ∧ y = .int j ∧ Q (.bl (decide (i ≤ j))) H) ∨ (∃ i j, x = .str i ∧ y = .str j ∧ Q (.bl (!decide (j.cps.toList < i.cps.toList))) H)
theorem op_leA : OpR X (compareOp .LtE) rLeA := OpR.or op_le op_le_str
theorem le_d {K : PySem.W.Frag} : OpD K rLeA gLe := by
  intro hs H F x y d e Qd Q z rx ry g k
  cases d with
  | int i => cases e with
    | int j => exact .inl ⟨i, j, rx.int, ry.int, k _ H F _ (.refl _ _ _) z (.bl _) g⟩
    | _ => exact g.elim
  | str i => cases e with
    | str j => exact .inr ⟨i, j, rx.str, ry.str, k _ H F _ (.refl _ _ _) z (.bl _) g⟩
    | _ => exact g.elim
  | _ => cases e <;> exact g.elim
def gGt : G2 := fun d e Q => match d, e with
  | .int i, .int j => Q (.bool (decide (j < i)))
  | _, _ => False
theorem gt_d {K : PySem.W.Frag} : OpD K (rI0 fun i j => .bl (decide (j < i))) gGt := by
  intro hs H F x y d e Qd Q z rx ry g k
  cases d with
  | int i => cases e with
    | int j => exact ⟨i, j, rx.int, ry.int, k _ H F _ (.refl _ _ _) z (.bl _) g⟩
    | _ => exact g.elim
  | _ => cases e <;> exact g.elim
def gGe : G2 := fun d e Q => match d, e with
  | .int i, .int j => Q (.bool (decide (j ≤ i)))
  | _, _ => False
theorem ge_d {K : PySem.W.Frag} : OpD K (rI0 fun i j => .bl (decide (j ≤ i))) gGe := by
  intro hs H F x y d e Qd Q z rx ry g k
  cases d with
  | int i => cases e with
    | int j => exact ⟨i, j, rx.int, ry.int, k _ H F _ (.refl _ _ _) z (.bl _) g⟩
    | _ => exact g.elim
  | _ => cases e <;> exact g.elim
mutual
theorem noD_lay : ∀ d : PyData, d.canLay0 = true → noD d = true
  | .none, _ => rfl
  | .bool _, _ => rfl
  | .int _, _ => rfl
  | .str _, _ => rfl
  | .list xs, h => noDs_lay xs h
  | .tuple xs, h => noDs_lay xs h
  | .dict _, h => by cases h
theorem noDs_lay : ∀ ds : List PyData, PyData.canLayAll0 ds = true → noDs ds = true
  | [], _ => rfl
  | d :: ds, h => (Bool.and_eq_true _ _).mpr ⟨noD_lay d ((Bool.and_eq_true _ _).mp h).1, noDs_lay ds ((Bool.and_eq_true _ _).mp h).2⟩
end
/-- any data that can be compared -/
def gEq : G2 := fun d e Q => SeqAt.shaped d = true ∧ SeqAt.shaped e = true ∧ Q (.bool (PyData.eqv d e))
def gNe : G2 := fun d e Q => SeqAt.shaped d = true ∧ SeqAt.shaped e = true ∧ Q (.bool (!PyData.eqv d e))
theorem eq_d {K : PySem.W.Frag} : OpD K (rEqD K) gEq := by
  intro hs H F x y d e Qd Q z rx ry ⟨g1, g2, g3⟩ k
  exact ⟨d, e, rx.dp z (noD_lay _ (SeqAt.canLay_of_shaped g1)), ry.dp z (noD_lay _ (SeqAt.canLay_of_shaped g2)), g1, g2, k _ H F _ (.refl _ _ _) z (.bl _) g3⟩
theorem ne_d {K : PySem.W.Frag} : OpD K (rNeD K) gNe := by
  intro hs H F x y d e Qd Q z rx ry ⟨g1, g2, g3⟩ k
  exact ⟨d, e, rx.dp z (noD_lay _ (SeqAt.canLay_of_shaped g1)), ry.dp z (noD_lay _ (SeqAt.canLay_of_shaped g2)), g1, g2, k _ H F _ (.refl _ _ _) z (.bl _) g3⟩
def isN : PyData → Bool
  | .none => true
  | _ => false
def gIsN : G2 := fun d e Q => match e with
  | .none => Q (.bool (isN d))
  | _ => False
def gNotN : G2 := fun d e Q => match e with
  | .none => Q (.bool (!isN d))
  | _ => False
theorem isN_of {K : PySem.W.Frag} {hs : List Addr} {H F : Hp} {v : V} {d : PyData} (h : OwR K hs H F v d) : decide (v = .non) = isN d := by
  rcases h with h | ⟨a, xs, es, rfl, rfl, _⟩
  · cases h <;> rfl
  · rfl
theorem isN_d {K : PySem.W.Frag} : OpD K (fun x y H Q => y = .non ∧ Q (.bl (decide (x = .non))) H) gIsN := by
  intro hs H F x y d e Qd Q z rx ry g k
  cases e with
  | none => exact ⟨ry.non, by rw [isN_of rx]; exact k _ H F _ (.refl _ _ _) z (.bl _) g⟩
  | _ => exact g.elim
theorem notN_d {K : PySem.W.Frag} : OpD K (fun x y H Q => y = .non ∧ Q (.bl (!decide (x = .non))) H) gNotN := by
  intro hs H F x y d e Qd Q z rx ry g k
  cases e with
  | none => exact ⟨ry.non, by rw [isN_of rx]; exact k _ H F _ (.refl _ _ _) z (.bl _) g⟩
  | _ => exact g.elim
/-! subscripts, slices -/
def gIx : G2 := fun d e Q => match d, e with
  | .list ds, .int i => ∃ x, atI ds i = some x ∧ Q x
  | .tuple ds, .int i => ∃ x, atI ds i = some x ∧ Q x
  | .str z, .int i => ∃ c, z.length ≤ sizeLine ∧ atI z.cps.toList i = some c ∧ Q (.str ⟨#[c]⟩)
  | _, _ => False
theorem atI_all {K : PySem.W.Frag} {F : Hp} {xs : List V} {ds : List PyData} {i : Int} {d : PyData} (r : DdAll K F xs ds) (h : atI ds i = some d) : ∃ v, atI xs i = some v ∧ Dd K F v d := by
  unfold atI at *
  rw [r.len]
  cases e : ixN ds.length i with
  | none => rw [e] at h; cases h
  | some j =>
    rw [e] at h
    obtain ⟨v, hv, q⟩ := r.get (i := j) h
    exact ⟨v, hv, q⟩
theorem ix_d {K : PySem.W.Frag} : OpD K (rIx K) gIx := by
  intro hs H F x y d e Qd Q z rx ry g k
  cases d with
  | list ds => cases e with
    | int i =>
      obtain ⟨d, g1, g2⟩ := g
      obtain ⟨a, xs, rfl, h1, r1⟩ := rx.list z
      obtain ⟨v, hv, rv⟩ := atI_all r1 g1
      exact .inl ⟨a, xs, i, v, rfl, ry.int, SqL.of h1, hv, k _ H F _ (.refl _ _ _) z rv g2⟩
    | _ => exact g.elim
  | tuple ds => cases e with
    | int i =>
      obtain ⟨d, g1, g2⟩ := g
      obtain ⟨a, xs, rfl, h1, r1⟩ := rx.tup z
      obtain ⟨v, hv, rv⟩ := atI_all r1 g1
      exact .inr (.inl ⟨a, xs, i, v, rfl, ry.int, h1, hv, k _ H F _ (.refl _ _ _) z rv g2⟩)
    | _ => exact g.elim
  | str w => cases e with
    | int i =>
      obtain ⟨c, g1, g2, g3⟩ := g
      exact .inr (.inr ⟨w, i, c, rx.str, ry.int, g1, g2, k _ H F _ (.refl _ _ _) z (.str _) g3⟩)
    | _ => exact g.elim
  | _ => cases e <;> exact g.elim
/-- a part of a slice -/
abbrev FO := Env' → (Option Int → Prop) → Prop
def tO (K : PySem.W.Frag) (f : FO) : TO := fun σ H Q => ∃ C F E Qd, At K C σ H F E ∧ f E Qd ∧ ∀ o H' F', Wd C.hs H F H' F' → Fz H' F' → Qd o → Q o H'
abbrev pO (X : Cx) (e : Option Expr) (f : FO) : Prop := PO X e (tO X.K f)
theorem PO.imp {e : Option Expr} {t t' : TO} (h : PO X e t) (k : ∀ σ H Q, t' σ H Q → t σ H Q) : PO X e t' := ⟨fun pins s σ H Q I w => h.run pins s σ H Q I (k σ H Q w)⟩
def oNone : FO := fun _ Q => Q none
def oSome (f : FE) : FO := fun E Q => f E fun d => match d with
  | .int i => Q (some i)
  | _ => False
theorem qo_none : pO X none oNone := PO.imp po_none fun σ H Q ⟨C, F, E, Qd, I, q, k⟩ => k none H F (.refl _ _ _) I.z q
theorem qo_some {e : Expr} {f : FE} (h : pD X e f) : pO X (some e) (oSome f) := PO.imp (po_some h) fun σ H Q ⟨C, F, E, Qd, I, q, k⟩ => ⟨C, F, E, _, I, q, fun v H' F' d w z r q' => by
  cases d with
  | int i => exact ⟨i, r.inte, k _ H' F' w z q'⟩
  | _ => exact q'.elim⟩
def cutD (ds : List PyData) (lo hi : Option Int) : List PyData := (ds.drop (HT.sIx ds.length 0 lo)).take (HT.sIx ds.length ds.length hi - HT.sIx ds.length 0 lo)
theorem cut_all {K : PySem.W.Frag} {F : Hp} {xs : List V} {ds : List PyData} (r : DdAll K F xs ds) (lo hi : Option Int) : DdAll K F (cutV xs lo hi) (cutD ds lo hi) := by
  unfold cutV cutD
  rw [r.len]
  exact (r.drop _).take _
def gSl (d : PyData) (lo hi : Option Int) (Q : PyData → Prop) : Prop := match d with
  | .list ds => Q (.list (cutD ds lo hi))
  | .tuple ds => Q (.tuple (cutD ds lo hi))
  | _ => False
/-- a slice of a tuple: new, or the tuple itself -/
def rSlD (K : PySem.W.Frag) : V → Option Int → Option Int → Hp → VK → Prop := fun x lo hi H Q => ∃ a xs, x = .ref a ∧ SqT K H a xs ∧ (cutV xs lo hi = xs → Q x H) ∧ ∀ p, H p = none → Q (.ref p) (upd H p (.tup (cutV xs lo hi)))
theorem sl_tupD : SlR X (rSlD X.K) := by
  intro pins s σ H x v vl vu lo hi sl Q I rx hs pl pu h
  obtain ⟨a, xs, e, hx, q1, q2⟩ := h
  exact sl_tupA pins s σ H x v vl vu lo hi sl Q I rx hs pl pu ⟨a, xs, e, hx, fun w => e ▸ q1 (cutV_whole w), fun _ => q2⟩
def rSlA (K : PySem.W.Frag) : V → Option Int → Option Int → Hp → VK → Prop := fun x lo hi H Q => rSlL K x lo hi H Q ∨ rSlD K x lo hi H Q
theorem sl_any : SlR X (rSlA X.K) := SlR.or sl_list sl_tupD
def wSl (f : FE) (fl fh : FO) : FE := fun E Q => f E fun d => fl E fun lo => fh E fun hi => gSl d lo hi Q
theorem pd_slice {e : Expr} {lo hi : Option Expr} {f : FE} {fl fh : FO} {pos p2 : Pos} (he : pH X e f) (hl : pO X lo fl) (hh : pO X hi fh) : pD X (.Subscript e (.Slice lo hi none p2) pos) (wSl f fl fh) := PE.imp (pe_slice sl_any he hl hh) fun σ H Q ⟨C, F, E, Qd, I, q, k⟩ =>
  ⟨C, F, E, _, I, q, fun v H1 F1 d w1 z1 r1 q1 => ⟨C, F1, E, _, I.step w1 z1, q1, fun lo H2 F2 w2 z2 q2 => ⟨C, F2, E, _, I.step (w1.trans w2) z2, q2, fun hi H3 F3 w3 z3 q3 => by
    have w := w1.trans (w2.trans w3)
    have r3 := r1.step (w2.trans w3)
    cases d with
    | list ds =>
      obtain ⟨a, xs, rfl, h1, r⟩ := r3.list z3
      refine .inl ⟨a, xs, rfl, SqL.of h1, fun p hp => ?_⟩
      exact k _ _ (upd F3 p _) _ (w.trans (.newF z3 hp _)) (z3.newF hp _) (.lst upd_same (DdAll.le (.of (same_new (z3.fin p hp) _)) (cut_all r lo hi))) q3
    | tuple ds =>
      rcases r3 with r3 | ⟨_, _, _, _, e, _⟩
      · cases r3 with
        | tup h1 r =>
          have r' := cut_all r lo hi
          refine .inr ⟨_, _, rfl, SqT.of (z3.sub.t _ _ h1), fun e => ?_, someT_of z3 r' q3 fun v H' F' d w4 => k v H' F' d (w.trans w4)⟩
          refine k _ H3 F3 _ w z3 (.tup h1 r) ?_
          have l1 := r'.len
          have l2 := r.len
          have e2 : cutD ds lo hi = ds := by
            have hl : (cutD ds lo hi).length = ds.length := by rw [← l1, e, l2]
            unfold cutD at *
            have l3 : (ds.drop (HT.sIx ds.length 0 lo)).length = ds.length - HT.sIx ds.length 0 lo := List.length_drop ..
            rw [List.length_take, l3] at hl
            by_cases z0 : ds.length = 0
            · have : ds = [] := List.eq_nil_of_length_eq_zero z0
              subst this; simp
            · have a0 : HT.sIx ds.length 0 lo = 0 := by omega
              rw [a0, List.drop_zero]
              exact List.take_of_length_le (by omega)
          have q4 : Qd (.tuple (cutD ds lo hi)) := q3
          rwa [e2] at q4
      · cases e
    | _ => exact q3.elim⟩⟩⟩
/-- .. of a list, one's own -/
def wSlF (f : FE) (fl fh : FO) : FL := fun E Q => f E fun d => fl E fun lo => fh E fun hi => match d with
  | .list ds => Q (cutD ds lo hi)
  | _ => False
theorem pf_slice {e : Expr} {lo hi : Option Expr} {f : FE} {fl fh : FO} {pos p2 : Pos} (he : pH X e f) (hl : pO X lo fl) (hh : pO X hi fh) : pF X (.Subscript e (.Slice lo hi none p2) pos) (wSlF f fl fh) := PE.imp (pe_slice sl_list he hl hh) fun σ H Q ⟨C, F, E, Qd, I, q, k⟩ =>
  ⟨C, F, E, _, I, q, fun v H1 F1 d w1 z1 r1 q1 => ⟨C, F1, E, _, I.step w1 z1, q1, fun lo H2 F2 w2 z2 q2 => ⟨C, F2, E, _, I.step (w1.trans w2) z2, q2, fun hi H3 F3 w3 z3 q3 => by
    have w := w1.trans (w2.trans w3)
    have r3 := r1.step (w2.trans w3)
    cases d with
    | list ds =>
      obtain ⟨a, xs, rfl, h1, r⟩ := r3.list z3
      exact ⟨a, xs, rfl, SqL.of h1, fun p hp => k p _ _ F3 _ (w.back hp) (w.trans (.newO hp _)) (z3.newO (z3.fin p hp) _) (z3.fin p hp) upd_same (cut_all r lo hi) q3⟩
    | _ => exact q3.elim⟩⟩⟩
/-! built-ins of one value -/
def CallD (K : PySem.W.Frag) (r : List V → Hp → VK → Prop) (g : PyData → (PyData → Prop) → Prop) : Prop :=
  ∀ hs H F x d Qd Q, Fz H F → OwR K hs H F x d → g d Qd → (∀ v H' F' d, Wd hs H F H' F' → Fz H' F' → Dd K F' v d → Qd d → Q v H') → r [x] H Q
def CallF (K : PySem.W.Frag) (r : List V → Hp → VK → Prop) (g : PyData → (List PyData → Prop) → Prop) : Prop :=
  ∀ hs H F x d Qd Q, Fz H F → OwR K hs H F x d → g d Qd → (∀ a xs H' F' ds, H a = none → Wd hs H F H' F' → Fz H' F' → F' a = none → H' a = some (.lst xs) → DdAll K F' xs ds → Qd ds → Q (.ref a) H') → r [x] H Q
def wUn (g : PyData → (PyData → Prop) → Prop) (f : FE) : FE := fun E Q => f E fun d => g d Q
def wUnF (g : PyData → (List PyData → Prop) → Prop) (f : FE) : FL := fun E Q => f E fun d => g d Q
theorem un_imp {K : PySem.W.Frag} {r : List V → Hp → VK → Prop} {g : PyData → (PyData → Prop) → Prop} {f : FE} (o : CallD K r g) : ∀ σ H Q, tE K (wUn g f) σ H Q → tCB r (tH1 K f) σ H Q := fun σ H Q ⟨C, F, E, Qd, I, q, k⟩ =>
  ⟨C, F, E, _, I, q, fun x H1 F1 d w1 z1 r1 q1 => o C.hs H1 F1 x d Qd Q z1 r1 q1 fun v H' F' d w z => k v H' F' d (w1.trans w) z⟩
theorem unF_imp {K : PySem.W.Frag} {r : List V → Hp → VK → Prop} {g : PyData → (List PyData → Prop) → Prop} {f : FE} (o : CallF K r g) : ∀ σ H Q, tF K (wUnF g f) σ H Q → tCB r (tH1 K f) σ H Q := fun σ H Q ⟨C, F, E, Qd, I, q, k⟩ =>
  ⟨C, F, E, _, I, q, fun x H1 F1 d w1 z1 r1 q1 => o C.hs H1 F1 x d Qd Q z1 r1 q1 fun a xs H' F' ds n w z => k a xs H' F' ds (w1.back n) (w1.trans w) z⟩
variable {e : Expr} {f : FE} {x : Str} {id T : String} {p pos : Pos}
theorem pd_bltn {r : List V → Hp → VK → Prop} {g : PyData → (PyData → Prop) → Prop} (hc : CallR X (.builtin id) r) (hd : CallD X.K r g) (hg : Gl X x) (hm : X.mg x = none) (hv : bootBuiltins x = some (.builtin id)) (he : pH X e f) (hs : starEach [e] X.env = (false, eval e X.env) :: starEach [] X.env := by rfl) (hpl : (backTo pos (starEach [] X.env)).any (·.1) = false := by rfl) (hn : x ≠ "__name__" := by decide) (hdb : (x == ("__debug__" : Str)) = false := by decide) :
    pD X (.Call (.Name x p) [e] [] pos) (wUn g f) := PE.imp (pe_callB hc hg hm hv (pa_h1 he hs) hn hdb hs hpl) (un_imp hd)
theorem pd_type {r : List V → Hp → VK → Prop} {g : PyData → (PyData → Prop) → Prop} (hc : CallR X (.type T) r) (hd : CallD X.K r g) (hg : Gl X x) (hm : X.mg x = none) (hv : bootBuiltins x = some (.type T)) (he : pH X e f) (hs : starEach [e] X.env = (false, eval e X.env) :: starEach [] X.env := by rfl) (hpl : (backTo pos (starEach [] X.env)).any (·.1) = false := by rfl) (hn : x ≠ "__name__" := by decide) (hdb : (x == ("__debug__" : Str)) = false := by decide) :
    pD X (.Call (.Name x p) [e] [] pos) (wUn g f) := PE.imp (pe_callTy hc hg hm hv (pa_h1 he hs) hn hdb hs hpl) (un_imp hd)
theorem pf_type {r : List V → Hp → VK → Prop} {g : PyData → (List PyData → Prop) → Prop} (hc : CallR X (.type T) r) (hd : CallF X.K r g) (hg : Gl X x) (hm : X.mg x = none) (hv : bootBuiltins x = some (.type T)) (he : pH X e f) (hs : starEach [e] X.env = (false, eval e X.env) :: starEach [] X.env := by rfl) (hpl : (backTo pos (starEach [] X.env)).any (·.1) = false := by rfl) (hn : x ≠ "__name__" := by decide) (hdb : (x == ("__debug__" : Str)) = false := by decide) :
    pF X (.Call (.Name x p) [e] [] pos) (wUnF g f) := PE.imp (pe_callTy hc hg hm hv (pa_h1 he hs) hn hdb hs hpl) (unF_imp hd)
def gLen (d : PyData) (Q : PyData → Prop) : Prop := match d with
  | .list ds => Q (.int ds.length)
  | .tuple ds => Q (.int ds.length)
  | .str z => z.length ≤ sizeLine ∧ Q (.int z.length)
  | _ => False
def rLenA (K : PySem.W.Frag) : List V → Hp → VK → Prop := fun xs H Q => (∃ p ys, xs = [.ref p] ∧ (SqL K H p ys ∨ SqT K H p ys) ∧ Q (.int ys.length) H) ∨ ∃ z, xs = [.str z] ∧ z.length ≤ sizeLine ∧ Q (.int z.length) H
theorem call_lenA : CallR X (.builtin "len") (rLenA X.K) := CallR.or call_len_seq call_len_str
theorem len_d {K : PySem.W.Frag} : CallD K (rLenA K) gLen := by
  intro hs H F x d Qd Q z rx g k
  cases d with
  | list ds =>
    obtain ⟨a, xs, rfl, h1, r1⟩ := rx.list z
    exact .inl ⟨a, xs, rfl, .inl (SqL.of h1), by rw [r1.len]; exact k _ H F _ (.refl _ _ _) z (.int _) g⟩
  | tuple ds =>
    obtain ⟨a, xs, rfl, h1, r1⟩ := rx.tup z
    exact .inl ⟨a, xs, rfl, .inr h1, by rw [r1.len]; exact k _ H F _ (.refl _ _ _) z (.int _) g⟩
  | str w => exact .inr ⟨w, by rw [rx.str], g.1, k _ H F _ (.refl _ _ _) z (.int _) g.2⟩
  | _ => exact g.elim
def gTupOf (d : PyData) (Q : PyData → Prop) : Prop := match d with
  | .list ds => Q (.tuple ds)
  | .tuple ds => Q (.tuple ds)
  | _ => False
theorem tupOf_d {K : PySem.W.Frag} : CallD K (rTupOf K) gTupOf := by
  intro hs H F x d Qd Q z rx g k
  cases d with
  | list ds =>
    obtain ⟨a, xs, rfl, h1, r1⟩ := rx.list z
    exact ⟨a, xs, rfl, .inl ⟨SqL.of h1, someT_of z r1 g k⟩⟩
  | tuple ds =>
    rcases rx with rx | ⟨_, _, _, _, e, _⟩
    · cases rx with
      | tup h1 r1 => exact ⟨_, _, rfl, .inr ⟨SqT.of (z.sub.t _ _ h1), k _ H F _ (.refl _ _ _) z (.tup h1 r1) g⟩⟩
    · cases e
  | _ => exact g.elim
def gListOf (d : PyData) (Q : List PyData → Prop) : Prop := match d with
  | .list ds => Q ds
  | .tuple ds => Q ds
  | _ => False
theorem listOf_f {K : PySem.W.Frag} : CallF K (rListOf K) gListOf := by
  intro hs H F x d Qd Q z rx g k
  cases d with
  | list ds =>
    obtain ⟨a, xs, rfl, h1, r1⟩ := rx.list z
    exact ⟨a, xs, rfl, .inl (SqL.of h1), fun p hp => k p _ _ F _ hp (.newO hp _) (z.newO (z.fin p hp) _) (z.fin p hp) upd_same r1 g⟩
  | tuple ds =>
    obtain ⟨a, xs, rfl, h1, r1⟩ := rx.tup z
    exact ⟨a, xs, rfl, .inr h1, fun p hp => k p _ _ F _ hp (.newO hp _) (z.newO (z.fin p hp) _) (z.fin p hp) upd_same r1 g⟩
  | _ => exact g.elim
def gSum (d : PyData) (Q : PyData → Prop) : Prop := match d with
  | .list ds => ∃ ns : List Int, ds = ns.map PyData.int ∧ Q (.int ns.sum)
  | _ => False
theorem sum_d {K : PySem.W.Frag} : CallD K (rSum K) gSum := by
  intro hs H F x d Qd Q z rx g k
  cases d with
  | list ds =>
    obtain ⟨ns, rfl, g⟩ := g
    obtain ⟨a, xs, rfl, h1, r1⟩ := rx.list z
    obtain rfl := r1.ints
    exact ⟨a, ns, rfl, SqL.of h1, k _ H F _ (.refl _ _ _) z (.int _) g⟩
  | _ => exact g.elim
/-- not too large to be written -/
def Shw (d : PyData) : Prop := d.hasDict = false ∧ d.showable = true ∧ d.depth ≤ 32 ∧ d.shown.length ≤ sizeLine
def gRepr (d : PyData) (Q : PyData → Prop) : Prop := noD d = true ∧ Shw d ∧ Q (.str d.shown)
def rReprA (K : PySem.W.Frag) : List V → Hp → VK → Prop := fun xs H Q => rRepr K xs H Q ∨ rReprX K xs H Q
theorem call_reprA (hg : X.A.guards = some []) (hu : X.A.units + 64 < cLine) : CallR X (.builtin "repr") (rReprA X.K) := CallR.or (call_reprD hg hu) (call_reprX hg hu)
end
end Dl

namespace Dz
open PySem PySem.Spec PyProof.Rows L2
/-! list(zip(..)) of tuples and lists in any mix -/
def KSq (k : Bool) (h : Heap) (a : Addr) (items : Array Value) : Prop := if k = true then h.IsTuple a items else h.IsList a items
def KIt (k : Bool) (h : Heap) (a t : Addr) (i : Nat) : Prop := if k = true then h.IsTupleIter a t i else h.IsListIter a t i
section
variable {k : Bool} {h h' : Heap} {a b t : Addr} {i : Nat} {items : Array Value}
theorem KSq.at (x : KSq k h a items) (e : ∀ o, h.get? a = some o → h'.get? a = some o) : KSq k h' a items := by
  cases k with
  | true => exact Heap.IsTuple.at x e
  | false => exact Heap.IsList.at x e
theorem KIt.at (x : KIt k h a t i) (e : ∀ o, h.get? a = some o → h'.get? a = some o) : KIt k h' a t i := by
  cases k with
  | true => exact Heap.IsTupleIter.at x e
  | false => exact Heap.IsListIter.at x e
theorem KSq.extBut (x : KSq k h a items) (hs : Heap.ExtBut b h h') (hab : a ≠ b) : KSq k h' a items := by
  cases k with
  | true => exact Heap.IsTuple.extBut x hs hab
  | false => exact Heap.IsList.extBut x hs hab
theorem KIt.extBut (x : KIt k h a t i) (hs : Heap.ExtBut b h h') (hab : a ≠ b) : KIt k h' a t i := by
  cases k with
  | true => exact Heap.IsTupleIter.extBut x hs hab
  | false => exact Heap.IsListIter.extBut x hs hab
theorem KSq.there (x : KSq k h a items) : ∃ o, h.get? a = some o := by
  cases k with
  | true => obtain ⟨o, e, _⟩ := (show h.IsTuple a items from x); exact ⟨o, e⟩
  | false => obtain ⟨o, e, _⟩ := (show h.IsList a items from x); exact ⟨o, e⟩
end
section
variable {prog : Program} {w : World} {A : Around} {E : Value → Shared → Prop} {s : Shared} {k : Bool}
theorem pyIter_K {t : Addr} {items : Array Value} {Q : Value → Shared → Prop} (ht : KSq k s.heap t items)
    (hQ : ∀ o, KIt k (s.heap.push o) s.heap.objs.size t 0 → Q (.ref s.heap.objs.size) { s with heap := s.heap.push o }) : wpAny (model prog w) A (pyIter (.ref t)) Q E s := by
  cases k with
  | true => exact wpAny_pyIter_tuple ht (hQ _ ⟨_, Heap.get?_push_size _ rfl, rfl, rfl⟩)
  | false => exact wpAny_pyIter_list ht (hQ _ ⟨_, Heap.get?_push_size _ rfl, rfl, rfl⟩)
theorem nextOf_K_item {it t : Addr} {i : Nat} {items : Array Value} {x : Value} {Q : Value → Shared → Prop} (hit : KIt k s.heap it t i) (ht : KSq k s.heap t items) (hx : items[i]? = some x)
    (hQ : ∀ h', KIt k h' it t (i + 1) → Heap.SameBut it s.heap h' → Q x { s with heap := h' }) : wpAny (model prog w) A (Builtin.SmallTypes.nextOf (.ref it)) Q E s := by
  cases k with
  | true => exact wpAny_nextOf_tuple_item hit ht hx hQ
  | false => exact wpAny_nextOf_list_item hit ht hx hQ
theorem nextOf_K_end {it t : Addr} {i : Nat} {items : Array Value} {Q : Value → Shared → Prop} (hh : A.handled = none) (hit : KIt k s.heap it t i) (ht : KSq k s.heap t items) (hx : items[i]? = none)
    (hE : ∀ h' e, Heap.ExtBut it s.heap h' → (∃ o, h'.get? e = some o ∧ o.cls = .type "StopIteration") → E (.ref e) { s with heap := h' }) : wpAny (model prog w) A (Builtin.SmallTypes.nextOf (.ref it)) Q E s := by
  cases k with
  | true => exact wpAny_nextOf_tuple_end hh hit ht hx hE
  | false => exact wpAny_nextOf_list_end hh hit ht hx hE
end
theorem zt (vs : List Value) : checkTypeCall "zip" ⟨vs, []⟩ = pure () := by kernel_rfl
theorem zo (obj : Value) (vs : List Value) : argsOk "object.__init__" ⟨obj :: vs, []⟩ := by unfold argsOk; kernel_rfl
theorem zn : ∀ (vs : List Value), vs.length ≤ 8 → checkBuiltinCall "zip.__new__" ⟨.type "zip" :: vs, []⟩ = pure ()
  | [], _ => by kernel_rfl
  | [_], _ => by kernel_rfl
  | [_, _], _ => by kernel_rfl
  | [_, _, _], _ => by kernel_rfl
  | [_, _, _, _], _ => by kernel_rfl
  | [_, _, _, _, _], _ => by kernel_rfl
  | [_, _, _, _, _, _], _ => by kernel_rfl
  | [_, _, _, _, _, _, _], _ => by kernel_rfl
  | [_, _, _, _, _, _, _, _], _ => by kernel_rfl
  | _ :: _ :: _ :: _ :: _ :: _ :: _ :: _ :: _ :: _, h => absurd h (by simp)
section
variable {prog : Program} {w : World} {A : Around} {E : Value → Shared → Prop} {s : Shared}
/-- a loop in the machine's own monad, by a word of the turn -/
theorem forIn_by {α β : Type} {M : Model} {A : Around} {E : Value → Shared → Prop} {body : α → β → Sem (ForInStep β)} {Q : β → Shared → Prop} (J : Nat → β → Shared → Prop) : ∀ (l : List α) (k : Nat) (b : β) (s : Shared), J k b s →
    (∀ (j : Nat) (x : α) (b : β) (s : Shared), l[j]? = some x → J (k + j) b s → wpAny M A (body x b) (fun r s' => ∃ b', r = .yield b' ∧ J (k + j + 1) b' s') E s) → (∀ b s, J (k + l.length) b s → Q b s) → wpAny M A (forIn l b body) Q E s
  | [], k, b, s, h, _, hq => by
    rw [List.forIn_nil]
    exact wpAny_pure (hq b s h)
  | x :: l, k, b, s, h, hs, hq => by
    rw [List.forIn_cons]
    refine wpAny_bind (thn (hs 0 x b s rfl h) ?_)
    rintro r s' ⟨b', rfl, h'⟩
    refine forIn_by J l (k + 1) b' s' h' (fun j y c t e g => ?_) (fun c t g => ?_)
    · rw [show k + 1 + j = k + (j + 1) by omega] at g
      rw [show k + 1 + j + 1 = k + (j + 1) + 1 by omega]
      exact hs (j + 1) y c t (by simpa using e) g
    · rw [show k + 1 + l.length = k + (x :: l).length by rw [List.length_cons]; omega] at g
      exact hq c t g
theorem iterAll_tups {ts : List Addr} {items : Nat → Array Value} {kd : Nat → Bool} {Q : List Value → Shared → Prop} (ht : ∀ k t, ts[k]? = some t → KSq (kd k) s.heap t (items k))
    (h : ∀ h' : Heap, h'.objs.size = s.heap.objs.size + ts.length → (∀ b o, s.heap.get? b = some o → h'.get? b = some o) → (∀ k t, ts[k]? = some t → KIt (kd k) h' (s.heap.objs.size + k) t 0) →
      Q ((List.range ts.length).map fun k => .ref (s.heap.objs.size + k)) { s with heap := h' }) :
    wpAny (model prog w) A (Builtin.SmallTypes.iterAll (ts.map Value.ref)) Q E s := by
  unfold Builtin.SmallTypes.iterAll
  refine wpAny_bind ?_
  refine forIn_by (fun k b s' => b = ((List.range k).map fun k => Value.ref (s.heap.objs.size + k)).toArray ∧ ∃ h', s' = { s with heap := h' } ∧ h'.objs.size = s.heap.objs.size + k ∧ (∀ b o, s.heap.get? b = some o → h'.get? b = some o) ∧ ∀ j t, j < k → ts[j]? = some t → KIt (kd j) h' (s.heap.objs.size + j) t 0) _ 0 _ s ⟨rfl, s.heap, rfl, rfl, fun _ _ e => e, fun j t hj => absurd hj (by omega)⟩ ?_ ?_
  · rintro j x b s' hx ⟨rfl, h', rfl, hz, hk, hi⟩
    rw [Nat.zero_add] at *
    obtain ⟨t, et, rfl⟩ : ∃ t, ts[j]? = some t ∧ x = Value.ref t := by
      rw [List.getElem?_map] at hx
      cases e : ts[j]? with
      | none => rw [e] at hx; cases hx
      | some t => rw [e] at hx; exact ⟨t, rfl, (Option.some.inj hx).symm⟩
    refine wpAny_bind (wpAny_holding (pyIter_K (s := { s with heap := h' }) ((ht j t et).at fun o e => hk t o e) fun ob hob => ?_))
    refine wpAny_pure ⟨_, rfl, ?_, _, rfl, by rw [Heap.size_push, hz]; omega, fun b o e => Heap.get?_push_of_some _ (hk b o e), fun j' t' hj' e' => ?_⟩
    · show Array.push _ (Value.ref h'.objs.size) = _
      rw [hz, List.range_succ, List.map_append]
      simp
    · by_cases c : j' = j
      · subst c
        obtain rfl : t = t' := by rw [et] at e'; exact Option.some.inj e'
        rw [← hz]
        exact hob
      · exact (hi j' t' (by omega) e').at fun o e => Heap.get?_push_of_some _ e
  · rintro b s' ⟨rfl, h', rfl, hz, hk, hi⟩
    rw [Nat.zero_add, List.length_map] at *
    exact wpAny_pure (h h' hz hk fun k t e => hi k t (List.getElem?_eq_some_iff.mp e).1 e)
end
theorem ane {a b : Addr} (h : Nat.lt a b ∨ Nat.lt b a) : a ≠ b := fun e => by
  subst e
  rcases h with h | h <;> exact absurd h (Nat.lt_irrefl _)
/-- the iterators' places -/
def itv (N n : Nat) : List Value := (List.range n).map fun k => Value.ref (N + k)
abbrev tupObj (vs : List Value) : Obj := { cls := .type "tuple", data := .seq vs.toArray }
abbrev zipObj (f0 : Value) (b : Bool) (TI TO : Addr) : Obj := { cls := .type "zip", dict := none, data := .fields #[f0, .bool b, .bool false, .ref TI, .ref TO], slots := #[] }
abbrev zipHeap (h : Heap) (vs : List Value) : Heap := ((h.push (tupObj vs)).push (tupObj (vs.map fun _ => Value.none))).push (zipObj .none false h.objs.size (h.objs.size + 1))
theorem meets_zip (ts : List Addr) (items : Nat → Array Value) (kd : Nat → Bool) (hts : ts.length ≤ sizeLine) :
    Meets (Builtin.«zip.__new__» ⟨.type "zip" :: ts.map Value.ref, []⟩) (fun _ R s => (∀ k t, ts[k]? = some t → KSq (kd k) s.heap t (items k)) ∧
      ∀ h' : Heap, h'.objs.size = s.heap.objs.size + ts.length → (∀ b o, s.heap.get? b = some o → h'.get? b = some o) → (∀ k t, ts[k]? = some t → KIt (kd k) h' (s.heap.objs.size + k) t 0) →
        R (.ok (.ret (.ref (h'.objs.size + 2)))) { s with heap := zipHeap h' (itv s.heap.objs.size ts.length) }) := by
  refine .of_wp fun prog w A R s h => ?_
  obtain ⟨hp, g, d, tk, os⟩ := s
  obtain ⟨h1, h⟩ := h
  have isZ := sub_zip
  have it : ∀ {A' : Around} {E : Value → Shared → Prop} {Q : List Value → Shared → Prop}, (∀ h' : Heap, h'.objs.size = hp.objs.size + ts.length → (∀ b o, hp.get? b = some o → h'.get? b = some o) → (∀ k t, ts[k]? = some t → KIt (kd k) h' (hp.objs.size + k) t 0) →
      Q (itv hp.objs.size ts.length) ⟨h', g, d, tk, os⟩) → wpAny (model prog w) A' (Builtin.SmallTypes.iterAll (ts.map Value.ref)) Q E ⟨hp, g, d, tk, os⟩ := fun q => iterAll_tups (s := ⟨hp, g, d, tk, os⟩) h1 q
  wp_walk using it
  intro h' hz hk hi
  have len : (itv hp.objs.size ts.length).length = ts.length := by unfold itv; rw [List.length_map, List.length_range]
  refine wpAny_bind (wpAny_newTuple (s := ⟨h', g, d, tk, os⟩) (hsz := by rw [len]; exact hts) ?_)
  refine wpAny_bind (wpAny_newTuple (s := ⟨h'.push _, g, d, tk, os⟩) (hsz := by rw [List.length_map, len]; exact hts) ?_)
  wp_walk
  have e := h h' hz hk hi
  refine ⟨_, rfl, ?_⟩
  simp only [Heap.size_push]
  exact e
section
variable {prog : Program} {w : World} {A : Around} {E : Value → Shared → Prop} {s : Shared} {N n m : Nat} {t : Nat → Addr} {items : Nat → Array Value} {kd : Nat → Bool}
/-- n iterators over tuples of m items stand at N .. and at their place i; their tuple at N + n -/
structure ZSt (N n m : Nat) (t : Nat → Addr) (items : Nat → Array Value) (kd : Nat → Bool) (h : Heap) : Prop where
  TI : h.get? (N + n) = some (tupObj (itv N n))
  tup : ∀ k, k < n → KSq (kd k) h (t k) (items k)
  low : ∀ k, k < n → t k < N
  sz : ∀ k, k < n → (items k).size = m
/-- the first c of them have been drawn from -/
def Drawn (N n : Nat) (t : Nat → Addr) (kd : Nat → Bool) (i c : Nat) (h : Heap) : Prop := ∀ k, k < n → KIt (kd k) h (N + k) (t k) (if k < c then i + 1 else i)
def col (items : Nat → Array Value) (n i : Nat) : List Value := (List.range n).map fun k => ((items k)[i]?).getD .none
theorem ZSt.other {h h' : Heap} (Z : ZSt N n m t items kd h) {x : Addr} (sb : Heap.SameBut x h h') (h1 : x ≠ N + n) (h2 : N ≤ x) : ZSt N n m t items kd h' :=
  ⟨(sb.2 _ (Ne.symm h1)).trans Z.TI, fun k hk => (Z.tup k hk).extBut sb.extBut (fun e => by have := Z.low k hk; rw [e] at this; exact absurd h2 (Nat.not_le.mpr this)), Z.low, Z.sz⟩
theorem itv_get {k : Nat} (h : k < n) : (itv N n)[k]? = some (Value.ref (N + k)) := by
  unfold itv
  rw [List.getElem?_map, List.getElem?_range h]
  rfl
theorem zip_held {z TO T : Addr} {f : Bool} {oT : Obj} {i : Nat} {Q : Value → Shared → Prop} (Z : ZSt N n m t items kd s.heap) (D : Drawn N n t kd i 0 s.heap) (hz : s.heap.get? z = some (zipObj (rawInt T) f (N + n) TO)) (hT : s.heap.get? T = some oT) (z1 : N + n < z) (hn : 0 < n) (hn8 : n ≤ 8) (hi : i < m)
    (hQ : ∀ h' : Heap, ZSt N n m t items kd h' → Drawn N n t kd (i + 1) 0 h' → h'.get? z = some (zipObj (rawInt T) true (N + n) TO) → h'.get? s.heap.objs.size = some (tupObj (col items n i)) →
      (∀ b o, b ≠ z → (b < N ∨ N + n ≤ b) → s.heap.get? b = some o → h'.get? b = some o) → s.heap.objs.size < h'.objs.size → Q (.ref s.heap.objs.size) { s with heap := h' }) :
    wpAny (model prog w) A (Builtin.«zip.__next__» ⟨[.ref z], []⟩) (fun fin s' => ∃ v, fin = .done (.ret v) ∧ Q v s') E s := by
  show wpAny _ _ (field (.ref z) 2 >>= _) _ _ _
  refine wpAny_bind (wpAny_field hz rfl (x := .bool false) rfl ?_)
  show wpAny _ _ (field (.ref z) 3 >>= _) _ _ _
  refine wpAny_bind (wpAny_field hz rfl (x := .ref (N + n)) rfl (wpAny_bind (wpAny_seqItems Z.TI rfl ?_)))
  have ne : (itv N n).toArray.isEmpty = false := by
    have : (itv N n).length = n := by unfold itv; rw [List.length_map, List.length_range]
    cases e : itv N n with
    | nil => rw [e] at this; simp at this; omega
    | cons a b => rfl
  simp only [ne, Bool.false_eq_true, if_false]
  refine wpAny_bind (wpAny_tupleHeld_zip hz hT fun h1 hz1 hs1 => ?_)
  simp only [Bool.false_eq_true, if_false]
  refine wpAny_bind ?_
  rw [← Array.forIn_toList]
  refine forIn_by (fun c b s' => b = (none, ((List.range c).map fun k => ((items k)[i]?).getD .none).toArray) ∧ ∃ h' : Heap, s' = { s with heap := h' } ∧ h'.objs.size = s.heap.objs.size ∧ ZSt N n m t items kd h' ∧ Drawn N n t kd i c h' ∧ h'.get? z = some (zipObj (rawInt T) true (N + n) TO) ∧ ∀ b o, b ≠ z → (b < N ∨ N + n ≤ b) → s.heap.get? b = some o → h'.get? b = some o) _ 0 _ _ ?_ ?_ ?_
  · refine ⟨rfl, h1, rfl, hs1.1, Z.other hs1 (ane (.inr z1)) (by omega), fun k hk => ?_, hz1, fun b o hb _ e => hs1.extBut b o hb e⟩
    exact (D k hk).extBut hs1.extBut (ane (.inl (by show N + k < z; omega)))
  · rintro c x b s' hx ⟨rfl, h2, rfl, sz2, Z2, D2, hz2, k2⟩
    rw [Nat.zero_add] at *
    have hc : c < n := by
      have := (List.getElem?_eq_some_iff.mp hx).1
      simpa [itv] using this
    rw [show (itv N n).toArray.toList = itv N n from rfl, itv_get hc] at hx
    obtain rfl := Option.some.inj hx
    refine wpAny_bind (wpAny_holding ?_)
    show wpAny _ _ (Builtin.SmallTypes.nextOf (.ref (N + c)) >>= _) _ _ _
    have hit := D2 c hc
    rw [if_neg (by omega)] at hit
    have hlt : i < (items c).size := by rw [Z2.sz c hc]; exact hi
    refine wpAny_bind (nextOf_K_item (s := { s with heap := h2 }) hit (Z2.tup c hc) (Array.getElem?_eq_getElem hlt) fun h3 hit3 hs3 => wpAny_pure (wpAny_pure ?_))
    replace hs3 : Heap.SameBut (N + c) h2 h3 := hs3
    refine ⟨_, rfl, ?_, h3, rfl, hs3.1.trans sz2, Z2.other hs3 (ane (.inl (by show N + c < N + n; omega))) (by omega), fun k hk => ?_, hs3.extBut _ _ (ane (.inr (by show N + c < z; omega))) hz2, fun b o hb hb2 e => hs3.extBut b o (ane (hb2.imp (fun h => Nat.lt_of_lt_of_le h (Nat.le_add_right N c)) fun h => Nat.lt_of_lt_of_le (Nat.add_lt_add_left hc N) h)) (k2 b o hb hb2 e)⟩
    · rw [List.range_succ, List.map_append]
      simp [Array.getElem?_eq_getElem hlt]
    · by_cases e : k = c
      · subst e
        rw [if_pos (by omega)]
        exact hit3
      · have := D2 k hk
        have q := this.extBut hs3.extBut (fun z => e (Nat.add_left_cancel z))
        by_cases l : k < c
        · rw [if_pos (by omega)]; rwa [if_pos l] at q
        · rw [if_neg (by omega)]; rwa [if_neg l] at q
  · rintro b s' ⟨rfl, h2, rfl, sz2, Z2, D2, hz2, k2⟩
    have len : (itv N n).toArray.toList.length = n := by simp [itv]
    rw [Nat.zero_add, len] at D2
    rw [Nat.zero_add, len]
    have sz : (col items n i).length = n := by unfold col; rw [List.length_map, List.length_range]
    show wpAny _ _ (newTuple (col items n i) >>= _) _ _ _
    refine wpAny_bind (wpAny_newTuple (s := { s with heap := h2 }) (hsz := by rw [sz]; exact Nat.le_trans hn8 (by decide)) ?_)
    refine wpAny_pure ⟨_, rfl, ?_⟩
    show Q (.ref h2.objs.size) _
    rw [sz2]
    have up : ∀ b o, h2.get? b = some o → (h2.push (tupObj (col items n i))).get? b = some o := fun b o e => Heap.get?_push_of_some _ e
    refine hQ _ ⟨up _ _ Z2.TI, fun k hk => (Z2.tup k hk).at fun o e => up _ o e, Z2.low, Z2.sz⟩ (fun k hk => ?_) (up _ _ hz2) ?_ (fun b o hb hb2 e => up _ _ (k2 b o hb hb2 e)) (by rw [Heap.size_push, sz2]; exact Nat.lt_succ_self _)
    · have := (D2 k hk).at fun o e => up _ o e
      rw [if_pos hk] at this
      rw [if_neg (by omega)]
      exact this
    · rw [← sz2]
      exact Heap.get?_push_size _ rfl
theorem zip_first {z TO : Addr} {vs : List Value} {Q : Value → Shared → Prop} (Z : ZSt N n m t items kd s.heap) (D : Drawn N n t kd 0 0 s.heap) (hz : s.heap.get? z = some (zipObj .none false (N + n) TO)) (hTO : s.heap.get? TO = some (tupObj vs)) (hvs : vs.length = n) (z1 : N + n < z) (t1 : N + n < TO) (zt : z ≠ TO) (hn : 0 < n) (hn8 : n ≤ 8) (hi : 0 < m)
    (hQ : ∀ h' : Heap, ZSt N n m t items kd h' → Drawn N n t kd 1 0 h' → h'.get? z = some (zipObj (rawInt s.heap.objs.size) false (N + n) TO) → h'.get? s.heap.objs.size = some (tupObj (col items n 0)) →
      (∀ b o, b ≠ z → b ≠ TO → (b < N ∨ N + n ≤ b) → s.heap.get? b = some o → h'.get? b = some o) → s.heap.objs.size < h'.objs.size → Q (.ref s.heap.objs.size) { s with heap := h' }) :
    wpAny (model prog w) A (Builtin.«zip.__next__» ⟨[.ref z], []⟩) (fun fin s' => ∃ v, fin = .done (.ret v) ∧ Q v s') E s := by
  show wpAny _ _ (field (.ref z) 2 >>= _) _ _ _
  refine wpAny_bind (wpAny_field hz rfl (x := .bool false) rfl ?_)
  show wpAny _ _ (field (.ref z) 3 >>= _) _ _ _
  refine wpAny_bind (wpAny_field hz rfl (x := .ref (N + n)) rfl (wpAny_bind (wpAny_seqItems Z.TI rfl ?_)))
  have ne : (itv N n).toArray.isEmpty = false := by
    have : (itv N n).length = n := by unfold itv; rw [List.length_map, List.length_range]
    cases e : itv N n with
    | nil => rw [e] at this; simp at this; omega
    | cons a b => rfl
  simp only [ne, Bool.false_eq_true, if_false]
  refine wpAny_bind ?_
  unfold Builtin.SmallTypes.ownedTupleIsFree
  refine wpAny_bind (wpAny_field hz rfl (x := .none) rfl (wpAny_pure ?_))
  simp only [if_true]
  refine wpAny_bind (wpAny_rule ?_)
  refine wpAny_bind (wpAny_field hz rfl (x := .ref TO) rfl ?_)
  refine wpAny_bind (wpAny_setField_rec hz (by simp) fun g0 hz0 hs0 => ?_)
  replace hz0 : g0.get? z = some (zipObj .ellipsis false (N + n) TO) := hz0
  refine wpAny_bind ?_
  refine forIn_by (fun c b s' => b = (none, ()) ∧ ∃ (h' : Heap) (arr : Array Value), s' = { s with heap := h' } ∧ h'.objs.size = s.heap.objs.size ∧ ZSt N n m t items kd h' ∧ Drawn N n t kd 0 c h' ∧ h'.get? z = some (zipObj .ellipsis false (N + n) TO) ∧
    h'.get? TO = some { cls := .type "tuple", data := .seq arr } ∧ arr.size = n ∧ (∀ k, k < c → arr[k]? = some (((items k)[0]?).getD .none)) ∧ ∀ b o, b ≠ z → b ≠ TO → (b < N ∨ N + n ≤ b) → s.heap.get? b = some o → h'.get? b = some o) _ 0 _ _ ?_ ?_ ?_
  · refine ⟨rfl, g0, _, rfl, hs0.1, Z.other hs0 (ane (.inr z1)) (by omega), fun k hk => ?_, hz0, hs0.extBut _ _ (Ne.symm zt) hTO, by rw [List.size_toArray]; exact hvs, fun k hk => absurd hk (by omega), fun b o hb _ _ e => hs0.extBut b o hb e⟩
    exact (D k hk).extBut hs0.extBut (ane (.inl (by show N + k < z; omega)))
  · rintro c x b s' hx ⟨rfl, h2, arr, rfl, sz2, Z2, D2, hz2, hT2, asz, av, k2⟩
    rw [Nat.zero_add] at *
    rw [List.getElem?_zipIdx] at hx
    have hc : c < n := by
      rw [Option.map_eq_some_iff] at hx
      obtain ⟨_, hx, _⟩ := hx
      have := (List.getElem?_eq_some_iff.mp hx).1
      simpa [itv] using this
    rw [itv_get hc, Option.map_some] at hx
    obtain rfl := Option.some.inj hx
    simp only [Nat.zero_add]
    refine wpAny_bind (wpAny_onRaise ?_)
    show wpAny _ _ (Builtin.SmallTypes.nextOf (.ref (N + c)) >>= _) _ _ _
    have hit := D2 c hc
    rw [if_neg (by omega)] at hit
    have hlt : 0 < (items c).size := by rw [Z2.sz c hc]; exact hi
    refine wpAny_bind (nextOf_K_item (s := { s with heap := h2 }) hit (Z2.tup c hc) (Array.getElem?_eq_getElem hlt) fun h3 hit3 hs3 => wpAny_pure ?_)
    replace hs3 : Heap.SameBut (N + c) h2 h3 := hs3
    have hT3 : h3.get? TO = some { cls := .type "tuple", data := .seq arr } := hs3.extBut _ _ (ane (.inr (by show N + c < TO; omega))) hT2
    refine wpAny_bind (wpAny_seqItems (s := { s with heap := h3 }) hT3 rfl ?_)
    refine wpAny_bind (wpAny_updateSeq (s := { s with heap := h3 }) hT3 rfl ?_ (by rw [asz]; exact Nat.le_trans hn8 (by decide)) (by rw [Array.size_setIfInBounds, asz]; exact Nat.le_trans hn8 (by decide)))
    refine wpAny_bind (wpAny_letGo (wpAny_pure ⟨_, rfl, rfl, _, arr.setIfInBounds c ((items c)[0]), rfl, ?_⟩))
    generalize hh4 : h3.update TO (Obj.mapSeq fun x_1 => x_1.setIfInBounds c ((items c)[0])) = h4
    have hs4 : Heap.SameBut TO h3 h4 := by rw [← hh4]; exact Heap.SameBut.update ..
    have hT4 : h4.get? TO = some { cls := .type "tuple", data := .seq (arr.setIfInBounds c ((items c)[0])) } := by
      rw [← hh4, Heap.get?_update_self _ hT3 rfl]
      simp [Obj.mapSeq]
    refine ⟨(hs4.1.trans hs3.1).trans sz2, (Z2.other hs3 (ane (.inl (by show N + c < N + n; omega))) (by omega)).other hs4 (ane (.inr t1)) (by omega), fun k hk => ?_, hs4.extBut _ _ zt (hs3.extBut _ _ (ane (.inr (by show N + c < z; omega))) hz2), hT4, by rw [Array.size_setIfInBounds, asz], fun k hk => ?_, fun b o hb hb2 hb3 e => hs4.extBut b o hb2 (hs3.extBut b o (ane (hb3.imp (fun h => Nat.lt_of_lt_of_le h (Nat.le_add_right N c)) fun h => Nat.lt_of_lt_of_le (Nat.add_lt_add_left hc N) h)) (k2 b o hb hb2 hb3 e))⟩
    · have nT : N + k ≠ TO := ane (.inl (by show N + k < TO; omega))
      by_cases e : k = c
      · subst e
        rw [if_pos (by omega)]
        exact hit3.extBut hs4.extBut nT
      · have q := ((D2 k hk).extBut hs3.extBut (fun z => e (Nat.add_left_cancel z))).extBut hs4.extBut nT
        by_cases l : k < c
        · rw [if_pos (by omega)]; rwa [if_pos l] at q
        · rw [if_neg (by omega)]; rwa [if_neg l] at q
    · by_cases e : k = c
      · subst e
        rw [Array.getElem?_setIfInBounds_self, if_pos (by omega), Array.getElem?_eq_getElem hlt]
        rfl
      · rw [Array.getElem?_setIfInBounds_ne (Ne.symm e)]
        exact av k (by omega)
  · rintro b s' ⟨rfl, h2, arr, rfl, sz2, Z2, D2, hz2, hT2, asz, av, k2⟩
    have len : (itv N n).toArray.toList.zipIdx.length = n := by simp [itv]
    rw [Nat.zero_add, len] at D2
    have sz : (col items n 0).length = n := by unfold col; rw [List.length_map, List.length_range]
    have ea : arr.toList = col items n 0 := by
      refine List.ext_getElem? fun k => ?_
      by_cases hk : k < n
      · rw [Array.getElem?_toList, av k (by rw [Nat.zero_add, len]; exact hk), col, List.getElem?_map, List.getElem?_range hk]
        rfl
      · rw [List.getElem?_eq_none (by rw [Array.length_toList, asz]; omega), List.getElem?_eq_none (by rw [sz]; omega)]
    refine wpAny_bind (wpAny_seqItems (s := { s with heap := h2 }) hT2 rfl ?_)
    show wpAny _ _ (newTuple arr.toList >>= _) _ _ _
    rw [ea]
    refine wpAny_bind (wpAny_newTuple (s := { s with heap := h2 }) (hsz := by rw [sz]; exact Nat.le_trans hn8 (by decide)) ?_)
    have up : ∀ b o, h2.get? b = some o → (h2.push (tupObj (col items n 0))).get? b = some o := fun b o e => Heap.get?_push_of_some _ e
    refine wpAny_bind ?_
    show wpAny _ _ (Builtin.SmallTypes.ownedTupleHandOut (.ref z) (.ref h2.objs.size)) _ _ ⟨h2.push (tupObj (col items n 0)), _, _, _, _⟩
    unfold Builtin.SmallTypes.ownedTupleHandOut
    have hz4 : (h2.push (tupObj (col items n 0))).get? z = some (zipObj .ellipsis false (N + n) TO) := up _ _ hz2
    refine wpAny_bind (wpAny_setField_rec hz4 (by simp) fun h5 hz5 hs5 => ?_)
    replace hz5 : h5.get? z = some (zipObj (rawInt h2.objs.size) false (N + n) TO) := hz5
    replace hs5 : Heap.SameBut z (h2.push (tupObj (col items n 0))) h5 := hs5
    refine wpAny_setField_rec hz5 (by simp) fun h6 hz6 hs6 => ?_
    replace hz6 : h6.get? z = some (zipObj (rawInt h2.objs.size) false (N + n) TO) := hz6
    replace hs6 : Heap.SameBut z h5 h6 := hs6
    have zlt : z < h2.objs.size := Heap.lt_size hz2
    have up6 : ∀ b o, b ≠ z → h2.get? b = some o → h6.get? b = some o := fun b o hb e => hs6.extBut b o hb (hs5.extBut b o hb (up b o e))
    refine wpAny_pure ⟨_, rfl, ?_⟩
    show Q (.ref h2.objs.size) _
    have new : h6.get? h2.objs.size = some (tupObj (col items n 0)) := hs6.extBut _ _ (Nat.ne_of_gt zlt) (hs5.extBut _ _ (Nat.ne_of_gt zlt) (Heap.get?_push_size _ rfl))
    rw [sz2] at hz6 new ⊢
    refine hQ h6 ⟨up6 _ _ (ane (.inl z1)) Z2.TI, fun k hk => (Z2.tup k hk).at fun o e => up6 _ o (ane (.inl (Nat.lt_of_lt_of_le (Z2.low k hk) (by omega)))) e, Z2.low, Z2.sz⟩ (fun k hk => ?_) hz6 new (fun b o hb hb2 hb3 e => up6 b o hb (k2 b o hb hb2 hb3 e)) (by rw [hs6.1, hs5.1, Heap.size_push, sz2]; exact Nat.lt_succ_self _)
    have := (D2 k hk).at fun o e => up6 _ o (ane (.inl (by show N + k < z; omega))) e
    rw [if_pos hk] at this
    rw [if_neg (by omega)]
    exact this
theorem zip_end {z TO T : Addr} {f : Bool} {oT : Obj} {Q : Fin → Shared → Prop} (hh : A.handled = none) (Z : ZSt N n m t items kd s.heap) (D : Drawn N n t kd m 0 s.heap) (hz : s.heap.get? z = some (zipObj (rawInt T) f (N + n) TO)) (hT : s.heap.get? T = some oT) (z1 : N + n < z) (hn : 0 < n)
    (hE : ∀ h' e, (∀ b o, b ≠ z → (b < N ∨ N + n ≤ b) → s.heap.get? b = some o → h'.get? b = some o) → (∃ o, h'.get? e = some o ∧ o.cls = .type "StopIteration") → E (.ref e) { s with heap := h' }) :
    wpAny (model prog w) A (Builtin.«zip.__next__» ⟨[.ref z], []⟩) Q E s := by
  show wpAny _ _ (field (.ref z) 2 >>= _) _ _ _
  refine wpAny_bind (wpAny_field hz rfl (x := .bool false) rfl ?_)
  show wpAny _ _ (field (.ref z) 3 >>= _) _ _ _
  refine wpAny_bind (wpAny_field hz rfl (x := .ref (N + n)) rfl (wpAny_bind (wpAny_seqItems Z.TI rfl ?_)))
  obtain ⟨c, rfl⟩ : ∃ c, n = c + 1 := ⟨n - 1, by omega⟩
  have e0 : itv N (c + 1) = Value.ref N :: (List.range c).map (fun k => Value.ref (N + (k + 1))) := by
    unfold itv
    rw [List.range_succ_eq_map, List.map_cons, List.map_map]
    rfl
  have ne : (itv N (c + 1)).toArray.isEmpty = false := by rw [e0]; rfl
  simp only [ne, Bool.false_eq_true, if_false]
  refine wpAny_bind (wpAny_tupleHeld_zip hz hT fun h1 hz1 hs1 => ?_)
  simp only [Bool.false_eq_true, if_false]
  refine wpAny_bind ?_
  rw [← Array.forIn_toList, show (itv N (c + 1)).toArray.toList = itv N (c + 1) from rfl, e0, List.forIn_cons]
  refine wpAny_bind (wpAny_bind (wpAny_holding ?_))
  show wpAny _ _ (Builtin.SmallTypes.nextOf (.ref N) >>= _) _ _ _
  have hit := (D 0 hn).extBut hs1.extBut (ane (.inl (by show N + 0 < z; omega)))
  rw [if_neg (by omega)] at hit
  have tup := (Z.tup 0 hn).extBut hs1.extBut (ane (.inl (Nat.lt_of_lt_of_le (Z.low 0 hn) (by omega))))
  refine wpAny_bind (nextOf_K_end (s := { s with heap := h1 }) hh hit tup (Array.getElem?_eq_none (by rw [Z.sz 0 hn]; exact Nat.le_refl _)) fun h2 e hs2 he => ?_)
  exact hE h2 e (fun b o hb hb2 q => hs2 b o (ane (hb2.imp (fun h => h) fun h => Nat.lt_of_lt_of_le (by omega) h)) (hs1.extBut b o hb q)) he
theorem zip_no_len : typeLookup (.type "zip") "__len__" = pure none := by
  rw [typeLookup_type, builtinLookup_eq_fast]; kernel_rfl
theorem zip_no_hint : typeLookup (.type "zip") "__length_hint__" = pure none := by
  rw [typeLookup_type, builtinLookup_eq_fast]; kernel_rfl
/-- i columns stand in the list at S -/
structure Fill (N n m : Nat) (t : Nat → Addr) (items : Nat → Array Value) (kd : Nat → Bool) (h0 : Heap) (i : Nat) (h : Heap) (acc : Array Value) : Prop where
  Z : ZSt N n m t items kd h
  D : Drawn N n t kd i 0 h
  zf : (i = 0 ∧ h.get? (N + n + 2) = some (zipObj .none false (N + n) (N + n + 1)) ∧ ∃ vs : List Value, h.get? (N + n + 1) = some (tupObj vs) ∧ vs.length = n) ∨ (0 < i ∧ ∃ (T : Addr) (f : Bool), acc[0]? = some (.ref T) ∧ h.get? (N + n + 2) = some (zipObj (rawInt T) f (N + n) (N + n + 1)))
  ac : acc.size = i
  made : ∀ j, j < i → ∃ T : Addr, acc[j]? = some (.ref T) ∧ N + n + 3 < T ∧ h.get? T = some (tupObj (col items n j))
  keep : ∀ b o, b < N → h0.get? b = some o → h.get? b = some o
  inj : ∀ (i j : Nat) (T : Addr), acc[i]? = some (.ref T) → acc[j]? = some (.ref T) → i = j
theorem fill_step {h0 : Heap} {i : Nat} {acc : Array Value} {Q : Option Value → Shared → Prop} (Fi : Fill N n m t items kd h0 i s.heap acc) (hn : 0 < n) (hn8 : n ≤ 8) (hi : i < m) (hsz : N + n + 3 < s.heap.objs.size)
    (hQ : ∀ (h' : Heap) (T : Addr), Fill N n m t items kd h0 (i + 1) h' (acc.push (.ref T)) → (∀ o, s.heap.get? (N + n + 3) = some o → h'.get? (N + n + 3) = some o) → s.heap.objs.size < h'.objs.size → Q (some (.ref T)) { s with heap := h' }) :
    wpAny (model prog w) A (pyNext (.ref (N + n + 2))) Q E s := by
  have nw : s.heap.get? s.heap.objs.size = none := Heap.get?_none_of_le (Nat.le_refl _)
  have old : ∀ (h' : Heap), (∀ b o, b ≠ N + n + 2 → b ≠ N + n + 1 → (b < N ∨ N + n ≤ b) → s.heap.get? b = some o → h'.get? b = some o) → h'.get? s.heap.objs.size = some (tupObj (col items n i)) →
      (∀ j, j < i + 1 → ∃ T : Addr, (acc.push (Value.ref s.heap.objs.size))[j]? = some (.ref T) ∧ N + n + 3 < T ∧ h'.get? T = some (tupObj (col items n j))) ∧ (∀ b o, b < N → h0.get? b = some o → h'.get? b = some o) ∧ ∀ o, s.heap.get? (N + n + 3) = some o → h'.get? (N + n + 3) = some o := by
    intro h' k new
    refine ⟨fun j hj => ?_, fun b o hb e => k b o (ane (.inl (by show b < N + n + 2; exact Nat.lt_of_lt_of_le hb (by omega)))) (ane (.inl (Nat.lt_of_lt_of_le hb (by omega)))) (.inl hb) (Fi.keep b o hb e), fun o e => k _ o (ane (.inr (Nat.lt_succ_self _))) (ane (.inr (by show N + n + 1 < N + n + 3; omega))) (.inr (by omega)) e⟩
    by_cases c : j = i
    · subst c
      refine ⟨s.heap.objs.size, ?_, hsz, new⟩
      rw [Array.getElem?_push, Fi.ac, if_pos rfl]
    · obtain ⟨T, e1, e2, e3⟩ := Fi.made j (by omega)
      refine ⟨T, ?_, e2, k T _ (ane (.inr (Nat.lt_trans (Nat.lt_succ_self _) e2))) (ane (.inr (Nat.lt_trans (by show N + n + 1 < N + n + 3; omega) e2))) (.inr (Nat.le_of_lt (Nat.lt_of_le_of_lt (by omega) e2))) e3⟩
      rw [Array.getElem?_push, Fi.ac, if_neg c]
      exact e1
  have inj : ∀ (a b : Nat) (T : Addr), (acc.push (Value.ref s.heap.objs.size))[a]? = some (.ref T) → (acc.push (Value.ref s.heap.objs.size))[b]? = some (.ref T) → a = b := by
    have low : ∀ (a : Nat) (T : Addr), acc[a]? = some (.ref T) → T < s.heap.objs.size := by
      intro a T e
      obtain ⟨T', e', _, g⟩ := Fi.made a (by rw [← Fi.ac]; exact (Array.getElem?_eq_some_iff.mp e).1)
      rw [e] at e'; cases e'
      exact Heap.lt_size g
    intro a b T ha hb
    rw [Array.getElem?_push] at ha hb
    by_cases ca : a = acc.size
    · by_cases cb : b = acc.size
      · rw [ca, cb]
      · rw [if_pos ca] at ha; rw [if_neg cb] at hb
        cases ha
        exact absurd (low _ _ hb) (Nat.lt_irrefl _)
    · rw [if_neg ca] at ha
      by_cases cb : b = acc.size
      · rw [if_pos cb] at hb
        cases hb
        exact absurd (low _ _ ha) (Nat.lt_irrefl _)
      · rw [if_neg cb] at hb
        exact Fi.inj a b T ha hb
  have go : ∀ (f0 : Value) (b0 : Bool) (hz : s.heap.get? (N + n + 2) = some (zipObj f0 b0 (N + n) (N + n + 1))), (∀ E' : Value → Shared → Prop, wpAny (model prog w) A.in1 (Builtin.«zip.__next__» ⟨[.ref (N + n + 2)], []⟩) (fun fin s' => ∃ v, fin = .done (.ret v) ∧ Q (some v) s') E' s) → wpAny (model prog w) A (pyNext (.ref (N + n + 2))) Q E s := by
    intro f0 b0 hz hw
    have hTy : s.TypeIs (.ref (N + n + 2)) "zip" := ⟨_, hz, rfl⟩
    unfold pyNext
    refine wpAny_bind (wpAny_attempt (wpAny_callSpecial?_slot (name := Str.ofString "__next__") hTy F.slot_zip_next (wpAny_call_entry F.slot_zip_next hTy F.entry_zip_next ?_ (F.args_zip_next_1 _))))
    refine thn (hw _) ?_
    rintro fin' s' ⟨v, e, q⟩
    exact ⟨v, e, wpAny_pure q⟩
  rcases Fi.zf with ⟨i0, hz, vs, hT, hv⟩ | ⟨i0, T, f, e1, hz⟩
  · subst i0
    refine go _ _ hz fun E' => (zip_first Fi.Z Fi.D hz hT hv (by show N + n < N + n + 2; omega) (by show N + n < N + n + 1; omega) (ane (.inr (Nat.lt_succ_self _))) hn hn8 hi ?_)
    intro h' Z' D' z' new k sz
    obtain ⟨m1, m2, m3⟩ := old h' k new
    refine hQ h' _ ⟨Z', D', .inr ⟨by omega, _, _, ?_, z'⟩, by rw [Array.size_push, Fi.ac], m1, m2, inj⟩ m3 sz
    rw [Array.getElem?_push, Fi.ac, if_pos (by omega)]
  · obtain ⟨T', e2, e3, e4⟩ := Fi.made 0 i0
    obtain rfl : T = T' := by rw [e1] at e2; cases e2; rfl
    refine go _ _ hz fun E' => (zip_held Fi.Z Fi.D hz e4 (by show N + n < N + n + 2; omega) hn hn8 hi ?_)
    intro h' Z' D' z' new k sz
    obtain ⟨m1, m2, m3⟩ := old h' (fun b o b1 _ b3 => k b o b1 b3) new
    refine hQ h' _ ⟨Z', D', .inr ⟨by omega, T, _, ?_, z'⟩, by rw [Array.size_push, Fi.ac], m1, m2, inj⟩ m3 sz
    rw [Array.getElem?_push, Fi.ac, if_neg (by omega)]
    exact e1
/-- list(zip(..)) fills its list -/
theorem zip_loop {h0 : Heap} {R : Result → Shared → Prop} {res : Value} (hh : A.handled = none) (hn : 0 < n) (hn8 : n ≤ 8) (hm : 0 < m) (hm2 : m ≤ 1000) : ∀ (k i : Nat) (s : Shared) (acc : Array Value) (c : Nat), m - i = k → i ≤ m → Fill N n m t items kd h0 i s.heap acc → N + n + 3 < s.heap.objs.size →
    s.heap.get? (N + n + 3) = some { cls := .type "list", dict := none, data := .seq acc c, slots := #[] } →
    (∀ (h' : Heap) (acc' : Array Value) (c' : Nat), (∀ b o, b < N → h0.get? b = some o → h'.get? b = some o) → h'.get? (N + n + 3) = some { cls := .type "list", dict := none, data := .seq acc' c', slots := #[] } → acc'.size = m →
      (∀ j, j < m → ∃ T : Addr, acc'[j]? = some (.ref T) ∧ N + n + 3 < T ∧ h'.get? T = some (tupObj (col items n j))) → (∀ (i j : Nat) (T : Addr), acc'[i]? = some (.ref T) → acc'[j]? = some (.ref T) → i = j) → R (.ok (.ret res)) { s with heap := h' }) →
    codeAny (model prog w) A (.builtin "list.extend.loop" ⟨[.ref (N + n + 3), .ref (N + n + 2), res], []⟩) R s := by
  intro k
  induction k with
  | zero =>
    intro i s acc c hk hi Fi sz hS hR
    obtain rfl : i = m := by omega
    refine codeAny_builtin F.entry_extend_loop ?_
    rw [Around.under_plainId F.plain_extend_loop _]
    show wpAny _ A.in1 (pyNext (.ref (N + n + 2)) >>= _) _ _ s
    refine wpAny_bind ?_
    rcases Fi.zf with ⟨i0, _⟩ | ⟨i0, T, f, e1, hz⟩
    · omega
    obtain ⟨T', e2, e3, e4⟩ := Fi.made 0 i0
    obtain rfl : T = T' := by rw [e1] at e2; cases e2; rfl
    have hTy : s.TypeIs (.ref (N + n + 2)) "zip" := ⟨_, hz, rfl⟩
    unfold pyNext
    refine wpAny_bind (wpAny_attempt (wpAny_callSpecial?_slot (name := Str.ofString "__next__") hTy F.slot_zip_next (wpAny_call_entry F.slot_zip_next hTy F.entry_zip_next
      (zip_end hh Fi.Z Fi.D hz e4 (by show N + n < N + n + 2; omega) hn fun h' e ks he => ?_) (F.args_zip_next_1 _))))
    obtain ⟨o, ho, hc⟩ := he
    refine wpAny_bind (wpAny_isInstance (T := "StopIteration") (b := true) ⟨o, ho, hc⟩ isSubtype_stop ?_)
    refine wpAny_pure (wpAny_pure (hR h' acc c (fun b o hb q => ks b o (ane (.inl (Nat.lt_of_lt_of_le hb (by omega)))) (.inl hb) (Fi.keep b o hb q)) (ks _ _ (ane (.inr (Nat.lt_succ_self _))) (.inr (by omega)) hS) Fi.ac (fun j hj => ?_) Fi.inj))
    obtain ⟨T2, q1, q2, q3⟩ := Fi.made j hj
    exact ⟨T2, q1, q2, ks T2 _ (ane (.inr (Nat.lt_trans (Nat.lt_succ_self _) q2))) (.inr (Nat.le_of_lt (Nat.lt_of_le_of_lt (by omega) q2))) q3⟩
  | succ k ih =>
    intro i s acc c hk hi Fi sz hS hR
    refine codeAny_builtin F.entry_extend_loop ?_
    rw [Around.under_plainId F.plain_extend_loop _]
    show wpAny _ A.in1 (pyNext (.ref (N + n + 2)) >>= _) _ _ s
    refine wpAny_bind (fill_step Fi hn hn8 (by omega) sz fun h' T Fi' kS sz' => ?_)
    have hS' := kS _ hS
    show wpAny _ A.in1 (updateSeq (N + n + 3) (·.push (Value.ref T)) >>= _) _ _ _
    refine wpAny_bind (wpAny_updateSeq (s := { s with heap := h' }) hS' rfl (wpAny_pure ⟨plainId_quiet F.plain_extend_loop _, ?_⟩) (by rw [Fi.ac]; exact Nat.le_of_lt (small1000 (by omega))) (by show (acc.push _).size ≤ _; rw [Array.size_push, Fi.ac]; exact Nat.succ_le_succ (Nat.le_of_lt (small1000 (by omega)))))
    generalize hh5 : h'.update (N + n + 3) (Obj.mapSeq fun x => x.push (Value.ref T)) = h5
    have up : ∀ b o, b ≠ N + n + 3 → h'.get? b = some o → h5.get? b = some o := fun b o hb e => by rw [← hh5]; exact (Heap.get?_update_other _ _ (Ne.symm hb)).trans e
    have new : h5.get? (N + n + 3) = some { cls := .type "list", dict := none, data := .seq (acc.push (Value.ref T)) (c + 1), slots := #[] } := by
      rw [← hh5, Heap.get?_update_self _ hS' rfl]
      simp [Obj.mapSeq]
    have s5 : h5.objs.size = h'.objs.size := by rw [← hh5]; exact (Heap.SameBut.update ..).1
    have F5 : Fill N n m t items kd h0 (i + 1) h5 (acc.push (.ref T)) := by
      refine ⟨⟨up _ _ (ane (.inl (by show N + n < N + n + 3; omega))) Fi'.Z.TI, fun k hk => (Fi'.Z.tup k hk).at fun o e => up _ o (ane (.inl (Nat.lt_of_lt_of_le (Fi'.Z.low k hk) (by omega)))) e, Fi'.Z.low, Fi'.Z.sz⟩, fun k hk => (Fi'.D k hk).at fun o e => up _ o (ane (.inl (by show N + k < N + n + 3; omega))) e, ?_, Fi'.ac, fun j hj => ?_, fun b o hb e => up b o (ane (.inl (Nat.lt_of_lt_of_le hb (by omega)))) (Fi'.keep b o hb e), Fi'.inj⟩
      · rcases Fi'.zf with ⟨i0, _⟩ | ⟨i0, T1, f, e1, hz⟩
        · omega
        · exact .inr ⟨i0, T1, f, e1, up _ _ (ane (.inl (Nat.lt_succ_self _))) hz⟩
      · obtain ⟨T2, q1, q2, q3⟩ := Fi'.made j hj
        exact ⟨T2, q1, q2, up T2 _ (ane (.inr q2)) q3⟩
    exact ih (i + 1) { s with heap := h5 } (acc.push (.ref T)) (c + 1) (by omega) (by omega) F5 (by show N + n + 3 < h5.objs.size; rw [s5]; exact Nat.lt_trans sz sz') new hR
/-- list(z) of a zip that has just been made -/
theorem zip_init {R : Result → Shared → Prop} (hh : A.handled = none) (hn : 0 < n) (hn8 : n ≤ 8) (hm : 0 < m) (hm2 : m ≤ 1000) (Fi : Fill N n m t items kd s.heap 0 s.heap #[]) (sz : s.heap.objs.size = N + n + 4) (hS : s.heap.get? (N + n + 3) = some { cls := .type "list", data := .seq #[] })
    (hR : ∀ (h' : Heap) (acc' : Array Value) (c' : Nat), (∀ b o, b < N → s.heap.get? b = some o → h'.get? b = some o) → h'.get? (N + n + 3) = some { cls := .type "list", dict := none, data := .seq acc' c', slots := #[] } → acc'.size = m →
      (∀ j, j < m → ∃ T : Addr, acc'[j]? = some (.ref T) ∧ N + n + 3 < T ∧ h'.get? T = some (tupObj (col items n j))) → (∀ (i j : Nat) (T : Addr), acc'[i]? = some (.ref T) → acc'[j]? = some (.ref T) → i = j) → R (.ok (.ret .none)) { s with heap := h' }) :
    wpAny (model prog w) A.in1 (Builtin.«list.__init__» ⟨[.ref (N + n + 3), .ref (N + n + 2)], []⟩)
      (fun fin s' => match fin with | .done f => R (.ok f) s' | .again c' => c'.quiet = true ∧ codeAny (model prog w) A c' R s') (fun e s' => R (.error e) s') s := by
  rcases Fi.zf with ⟨_, hz, vs, hT, hv⟩ | ⟨i0, _⟩
  rotate_left
  · exact absurd i0 (Nat.lt_irrefl _)
  show wpAny _ A.in1 (Builtin.List.listItems (.ref (N + n + 3)) >>= fun old => Builtin.List.listUpdate (.ref (N + n + 3)) (fun _ => #[]) >>= fun _ => letGo old.toList.reverse >>= fun _ => Builtin.List.listExtendWith (.ref (N + n + 3)) (.ref (N + n + 2)) .none) _ _ s
  refine wpAny_bind ?_
  unfold Builtin.List.listItems
  refine wpAny_bind (wpAny_seqItems hS rfl (wpAny_pure ?_))
  show wpAny _ A.in1 (updateSeq (N + n + 3) (fun _ => #[]) >>= fun _ => letGo (#[] : Array Value).toList.reverse >>= fun _ => Builtin.List.listExtendWith (.ref (N + n + 3)) (.ref (N + n + 2)) .none) _ _ s
  -- every change of the list's own object keeps the rest
  have step : ∀ (g : Heap) (f : Array Value → Array Value) (xs : Array Value) (c : Nat), g.get? (N + n + 3) = some { cls := .type "list", dict := none, data := .seq xs c, slots := #[] } → ∃ g' c', g.update (N + n + 3) (Obj.mapSeq f) = g' ∧ g'.get? (N + n + 3) = some { cls := .type "list", dict := none, data := .seq (f xs) c', slots := #[] } ∧ g'.objs.size = g.objs.size ∧ ∀ b o, b ≠ N + n + 3 → g.get? b = some o → g'.get? b = some o := by
    intro g f xs c hg
    exact ⟨_, _, rfl, Heap.get?_update_self _ hg rfl, (Heap.SameBut.update ..).1, fun b o hb e => (Heap.get?_update_other _ _ (Ne.symm hb)).trans e⟩
  have carry : ∀ (g g' : Heap), g'.objs.size = g.objs.size → (∀ b o, b ≠ N + n + 3 → g.get? b = some o → g'.get? b = some o) → Fill N n m t items kd s.heap 0 g #[] → Fill N n m t items kd s.heap 0 g' #[] := by
    intro g g' _ up Fg
    refine ⟨⟨up _ _ (ane (.inl (by show N + n < N + n + 3; omega))) Fg.Z.TI, fun k hk => (Fg.Z.tup k hk).at fun o e => up _ o (ane (.inl (Nat.lt_of_lt_of_le (Fg.Z.low k hk) (by omega)))) e, Fg.Z.low, Fg.Z.sz⟩, fun k hk => (Fg.D k hk).at fun o e => up _ o (ane (.inl (by show N + k < N + n + 3; omega))) e, ?_, rfl, fun j hj => absurd hj (Nat.not_lt_zero _), fun b o hb e => up b o (ane (.inl (Nat.lt_of_lt_of_le hb (by omega)))) (Fg.keep b o hb e), Fg.inj⟩
    rcases Fg.zf with ⟨_, q1, ws, q2, q3⟩ | ⟨i0, _⟩
    · exact .inl ⟨rfl, up _ _ (ane (.inl (Nat.lt_succ_self _))) q1, ws, up _ _ (ane (.inl (by show N + n + 1 < N + n + 3; omega))) q2, q3⟩
    · exact absurd i0 (Nat.lt_irrefl _)
  obtain ⟨g1, c1, e1, l1, z1, k1⟩ := step s.heap (fun _ => #[]) #[] _ hS
  have F1 := carry _ _ z1 k1 Fi
  refine wpAny_bind (wpAny_updateSeq hS rfl (wpAny_bind (wpAny_letGo ?_)))
  rw [e1]
  unfold Builtin.List.listExtendWith
  have hz1 : g1.get? (N + n + 2) = some (zipObj .none false (N + n) (N + n + 1)) := k1 _ _ (ane (.inl (Nat.lt_succ_self _))) hz
  have hTy : (⟨g1, s.gens, s.drawn, s.toks, s.os⟩ : Shared).TypeIs (.ref (N + n + 2)) "zip" := ⟨_, hz1, rfl⟩
  refine wpAny_bind (wpAny_typeOf hTy ?_)
  have h1 : Builtin.List.listSameRef (.ref (N + n + 3)) (.ref (N + n + 2)) = false := by simp [Builtin.List.listSameRef]
  have h2 : (Value.type "zip" == Value.type "list") = false := by decide
  have h3 : (Value.type "zip" == Value.type "tuple") = false := by decide
  simp only [h1, h2, h3, Bool.or_false, Bool.false_eq_true, if_false]
  refine wpAny_bind (wpAny_pyIter_zip (s := ⟨g1, s.gens, s.drawn, s.toks, s.os⟩) hz1 (wpAny_bind (wpAny_holding ?_)))
  unfold Builtin.List.listLengthHint
  refine wpAny_bind (wpAny_specialOf hTy zip_no_len ?_)
  show wpAny _ A.in1 (specialOf (Value.ref (N + n + 2)) (Str.ofString "__length_hint__") >>= _) _ _ _
  refine wpAny_bind (wpAny_specialOf hTy zip_no_hint (wpAny_pure ?_))
  show wpAny _ A.in1 (rule "list.extend.makes-room" >>= fun _ => Builtin.List.listTouch (.ref (N + n + 3)) >>= fun _ =>
    again (.builtin "list.extend.loop" ⟨[.ref (N + n + 3), .ref (N + n + 2), .none], []⟩)) _ _ _
  refine wpAny_bind (wpAny_rule ?_)
  refine wpAny_bind ?_
  show wpAny _ A.in1 (updateSeq (N + n + 3) (·.push .none) >>= fun _ => updateSeq (N + n + 3) (·.pop)) _ _ _
  obtain ⟨g2, c2, e2, l2, z2, k2⟩ := step g1 (·.push .none) #[] _ l1
  have F2 := carry _ _ z2 k2 F1
  refine wpAny_bind (wpAny_updateSeq (s := ⟨g1, s.gens, s.drawn, s.toks, s.os⟩) l1 rfl ?_)
  rw [e2]
  obtain ⟨g3, c3, e3, l3, z3, k3⟩ := step g2 (·.pop) _ _ l2
  have F3 := carry _ _ z3 k3 F2
  refine wpAny_updateSeq (s := ⟨g2, s.gens, s.drawn, s.toks, s.os⟩) l2 rfl ?_
  rw [e3]
  have hsz3 : N + n + 3 < g3.objs.size := by rw [z3, z2, z1, sz]; omega
  refine wpAny_pure ⟨plainId_quiet F.plain_extend_loop _, zip_loop hh hn hn8 hm hm2 m 0 ⟨g3, s.gens, s.drawn, s.toks, s.os⟩ #[] c3 (Nat.sub_zero _) (Nat.zero_le _) F3 hsz3 l3 ?_⟩
  exact hR
end
section
variable {prog : Program} {w : World} {A : Around} {E : Value → Shared → Prop} {s : Shared}
theorem call_zipN {ts : List Addr} {items : Nat → Array Value} {kd : Nat → Bool} {Q : Value → Shared → Prop} (h8 : ts.length ≤ 8) (ht : ∀ k t, ts[k]? = some t → KSq (kd k) s.heap t (items k))
    (hQ : ∀ h' : Heap, h'.objs.size = s.heap.objs.size + ts.length → (∀ b o, s.heap.get? b = some o → h'.get? b = some o) → (∀ k t, ts[k]? = some t → KIt (kd k) h' (s.heap.objs.size + k) t 0) →
      Q (.ref (h'.objs.size + 2)) { s with heap := zipHeap h' (itv s.heap.objs.size ts.length) }) : wpAny (model prog w) A (call (.type "zip") (ts.map Value.ref)) Q E s := by
  refine callType_new F.called_zip (by decide) (zt _) (zn _ (by rw [List.length_map]; exact h8)) (fun obj => zo obj _) F.entry_zip_new (meets_zip ts items kd (Nat.le_trans h8 (by decide))) ⟨ht, fun h' hz hk hi => ?_⟩
  have e : ((h'.push (tupObj (itv s.heap.objs.size ts.length))).push (tupObj ((itv s.heap.objs.size ts.length).map fun _ => Value.none))).objs.size = h'.objs.size + 2 := by rw [Heap.size_push, Heap.size_push]
  have g : (zipHeap h' (itv s.heap.objs.size ts.length)).get? (h'.objs.size + 2) = some (zipObj .none false h'.objs.size (h'.objs.size + 1)) := by
    rw [← e]
    exact Heap.get?_push_size _ rfl
  exact ⟨⟨_, g, rfl⟩, hQ h' hz hk hi⟩
/-- list(zip(..)): n tuples of m items each -/
theorem call_listZip {n m : Nat} {ts : List Addr} {items : Nat → Array Value} {kd : Nat → Bool} {Q : Value → Shared → Prop} (hh : A.handled = none) (hl : ts.length = n) (hn : 0 < n) (hn8 : n ≤ 8) (hm : 0 < m) (hm2 : m ≤ 1000)
    (ht : ∀ k t, ts[k]? = some t → KSq (kd k) s.heap t (items k)) (hs : ∀ k, k < n → (items k).size = m)
    (hQ : ∀ (h' : Heap) (acc' : Array Value) (c' : Nat) (L : Addr), s.heap.objs.size ≤ L → (∀ b o, s.heap.get? b = some o → h'.get? b = some o) → h'.get? L = some { cls := .type "list", dict := none, data := .seq acc' c', slots := #[] } → acc'.size = m →
      (∀ j, j < m → ∃ T : Addr, acc'[j]? = some (.ref T) ∧ L < T ∧ h'.get? T = some (tupObj (col items n j))) → (∀ (i j : Nat) (T : Addr), acc'[i]? = some (.ref T) → acc'[j]? = some (.ref T) → i = j) → Q (.ref L) { s with heap := h' }) :
    wpAny (model prog w) A (call (.type "zip") (ts.map Value.ref)) (fun v s1 => wpAny (model prog w) A (call (.type "list") [v]) Q E s1) E s := by
  subst hl
  refine call_zipN hn8 ht fun h' hz hk hi => ?_
  generalize hN : s.heap.objs.size = N at *
  have sz : (zipHeap h' (itv N ts.length)).objs.size = N + ts.length + 3 := by simp only [Heap.size_push, hz]
  have g1 : (zipHeap h' (itv N ts.length)).get? (N + ts.length) = some (tupObj (itv N ts.length)) := by
    refine Heap.get?_push_of_some _ (Heap.get?_push_of_some _ ?_)
    rw [← hz]
    exact Heap.get?_push_size _ rfl
  have g2 : (zipHeap h' (itv N ts.length)).get? (N + ts.length + 1) = some (tupObj ((itv N ts.length).map fun _ => Value.none)) := by
    refine Heap.get?_push_of_some _ ?_
    have e : (h'.push (tupObj (itv N ts.length))).objs.size = N + ts.length + 1 := by rw [Heap.size_push, hz]
    rw [← e]
    exact Heap.get?_push_size _ rfl
  have g3 : (zipHeap h' (itv N ts.length)).get? (N + ts.length + 2) = some (zipObj .none false (N + ts.length) (N + ts.length + 1)) := by
    have e : ((h'.push (tupObj (itv N ts.length))).push (tupObj ((itv N ts.length).map fun _ => Value.none))).objs.size = N + ts.length + 2 := by rw [Heap.size_push, Heap.size_push, hz]
    rw [← e, ← hz]
    exact Heap.get?_push_size _ rfl
  have up0 : ∀ b o, h'.get? b = some o → (zipHeap h' (itv N ts.length)).get? b = some o := fun b o e => Heap.get?_push_of_some _ (Heap.get?_push_of_some _ (Heap.get?_push_of_some _ e))
  rw [show h'.objs.size + 2 = N + ts.length + 2 by rw [hz]]
  generalize hZ : zipHeap h' (itv N ts.length) = hp at *
  refine callType_codes (Q₁ := fun obj s₁ => obj = .ref (N + ts.length + 3) ∧ s₁ = { s with heap := hp.push { cls := .type "list", data := .seq #[] } }) F.called_list (F.typeCall_list_1 _) F.entry_list_init
    (code_list_new _ ⟨by rw [show ({ s with heap := hp } : Shared).heap.objs.size = N + ts.length + 3 from sz], rfl⟩) fun obj s₁ h₁ => ?_
  obtain ⟨rfl, rfl⟩ := h₁
  have hS : (hp.push { cls := .type "list", data := .seq #[] }).get? (N + ts.length + 3) = some { cls := .type "list", data := .seq #[] } := by
    rw [← sz]
    exact Heap.get?_push_size _ rfl
  have up1 : ∀ b o, hp.get? b = some o → (hp.push { cls := .type "list", data := .seq #[] }).get? b = some o := fun b o e => Heap.get?_push_of_some _ e
  have tk : ∀ k, k < ts.length → ts[k]? = some (ts[k]?.getD 0) := fun k hk => by rw [List.getElem?_eq_getElem hk]; rfl
  have Fi : Fill N ts.length m (fun k => ts[k]?.getD 0) items kd (hp.push { cls := .type "list", data := .seq #[] }) 0 (hp.push { cls := .type "list", data := .seq #[] }) #[] := by
    refine ⟨⟨up1 _ _ g1, fun k hk' => ?_, fun k hk' => ?_, hs⟩, fun k hk' => ?_, .inl ⟨rfl, up1 _ _ g3, _, up1 _ _ g2, ?_⟩, rfl, fun j hj => absurd hj (Nat.not_lt_zero _), fun b o _ e => e, fun i j T e => by simp at e⟩
    · exact (ht k _ (tk k hk')).at fun o e => up1 _ o (up0 _ o (hk _ o e))
    · obtain ⟨o, ho⟩ := (ht k _ (tk k hk')).there
      rw [← hN]
      exact Heap.lt_size ho
    · rw [if_neg (Nat.not_lt_zero _)]
      exact (hi k _ (tk k hk')).at fun o e => up1 _ o (up0 _ o e)
    · unfold itv; rw [List.length_map, List.length_map, List.length_range]
  refine ⟨⟨_, hS, rfl⟩, F.args_list_init_2 _ _, zip_init (A := A.in1) hh hn hn8 hm hm2 Fi (by show (hp.push _).objs.size = _; rw [Heap.size_push, sz]) hS fun h2 acc c kp gL sz2 made inj => ?_⟩
  refine ⟨rfl, hQ h2 acc c _ (by omega) (fun b o e => kp b o ?_ (up1 _ _ (up0 _ _ (hk b o e)))) gL sz2 made inj⟩
  rw [← hN]
  exact Heap.lt_size e
end
end Dz

/-! more by data: repr, isinstance, int, max, zips, enumerate, reversed ranges, stars; the pen; the law's start -/
namespace Dl
open PySem PySem.Spec PyProof.Rows L2 Vx
section
variable {X : Cx} {tg e a b c : Expr} {f fa fb : FE} {fl : FL} {pos p p2 pos2 : Pos}
/-! repr of data -/
def gRep1 (d : PyData) (Q : PyData → Prop) : Prop := match d with
  | .int i => i.natAbs < 10 ^ 12 ∧ Q (.str (PyData.int i).shown)
  | .list ds => noDs ds = true ∧ Shw (.list ds) ∧ Q (.str (PyData.list ds).shown)
  | .tuple ds => noDs ds = true ∧ Shw (.tuple ds) ∧ Q (.str (PyData.tuple ds).shown)
  | .none => Q (.str PyData.none.shown)
  | _ => False
theorem repr_d {K : PySem.W.Frag} : CallD K (rReprA K) gRep1 := by
  intro hs H F x d Qd Q z rx g k
  cases d with
  | int i =>
    refine .inr ⟨0, _, .int i, rfl, by rw [rx.int]; exact .int i, gd_int g.1 _ _, k _ H F _ (.refl _ _ _) z (.str _) g.2⟩
  | none => exact .inr ⟨0, _, .none, rfl, by rw [rx.non]; exact .non, ⟨rfl, rfl, Nat.zero_le _, Nat.zero_le _⟩, k _ H F _ (.refl _ _ _) z (.str _) g⟩
  | list ds =>
    obtain ⟨n, ⟨g1, g2, g3, g4⟩, g⟩ := g
    obtain ⟨a, xs, rfl, h1, r1⟩ := rx.list z
    exact .inl ⟨a, _, rfl, rx.dp z n, g1, g2, g3, g4, k _ H F _ (.refl _ _ _) z (.str _) g⟩
  | tuple ds =>
    obtain ⟨n, ⟨g1, g2, g3, g4⟩, g⟩ := g
    obtain ⟨a, xs, rfl, h1, r1⟩ := rx.tup z
    exact .inl ⟨a, _, rfl, rx.dp z n, g1, g2, g3, g4, k _ H F _ (.refl _ _ _) z (.str _) g⟩
  | _ => exact g.elim
/-! int(x), bool -/
def gInt (d : PyData) (Q : PyData → Prop) : Prop := match d with
  | .int i => Q (.int i)
  | .bool b => Q (.int (if b then 1 else 0))
  | _ => False
def rInt1 : List V → Hp → VK → Prop := fun xs H Q => (∃ i, xs = [.int i] ∧ Q (.int i) H) ∨ ∃ k, xs = [.bl k] ∧ Q (.int (if k then 1 else 0)) H
theorem int_d {K : PySem.W.Frag} : CallD K rInt1 gInt := by
  intro hs H F x d Qd Q z rx g k
  cases d with
  | int i => exact .inl ⟨i, by rw [rx.int], k _ H F _ (.refl _ _ _) z (.int _) g⟩
  | bool b => exact .inr ⟨b, by rw [rx.bl], k _ H F _ (.refl _ _ _) z (.int _) g⟩
  | _ => exact g.elim
/-! all(list of bools), any -/
def gAll (d : PyData) (Q : PyData → Prop) : Prop := match d with
  | .list ds => ∃ bs : List Bool, ds = bs.map PyData.bool ∧ Q (.bool (bs.all id))
  | _ => False
theorem DdAll.bools {K : PySem.W.Frag} {F : Hp} : ∀ {bs : List Bool} {vs : List V}, DdAll K F vs (bs.map PyData.bool) → vs = bs.map V.bl
  | [], _, .nil => rfl
  | _ :: _, _, .cons (.bl i) r => by rw [DdAll.bools r]; rfl
theorem all_d {K : PySem.W.Frag} : CallD K (rAll K) gAll := by
  intro hs H F x d Qd Q z rx g k
  cases d with
  | list ds =>
    obtain ⟨bs, rfl, g⟩ := g
    obtain ⟨a, xs, rfl, h1, r1⟩ := rx.list z
    obtain rfl := r1.bools
    exact ⟨a, bs, rfl, SqL.of h1, k _ H F _ (.refl _ _ _) z (.bl _) g⟩
  | _ => exact g.elim
/-! isinstance of data, one built-in type -/
def tyN : PyData → String
  | .none => "NoneType"
  | .bool _ => "bool"
  | .int _ => "int"
  | .str _ => "str"
  | .list _ => "list"
  | .tuple _ => "tuple"
  | .dict _ => "dict"
def isD : PyData → Bool
  | .dict _ => false
  | _ => true
theorem OwR.ty {K : PySem.W.Frag} {hs : List Addr} {H F : Hp} {v : V} {d : PyData} (h : OwR K hs H F v d) (z : Fz H F) (n : isD d = true) : TyX K H v (.type (tyN d)) := by
  cases d with
  | none => rw [h.non]; exact .base .non
  | bool b => rw [h.bl]; exact .base (.bl b)
  | int b => rw [h.int]; exact .base (.int b)
  | str b => rw [h.str]; exact .base (.str b)
  | list ds =>
    obtain ⟨a, xs, rfl, h1, r1⟩ := h.list z
    exact .base (.lst h1)
  | tuple ds =>
    obtain ⟨a, xs, rfl, h1, r1⟩ := h.tup z
    rcases h1 with (h1 | ⟨o, h1⟩) | ⟨o, its, n, hk, hc, _⟩
    · exact .base (.tup h1)
    · exact .fTuple h1
    · exact .kTuple hk hc
  | dict _ => cases n
def wIsi (T : String) (f : FE) : FE := fun E Q => f E fun d => isD d = true ∧ ∃ b, kitB (tyN d) T = some b ∧ Q (.bool b)
theorem pd_isi {T : String} (he : pH X e f) (hc : PE X c (tC (.ty T))) (hg : Gl X "isinstance") (hm : X.mg "isinstance" = none) (hs : starEach [e, c] X.env = (false, eval e X.env) :: starEach [c] X.env := by rfl) (hs2 : starEach [c] X.env = (false, eval c X.env) :: starEach [] X.env := by rfl)
    (hpl : (backTo pos (starEach [c] X.env)).any (·.1) = false := by rfl) : pD X (.Call (.Name "isinstance" p) [e, c] [] pos) (wIsi T f) := PE.imp (pe_callB call_isi hg hm (by decide +kernel) (pa_cons he (pa_cons hc pa_nil hs2) hs) (by decide) (by decide) hs hpl) fun σ H Q ⟨C, F, E, Qd, I, q, k⟩ =>
  ⟨C, F, E, _, I, q, fun v H1 F1 d w1 z1 r1 ⟨n, b, hb, q1⟩ => ⟨v, .ty T, _, _, b, rfl, .ty T, r1.ty z1 n, kit_ty hb, k _ H1 F1 _ w1 z1 (.bl b) q1⟩⟩
/-! max, min of two ints -/
def w2I (g : Int → Int → Int) (fa fb : FE) : FE := fun E Q => fa E fun x => fb E fun y => match x, y with
  | .int i, .int j => Q (.int (g i j))
  | _, _ => False
theorem pd_max2 (ha : pD X a fa) (hb : pD X b fb) (hc : X.calm = true) (hg : Gl X "max") (hm : X.mg "max" = none) (hs : starEach [a, b] X.env = (false, eval a X.env) :: starEach [b] X.env := by rfl) (hs2 : starEach [b] X.env = (false, eval b X.env) :: starEach [] X.env := by rfl)
    (hpl : (backTo pos (starEach [b] X.env)).any (·.1) = false := by rfl) : pD X (.Call (.Name "max" p) [a, b] [] pos) (w2I (fun i j => if j > i then j else i) fa fb) := PE.imp (pe_callB (call_max2 hc) hg hm (by decide +kernel) (pa_cons ha (pa_cons hb pa_nil hs2) hs) (by decide) (by decide) hs hpl) fun σ H Q ⟨C, F, E, Qd, I, q, k⟩ =>
  ⟨C, F, E, _, I, q, fun v H1 F1 d w1 z1 r1 q1 => ⟨C, F1, E, _, I.step w1 z1, q1, fun v2 H2 F2 d2 w2 z2 r2 q2 => by
    cases d with
    | int i => cases d2 with
      | int j =>
        cases r1; cases r2
        exact ⟨i, j, rfl, k _ H2 F2 _ (w1.trans w2) z2 (.int _) q2⟩
      | _ => exact q2.elim
    | _ => cases d2 <;> exact q2.elim⟩⟩
/-! stars in displays -/
def lStar (f : FE) (g : FL) : FL := fun E Q => f E fun d => match d with
  | .tuple xs => g E fun ds => Q (xs ++ ds)
  | .list xs => g E fun ds => Q (xs ++ ds)
  | _ => False
theorem pl_star {es : List Expr} (h : pH X e f) (r : pL X es fl) (hs : starEach (.Starred e p :: es) X.env = (true, eval e X.env) :: starEach es X.env := by rfl) : pL X (.Starred e p :: es) (lStar f fl) := PA.imp (StX.pa_star h r hs) fun σ H Q ⟨C, F, E, Qd, I, q, k⟩ =>
  ⟨C, F, E, _, I, q, fun v H1 F1 d w1 z1 r1 q1 => by
    cases d with
    | tuple xs =>
      obtain ⟨a, vs, rfl, h1, rv⟩ := r1.tup z1
      exact ⟨a, vs, rfl, .inl h1, C, F1, E, _, I.step w1 z1, q1, fun us H2 F2 ds w2 z2 r2 q2 => k _ H2 F2 _ (w1.trans w2) z2 ((rv.le w2.fro).app r2) q2⟩
    | list xs =>
      obtain ⟨a, vs, rfl, h1, rv⟩ := r1.list z1
      exact ⟨a, vs, rfl, .inr (SqL.of h1), C, F1, E, _, I.step w1 z1, q1, fun us H2 F2 ds w2 z2 r2 q2 => k _ H2 F2 _ (w1.trans w2) z2 ((rv.le w2.fro).app r2) q2⟩
    | _ => exact q1.elim⟩
/-! walked: reversed ranges, enumerate, zip, texts -/
def revD (lo hi : Int) : List PyData := (List.range (hi - lo).toNat).map fun i => .int (lo + ((hi - lo).toNat : Int) - 1 - (i : Nat))
theorem iter_rev {K : PySem.W.Frag} {hs : List Addr} (F : Hp) (lo hi : Int) : IterR K hs (Itc (lo + (((hi - lo).toNat : Nat) : Int) - 1) (-1) (hi - lo).toNat) F (revD lo hi) := fun H1 F1 s z => by
  have len : (revD lo hi).length = (hi - lo).toNat := by unfold revD; rw [List.length_map, List.length_range]
  refine ⟨fun i d hd => ?_, by rw [len]; exact Nat.le_refl _⟩
  have l : i < (hi - lo).toNat := by have := (List.getElem?_eq_some_iff.mp hd).1; rwa [len] at this
  unfold revD at hd
  rw [List.getElem?_map, List.getElem?_range l] at hd
  obtain rfl := Option.some.inj hd
  refine ⟨l, fun x H2 ⟨e1, e2⟩ => ?_⟩
  subst e1 e2
  refine ⟨F1, .refl _ _ _, z, ?_⟩
  have : lo + ((hi - lo).toNat : Int) - 1 + (i : Nat) * -1 = lo + ((hi - lo).toNat : Int) - 1 - (i : Nat) := by omega
  rw [this]
  exact .int _
/-- range(..) as an argument -/
def tRg (K : PySem.W.Frag) (f : Env' → (Int → Int → Prop) → Prop) : L2.St → Hp → (Int → Int → Hp → Prop) → Prop := fun σ H Q => ∃ C F E Qd, At K C σ H F E ∧ f E Qd ∧ ∀ i j H' F', Wd C.hs H F H' F' → Fz H' F' → Qd i j → Q i j H'
theorem PRg.imp {t t' : L2.St → Hp → (Int → Int → Hp → Prop) → Prop} (h : PRg X e t) (k : ∀ σ H Q, t' σ H Q → t σ H Q) : PRg X e t' := fun pins s σ H Q I w => h pins s σ H Q I (k σ H Q w)
def rg1 (f : FE) : Env' → (Int → Int → Prop) → Prop := fun E Q => f E fun d => match d with
  | .int n => Q 0 n
  | _ => False
def rg2 (f g : FE) : Env' → (Int → Int → Prop) → Prop := fun E Q => f E fun d => g E fun d2 => match d, d2 with
  | .int i, .int j => Q i j
  | _, _ => False
theorem prg1 (hg : Gl X "range") (hm : X.mg "range" = none) (ha : pD X a fa) (na : starEach [a] X.env = (false, eval a X.env) :: starEach [] X.env := by rfl) : PRg X (.Call (.Name "range" p) [a] [] pos) (tRg X.K (rg1 fa)) := PRg.imp (prg_1 hg hm ha na) fun σ H Q ⟨C, F, E, Qd, I, q, k⟩ => ⟨C, F, E, _, I, q, fun v H1 F1 d w1 z1 r1 q1 => by
  cases d with
  | int n => cases r1; exact ⟨n, rfl, k _ _ H1 F1 w1 z1 q1⟩
  | _ => exact q1.elim⟩
theorem prg2 (hg : Gl X "range") (hm : X.mg "range" = none) (ha : pD X a fa) (hb : pD X b fb) (na : starEach [a, b] X.env = (false, eval a X.env) :: starEach [b] X.env := by rfl) (nb : starEach [b] X.env = (false, eval b X.env) :: starEach [] X.env := by rfl) (hpl : (backTo pos (starEach [b] X.env)).any (·.1) = false := by rfl) : PRg X (.Call (.Name "range" p) [a, b] [] pos) (tRg X.K (rg2 fa fb)) :=
  PRg.imp (prg_2 hg hm ha hb na nb hpl) fun σ H Q ⟨C, F, E, Qd, I, q, k⟩ => ⟨C, F, E, _, I, q, fun v H1 F1 d w1 z1 r1 q1 => ⟨C, F1, E, _, I.step w1 z1, q1, fun v2 H2 F2 d2 w2 z2 r2 q2 => by
    cases d with
    | int i => cases d2 with
      | int j => cases r1; cases r2; exact ⟨i, j, rfl, rfl, k _ _ H2 F2 (w1.trans w2) z2 q2⟩
      | _ => exact q2.elim
    | _ => cases d2 <;> exact q2.elim⟩⟩
def iRev (g : Env' → (Int → Int → Prop) → Prop) : FL := fun E Q => g E fun i j => Sm i ∧ Sm j ∧ Q (revD i j)
theorem qi_rev {g : Env' → (Int → Int → Prop) → Prop} (hg : Gl X "reversed") (hm : X.mg "reversed" = none) (he : PRg X e (tRg X.K g)) (hs : starEach [e] X.env = (false, eval e X.env) :: starEach [] X.env := by rfl) : pI X tg (.Call (.Name "reversed" p) [e] [] pos) (iRev g) := PI.imp (pi_revR hg hm he hs) fun σ H R ⟨C, F, E, Qd, I, q, k⟩ =>
  ⟨C, F, E, _, I, q, fun i j H1 F1 w1 z1 ⟨s1, s2, q1⟩ => ⟨s1.1, s1.2, s2.1, s2.2, k _ H1 F1 _ w1 z1 (iter_rev F1 i j) q1⟩⟩
def enumD (ds : List PyData) : List PyData := (List.range ds.length).map fun i => .tuple [.int (i : Nat), (ds[i]?).getD .none]
theorem enumD_len (ds : List PyData) : (enumD ds).length = ds.length := by unfold enumD; rw [List.length_map, List.length_range]
theorem enumD_get {ds : List PyData} {i : Nat} {d : PyData} (h : (enumD ds)[i]? = some d) : ∃ x, ds[i]? = some x ∧ d = .tuple [.int (i : Nat), x] := by
  have l : i < ds.length := by have := (List.getElem?_eq_some_iff.mp h).1; rwa [enumD_len] at this
  unfold enumD at h
  rw [List.getElem?_map, List.getElem?_range l] at h
  refine ⟨ds[i], List.getElem?_eq_getElem l, ?_⟩
  have := Option.some.inj h
  rw [← this]
  show PyData.tuple [.int (i : Nat), (ds[i]?).getD .none] = _
  rw [List.getElem?_eq_getElem l]; rfl
theorem pair_new {K : PySem.W.Frag} {hs : List Addr} {H F : Hp} {T : Addr} {x y : V} {d e : PyData} (z : Fz H F) (n : H T = none) (rx : Dd K F x d) (ry : Dd K F y e) : ∃ F2, Wd hs H F (upd H T (.tup [x, y])) F2 ∧ Fz (upd H T (.tup [x, y])) F2 ∧ Dd K F2 (.ref T) (.tuple [d, e]) := by
  have s : Le F (upd F T (.tup [x, y])) := .of (same_new (z.fin T n) _)
  exact ⟨_, .newF z n _, z.newF n _, .tup upd_same (.cons (Dd.le s rx) (.cons (Dd.le s ry) .nil))⟩
theorem iter_enumT {K : PySem.W.Frag} {hs : List Addr} {a : Addr} {F : Hp} {xs : List V} {ds : List PyData} (h : SqT K F a xs) (r : DdAll K F xs ds) : IterR K hs (IteT K a) F (enumD ds) := fun H1 F1 s z => by
  have q : SqT K H1 a xs := z.sub.seqT (s.seqT h)
  refine ⟨fun i d hd => ?_, xs, q, by rw [enumD_len, r.len]⟩
  obtain ⟨x, hx, rfl⟩ := enumD_get hd
  obtain ⟨v, hv, rv⟩ := r.get hx
  refine ⟨⟨xs, v, q, hv⟩, fun y H2 ⟨T, w, e1, n, e2, k⟩ => ?_⟩
  subst e1 e2
  have := k xs q
  rw [hv] at this; cases this
  exact pair_new z n (.int _) (Dd.le s rv)
theorem iter_enumL {K : PySem.W.Frag} {hs : List Addr} {a : Addr} {F : Hp} {xs : List V} {ds : List PyData} (h : F a = some (.lst xs)) (r : DdAll K F xs ds) : IterR K hs (Ite K a) F (enumD ds) := fun H1 F1 s z => by
  have q : SqL K H1 a xs := SqL.of (z.sub.l _ _ (s.l _ _ h))
  refine ⟨fun i d hd => ?_, xs, q, by rw [enumD_len, r.len]; exact Nat.le_refl _⟩
  obtain ⟨x, hx, rfl⟩ := enumD_get hd
  obtain ⟨v, hv, rv⟩ := r.get hx
  refine ⟨⟨xs, v, q, hv⟩, fun y H2 ⟨T, w, e1, n, e2, k⟩ => ?_⟩
  subst e1 e2
  have := k xs q
  rw [hv] at this; cases this
  exact pair_new z n (.int _) (Dd.le s rv)
def iEn (f : FE) : FL := fun E Q => f E fun d => match d with
  | .list ds => Q (enumD ds)
  | .tuple ds => Q (enumD ds)
  | _ => False
/-- enumerate of a tuple or of a list -/
def iEnA (K : PySem.W.Frag) (ta : TA) : TI := fun σ H R => iEnumT K ta σ H R ∨ iEnum K ta σ H R
theorem PI.or {it : Expr} {t t' : TI} (h : PI X tg it t) (h' : PI X tg it t') : PI X tg it (fun σ H R => t σ H R ∨ t' σ H R) := ⟨fun pins s σ H R I w => w.elim (h.run pins s σ H R I) (h'.run pins s σ H R I)⟩
theorem qi_enumT {elts : List Expr} {kk : Nat} {tpos : Pos} (hg : Gl X "enumerate") (hm : X.mg "enumerate" = none) (ha : pD X e f) (hs : starEach [e] X.env = [(false, eval e X.env)] := by rfl) : pI X (.Tuple elts kk tpos) (.Call (.Name "enumerate" p) [e] [] pos) (fun E Q => f E fun d => match d with | .tuple ds => Q (enumD ds) | _ => False) :=
  PI.imp (pi_enumT hg hm (pa_cons ha pa_nil hs) hs) fun σ H R ⟨C, F, E, Qd, I, q, k⟩ => ⟨C, F, E, _, I, q, fun v H1 F1 d w1 z1 r1 q1 => by
    cases r1 with
    | tup h r => exact ⟨_, _, rfl, SqT.of (z1.sub.t _ _ h), k _ H1 F1 _ w1 z1 (iter_enumT (SqT.of h) r) q1⟩
    | _ => exact q1.elim⟩
theorem qi_enumL {elts : List Expr} {kk : Nat} {tpos : Pos} (hg : Gl X "enumerate") (hm : X.mg "enumerate" = none) (ha : pD X e f) (hs : starEach [e] X.env = [(false, eval e X.env)] := by rfl) : pI X (.Tuple elts kk tpos) (.Call (.Name "enumerate" p) [e] [] pos) (fun E Q => f E fun d => match d with | .list ds => Q (enumD ds) | _ => False) :=
  PI.imp (pi_enum hg hm (pa_cons ha pa_nil hs) hs) fun σ H R ⟨C, F, E, Qd, I, q, k⟩ => ⟨C, F, E, _, I, q, fun v H1 F1 d w1 z1 r1 q1 => by
    cases r1 with
    | lst h r => exact ⟨_, _, rfl, SqL.of (z1.sub.l _ _ h), k _ H1 F1 _ w1 z1 (iter_enumL h r) q1⟩
    | _ => exact q1.elim⟩
def zipD (xs ys : List PyData) : List PyData := List.zipWith (fun x y => .tuple [x, y]) xs ys
theorem zipD_len {xs ys : List PyData} (h : xs.length = ys.length) : (zipD xs ys).length = xs.length := by unfold zipD; rw [List.length_zipWith, h, Nat.min_self]
theorem zipD_get {xs ys : List PyData} {i : Nat} {d : PyData} (h : (zipD xs ys)[i]? = some d) : ∃ x y, xs[i]? = some x ∧ ys[i]? = some y ∧ d = .tuple [x, y] := by
  unfold zipD at h
  rw [List.getElem?_zipWith] at h
  cases ex : xs[i]? with
  | none => rw [ex] at h; cases h
  | some x =>
    cases ey : ys[i]? with
    | none => rw [ex, ey] at h; cases h
    | some y =>
      rw [ex, ey] at h
      exact ⟨x, y, rfl, rfl, (Option.some.inj h).symm⟩
theorem iter_zipT {K : PySem.W.Frag} {hs : List Addr} {a b : Addr} {F : Hp} {xs ys : List V} {ds es : List PyData} (hl : ds.length = es.length) (h : SqT K F a xs) (r : DdAll K F xs ds) (h2 : SqT K F b ys) (r2 : DdAll K F ys es) : IterR K hs (RZ.ItzT K a b) F (zipD ds es) := fun H1 F1 s z => by
  have q : SqT K H1 a xs := z.sub.seqT (s.seqT h)
  have q2 : SqT K H1 b ys := z.sub.seqT (s.seqT h2)
  refine ⟨fun i d hd => ?_, xs, ys, q, q2, .inl (by rw [zipD_len hl, r.len]; exact Nat.le_refl _)⟩
  obtain ⟨x, y, hx, hy, rfl⟩ := zipD_get hd
  obtain ⟨v, hv, rv⟩ := r.get hx
  obtain ⟨u, hu, ru⟩ := r2.get hy
  refine ⟨⟨xs, ys, v, u, q, q2, hv, hu⟩, fun y H2 ⟨T, w1, w2, e1, n, e2, k1, k2⟩ => ?_⟩
  subst e1 e2
  have j1 := k1 xs q
  have j2 := k2 ys q2
  rw [hv] at j1; rw [hu] at j2; cases j1; cases j2
  exact pair_new z n (Dd.le s rv) (Dd.le s ru)
theorem iter_zipL {K : PySem.W.Frag} {hs : List Addr} {a b : Addr} {F : Hp} {xs ys : List V} {ds es : List PyData} (hl : ds.length = es.length) (h : F a = some (.lst xs)) (r : DdAll K F xs ds) (h2 : F b = some (.lst ys)) (r2 : DdAll K F ys es) : IterR K hs (Itz K a b) F (zipD ds es) := fun H1 F1 s z => by
  have q : SqL K H1 a xs := SqL.of (z.sub.l _ _ (s.l _ _ h))
  have q2 : SqL K H1 b ys := SqL.of (z.sub.l _ _ (s.l _ _ h2))
  refine ⟨fun i d hd => ?_, xs, ys, q, q2, .inl (by rw [zipD_len hl, r.len]; exact Nat.le_refl _)⟩
  obtain ⟨x, y, hx, hy, rfl⟩ := zipD_get hd
  obtain ⟨v, hv, rv⟩ := r.get hx
  obtain ⟨u, hu, ru⟩ := r2.get hy
  refine ⟨⟨xs, ys, v, u, q, q2, hv, hu⟩, fun y H2 ⟨T, w1, w2, e1, n, e2, k1, k2⟩ => ?_⟩
  subst e1 e2
  have j1 := k1 xs q
  have j2 := k2 ys q2
  rw [hv] at j1; rw [hu] at j2; cases j1; cases j2
  exact pair_new z n (Dd.le s rv) (Dd.le s ru)
/-- zip of two tuples, of two lists, of one length -/
def iZp (f g : FE) : FL := fun E Q => f E fun d => g E fun e => match d, e with
  | .tuple xs, .tuple ys => xs.length = ys.length ∧ Q (zipD xs ys)
  | .list xs, .list ys => xs.length = ys.length ∧ Q (zipD xs ys)
  | _, _ => False
theorem qi_zip {elts : List Expr} {kk : Nat} {tpos : Pos} (hg : Gl X "zip") (hm : X.mg "zip" = none) (ha : pD X a fa) (hb : pD X b fb) (hs : starEach [a, b] X.env = (false, eval a X.env) :: starEach [b] X.env := by rfl) (hs2 : starEach [b] X.env = (false, eval b X.env) :: starEach [] X.env := by rfl)
    (hpl : (backTo pos (starEach [b] X.env)).any (·.1) = false := by rfl) : pI X (.Tuple elts kk tpos) (.Call (.Name "zip" p) [a, b] [] pos) (iZp fa fb) :=
  PI.imp (RZ.pi_zipA hg hm (pa_cons ha (pa_cons hb pa_nil hs2) hs) hs hpl) fun σ H R ⟨C, F, E, Qd, I, q, k⟩ => ⟨C, F, E, _, I, q, fun v H1 F1 d w1 z1 r1 q1 => ⟨C, F1, E, _, I.step w1 z1, q1, fun v2 H2 F2 d2 w2 z2 r2 q2 => by
    have r1 := Dd.le w2.fro r1
    cases d with
    | tuple xs => cases d2 with
      | tuple ys =>
        cases r1 with
        | tup h1 r1 => cases r2 with
          | tup h2 r2 => exact ⟨_, _, _, _, rfl, .inr ⟨SqT.of (z2.sub.t _ _ h1), SqT.of (z2.sub.t _ _ h2), k _ H2 F2 _ (w1.trans w2) z2 (iter_zipT q2.1 (SqT.of h1) r1 (SqT.of h2) r2) q2.2⟩⟩
      | _ => exact q2.elim
    | list xs => cases d2 with
      | list ys =>
        cases r1 with
        | lst h1 r1 => cases r2 with
          | lst h2 r2 => exact ⟨_, _, _, _, rfl, .inl ⟨SqL.of (z2.sub.l _ _ h1), SqL.of (z2.sub.l _ _ h2), k _ H2 F2 _ (w1.trans w2) z2 (iter_zipL q2.1 h1 r1 h2 r2) q2.2⟩⟩
      | _ => exact q2.elim
    | _ => cases d2 <;> exact q2.elim⟩⟩
/-- the signs of a text -/
def strD (z : Str) : List PyData := z.cps.toList.map fun c => .str ⟨#[c]⟩
theorem iter_str {K : PySem.W.Frag} {hs : List Addr} (F : Hp) (z : Str) : IterR K hs (Its z) F (strD z) := fun H1 F1 s z1 => by
  refine ⟨fun i d hd => ?_, by show z.cps.size ≤ (strD z).length; unfold strD; rw [List.length_map, Array.length_toList]; exact Nat.le_refl _⟩
  have l : i < z.cps.size := by
    have := (List.getElem?_eq_some_iff.mp hd).1
    unfold strD at this
    rwa [List.length_map, Array.length_toList] at this
  unfold strD at hd
  rw [List.getElem?_map, Array.getElem?_toList] at hd
  refine ⟨l, fun x H2 ⟨e1, c, hc, e2⟩ => ?_⟩
  subst e1 e2
  rw [hc] at hd
  obtain rfl := Option.some.inj hd
  exact ⟨F1, .refl _ _ _, z1, .str _⟩
def iStrD (f : FE) : FL := fun E Q => f E fun d => match d with
  | .str z => Q (strD z)
  | _ => False
theorem qi_str (h : pD X e f) : pI X tg e (iStrD f) := PI.imp (pi_str h) fun σ H R ⟨C, F, E, Qd, I, q, k⟩ => ⟨C, F, E, _, I, q, fun v H' F' d w z r q' => by
  cases d with
  | str y => cases r; exact ⟨y, rfl, k _ H' F' _ w z (iter_str F' y) q'⟩
  | _ => exact q'.elim⟩
/-! list(zip(a, b)), tuples and lists in any mix; list(zip(*rows)) -/
def seqO (d : PyData) : Option (List PyData) := match d with
  | .tuple xs => some xs
  | .list xs => some xs
  | _ => none
/-- of a step by which some things are new and all but one of them stand still -/
def many (H F H' : Hp) (L : Addr) : Hp := fun b => if b = L then none else if H b = none then H' b else F b
theorem many_wd {H F H' : Hp} {L : Addr} {hs : List Addr} (z : Fz H F) (s : Same H H') (n : H L = none) : Wd hs H F H' (many H F H' L) ∧ Fz H' (many H F H' L) ∧ many H F H' L L = none := by
  have old : ∀ b o, H b = some o → many H F H' L b = F b := fun b o e => by
    unfold many
    rw [if_neg (ne_of_none e n), if_neg (by rw [e]; exact fun z => by cases z)]
  have fro : Same F (many H F H' L) := fun b o e => by
    cases q : H b with
    | none => rw [z.fin b q] at e; cases e
    | some u => rw [old b u q]; exact e
  refine ⟨⟨fun a o h _ _ => s a o h, .of fro, fun a o h => s a _ h, fun a o h k t => ⟨by rw [old a o h]; exact k, fun o' h' => nt_same ((s a o h).symm.trans h') t⟩, fun a o h => ⟨o, s a o h⟩, fun p _ h => ?_⟩, ⟨⟨fun b xs e => ?_, fun b xs e => ?_, fun b u t e => ?_⟩, fun a e => ?_⟩, if_pos rfl⟩
  · obtain ⟨u, e⟩ := h.there
    exact h.le (.of fro) (by rw [old p u e]; exact h.1) fun o q => s p o q
  · unfold many at e
    split at e
    · cases e
    · split at e
      · exact e
      · exact s b _ (z.sub.l b xs e)
  · unfold many at e
    split at e
    · cases e
    · split at e
      · exact e
      · exact s b _ (z.sub.t b xs e)
  · unfold Rd many at e
    split at e
    · rcases e with e | ⟨_, e⟩ <;> cases e
    · split at e
      · exact e
      · rcases z.sub.r b u t e with e | ⟨o, e⟩
        · exact .inl (s b _ e)
        · exact .inr ⟨o, s b _ e⟩
  · unfold many
    split
    · rfl
    · split
      · exact e
      · rename_i h
        cases q : H a with
        | none => exact absurd q h
        | some o => rw [s a o q] at e; cases e
def tZ2 (K : PySem.W.Frag) (ta : TA) : TE := fun σ H Q => ta σ H fun vs H1 => ∃ a b xs ys m, vs = [.ref a, .ref b] ∧ (SqT K H1 a xs ∨ SqL K H1 a xs) ∧ (SqT K H1 b ys ∨ SqL K H1 b ys) ∧ xs.length = m ∧ ys.length = m ∧ 0 < m ∧ m ≤ 1000 ∧
  ∀ (L : Addr) (Ts : List Addr) (H2 : Hp), Same H1 H2 → H1 L = none → H2 L = some (.lst (Ts.map V.ref)) → Ts.length = m → (∀ (j : Nat) (t : Addr), Ts[j]? = some t → H1 t = none ∧ t ≠ L ∧ ∃ x y, xs[j]? = some x ∧ ys[j]? = some y ∧ H2 t = some (.tup [x, y])) → Q (.ref L) H2
theorem vals_of_refs : ∀ l : List Addr, Vals (l.map V.ref) (l.map Value.ref)
  | [] => .nil
  | _ :: l => .cons rfl (vals_of_refs l)
theorem ksq_of {pins : List (Addr × Obj)} {σ : L2.St} {H : Hp} {s : Shared} (I : Inv X pins σ H s) {a : Addr} {xs : List V} (h : SqT X.K H a xs ∨ SqL X.K H a xs) : ∃ (k : Bool) (its : List Value), Dz.KSq k s.heap a its.toArray ∧ Vals xs its := by
  rcases h with h | h
  · obtain ⟨its, r, p, _⟩ := I.tuple h
    exact ⟨true, its, p, r⟩
  · obtain ⟨its, r, p, _⟩ := I.list h
    exact ⟨false, its, p.isList, r⟩
open Classical in
theorem pe_zip2 {ta : TA} (hc : X.calm = true) (hg : Gl X "list") (hm : X.mg "list" = none) (hg2 : Gl X "zip") (hm2 : X.mg "zip" = none) (ha : PA X [a, b] ta)
    (na : starEach [.Call (.Name "zip" p2) [a, b] [] pos2] X.env = (false, eval (.Call (.Name "zip" p2) [a, b] [] pos2) X.env) :: starEach [] X.env := by rfl)
    (hs : starEach [a, b] X.env = (false, eval a X.env) :: starEach [b] X.env := by rfl) (hpl : (backTo pos2 (starEach [b] X.env)).any (·.1) = false := by rfl) :
    PE X (.Call (.Name "list" p) [.Call (.Name "zip" p2) [a, b] [] pos2] [] pos) (tZ2 X.K ta) := by
  refine ⟨fun pins s σ H Q I h => ?_⟩
  refine Call_ (ld_blt I hg hm boot_list (PyProof.Rows.callWith_type1 (args_cons ?_ na) na))
  refine Call_ (ld_blt I hg2 hm2 PyProof.Rows.boot_zip (PyProof.Rows.callWith_type1 (thn (ha.run pos2 pins s σ H _ I h) fun us s1 ⟨vs, H1, I1, rv, q⟩ => ?_) hs hpl))
  obtain ⟨a, b, xs, ys, m, rfl, h1, h2, l1, l2, hm0, hm1, q⟩ := q
  obtain ⟨ua, ub, rfl, ra, rb⟩ := vals2 rv
  cases ra; cases rb
  obtain ⟨k1, its1, p1, r1⟩ := ksq_of I1 h1
  obtain ⟨k2, its2, p2', r2⟩ := ksq_of I1 h2
  refine wpAny_mono (Dz.call_listZip (n := 2) (m := m) (ts := [a, b]) (kd := fun k => if k = 0 then k1 else k2) (items := fun k => if k = 0 then its1.toArray else its2.toArray) (Q := fun r s3 => EP X pins σ Q r s3) (I1.ok.hd hc) rfl (by decide) (by decide) hm0 hm1 ?_ ?_ ?_) ?_ fun _ _ z => z
  · intro k t e
    match k, e with
    | 0, e => cases e; exact p1
    | 1, e => cases e; exact p2'
  · intro k hk
    match k, hk with
    | 0, _ => show its1.toArray.size = m; rw [List.size_toArray, ← r1.length, l1]
    | 1, _ => show its2.toArray.size = m; rw [List.size_toArray, ← r2.length, l2]
  · intro h' acc c L hL kp gL sz made inj
    have addr : ∃ Ts : List Addr, acc.toList = Ts.map Value.ref := by
      refine ⟨(List.range m).map fun j => if hj : j < m then (made j hj).choose else 0, ?_⟩
      refine List.ext_getElem (by simp [sz]) fun j h1 h2 => ?_
      have hj : j < m := by simpa [sz] using h1
      have z := (made j hj).choose_spec.1
      rw [List.getElem_map, List.getElem_map, List.getElem_range, dif_pos hj]
      have z2 : acc[j]? = some (acc.toList[j]) := by rw [Array.getElem_toList]; exact Array.getElem?_eq_getElem (by rw [sz]; exact hj)
      exact Option.some.inj (z2.symm.trans z)
    obtain ⟨Ts, eT⟩ := addr
    have tl : Ts.length = m := by
      have := congrArg List.length eT
      simpa [sz] using this.symm
    have tget : ∀ (j : Nat) (t : Addr), Ts[j]? = some t → acc[j]? = some (Value.ref t) := by
      intro j t e
      rw [← Array.getElem?_toList, eT, List.getElem?_map, e]
      rfl
    have tmade : ∀ (j : Nat) (t : Addr), Ts[j]? = some t → L < t ∧ ∃ (u1 u2 : Value), its1[j]? = some u1 ∧ its2[j]? = some u2 ∧ h'.get? t = some (Dz.tupObj [u1, u2]) := by
      intro j t e
      have hj : j < m := by rw [← tl]; exact (List.getElem?_eq_some_iff.mp e).1
      obtain ⟨T, e1, e2, e3⟩ := made j hj
      rw [tget j t e] at e1
      cases e1
      have j1 : j < its1.length := by rw [← r1.length, l1]; exact hj
      have j2 : j < its2.length := by rw [← r2.length, l2]; exact hj
      refine ⟨e2, its1[j], its2[j], List.getElem?_eq_getElem j1, List.getElem?_eq_getElem j2, ?_⟩
      rw [e3]
      have : Dz.col (fun k => if k = 0 then its1.toArray else its2.toArray) 2 j = [its1[j], its2[j]] := by
        show [((its1.toArray)[j]?).getD .none, ((its2.toArray)[j]?).getD .none] = _
        rw [List.getElem?_toArray, List.getElem?_toArray, List.getElem?_eq_getElem j1, List.getElem?_eq_getElem j2]
        rfl
      rw [this]
    have tinj : ∀ (i j : Nat) (t : Addr), Ts[i]? = some t → Ts[j]? = some t → i = j := fun i j t a b => inj i j t (tget i t a) (tget j t b)
    have xat : ∀ j : Nat, j < m → ∃ x y, xs[j]? = some x ∧ ys[j]? = some y := fun j hj => ⟨xs[j]'(by omega), ys[j]'(by omega), List.getElem?_eq_getElem _, List.getElem?_eq_getElem _⟩
    let H2 : Hp := fun b => if b = L then some (.lst (Ts.map V.ref)) else if e : ∃ j : Nat, Ts[j]? = some b then some (.tup [(xs[e.choose]?).getD .non, (ys[e.choose]?).getD .non]) else H1 b
    have h2L : H2 L = some (.lst (Ts.map V.ref)) := if_pos rfl
    have h2T : ∀ (j : Nat) (t : Addr), Ts[j]? = some t → H2 t = some (.tup [(xs[j]?).getD .non, (ys[j]?).getD .non]) := by
      intro j t e
      have ne : t ≠ L := fun z => by have := (tmade j t e).1; rw [z] at this; exact Nat.lt_irrefl _ this
      have ex2 : ∃ j : Nat, Ts[j]? = some t := ⟨j, e⟩
      show (if t = L then _ else if e : ∃ j : Nat, Ts[j]? = some t then some (HO.tup [(xs[e.choose]?).getD .non, (ys[e.choose]?).getD .non]) else H1 t) = _
      rw [if_neg ne, dif_pos ex2, tinj _ _ _ ex2.choose_spec e]
    have frT : ∀ (j : Nat) (t : Addr), Ts[j]? = some t → H1 t = none := fun j t e => I1.hok.fresh (Nat.le_trans hL (Nat.le_of_lt (tmade j t e).1))
    have frL : H1 L = none := I1.hok.fresh hL
    have same : Same H1 H2 := by
      intro b u e
      have n1 : b ≠ L := fun z => by rw [z, frL] at e; cases e
      have n2 : ¬ ∃ j : Nat, Ts[j]? = some b := fun ⟨j, z⟩ => by rw [frT j b z] at e; cases e
      show (if b = L then _ else if e : ∃ j : Nat, Ts[j]? = some b then some (HO.tup [(xs[e.choose]?).getD .non, (ys[e.choose]?).getD .non]) else H1 b) = _
      rw [if_neg n1, dif_neg n2]
      exact e
    refine ⟨.ref L, H2, inv_many (t' := s1.toks) I1 kp same fun b u n e => ?_, rfl, q L Ts H2 same frL h2L tl fun j t e => ⟨frT j t e, fun z => by have := (tmade j t e).1; rw [z] at this; exact Nat.lt_irrefl _ this, ?_⟩⟩
    · by_cases n1 : b = L
      · subst n1
        rw [h2L] at e
        cases e
        refine ⟨⟨?_, acc.toList, c, ?_, by rw [Array.toArray_toList]; exact gL⟩, hL⟩
        · rw [List.length_map, tl]; exact Nat.le_of_lt (small1000 hm1)
        · rw [eT]
          exact vals_of_refs Ts
      · by_cases n2 : ∃ j : Nat, Ts[j]? = some b
        · obtain ⟨j, z⟩ := n2
          rw [h2T j b z] at e
          cases e
          obtain ⟨m1, u1, u2, q1, q2, m2⟩ := tmade j b z
          have hj : j < m := by rw [← tl]; exact (List.getElem?_eq_some_iff.mp z).1
          obtain ⟨x, y, ex, ey⟩ := xat j hj
          obtain ⟨w1, e1, rw1⟩ := r1.get ex
          obtain ⟨w2, e2, rw2⟩ := r2.get ey
          rw [q1] at e1; rw [q2] at e2
          cases e1; cases e2
          rw [ex, ey]
          exact ⟨⟨by show 2 ≤ sizeLine; decide, [u1, u2], .cons rw1 (.cons rw2 .nil), ⟨_, m2, rfl, _, rfl⟩⟩, Nat.le_trans hL (Nat.le_of_lt m1)⟩
        · exfalso
          have : H2 b = H1 b := by
            show (if b = L then _ else if e : ∃ j : Nat, Ts[j]? = some b then some (HO.tup [(xs[e.choose]?).getD .non, (ys[e.choose]?).getD .non]) else H1 b) = _
            rw [if_neg n1, dif_neg n2]
          rw [this, n] at e
          cases e
    · have hj : j < m := by rw [← tl]; exact (List.getElem?_eq_some_iff.mp e).1
      obtain ⟨x, y, ex, ey⟩ := xat j hj
      refine ⟨x, y, ex, ey, ?_⟩
      rw [h2T j t e, ex, ey]; rfl
  · intro v s3 h3
    exact args_nil h3
theorem seqO_of {K : PySem.W.Frag} {hs : List Addr} {H F : Hp} {v : V} {d : PyData} {ds : List PyData} (h : OwR K hs H F v d) (z : Fz H F) (e : seqO d = some ds) : ∃ a xs, v = .ref a ∧ (SqT K H a xs ∨ SqL K H a xs) ∧ DdAll K F xs ds := by
  cases d with
  | tuple es =>
    cases e
    obtain ⟨a, xs, e, h1, r⟩ := h.tup z
    exact ⟨a, xs, e, .inl h1, r⟩
  | list es =>
    cases e
    obtain ⟨a, xs, e, h1, r⟩ := h.list z
    exact ⟨a, xs, e, .inr (SqL.of h1), r⟩
  | _ => cases e
def wZip2 (fa fb : FE) : FL := fun E Q => fa E fun d => fb E fun e => ∃ xs ys, seqO d = some xs ∧ seqO e = some ys ∧ xs.length = ys.length ∧ 0 < xs.length ∧ xs.length ≤ 1000 ∧ Q (zipD xs ys)
theorem pf_zip2 (hc : X.calm = true) (hg : Gl X "list") (hm : X.mg "list" = none) (hg2 : Gl X "zip") (hm2 : X.mg "zip" = none) (ha : pH X a fa) (hb : pH X b fb)
    (na : starEach [.Call (.Name "zip" p2) [a, b] [] pos2] X.env = (false, eval (.Call (.Name "zip" p2) [a, b] [] pos2) X.env) :: starEach [] X.env := by rfl)
    (hs : starEach [a, b] X.env = (false, eval a X.env) :: starEach [b] X.env := by rfl) (hs2 : starEach [b] X.env = (false, eval b X.env) :: starEach [] X.env := by rfl) (hpl : (backTo pos2 (starEach [b] X.env)).any (·.1) = false := by rfl) :
    pF X (.Call (.Name "list" p) [.Call (.Name "zip" p2) [a, b] [] pos2] [] pos) (wZip2 fa fb) := PE.imp (pe_zip2 hc hg hm hg2 hm2 (pa_cons ha (pa_cons hb pa_nil hs2) hs) na hs hpl) fun σ H Q ⟨C, F, E, Qd, I, q, k⟩ =>
  ⟨C, F, E, _, I, q, fun v H1 F1 d w1 z1 r1 q1 => ⟨C, F1, E, _, I.step w1 z1, q1, fun v2 H2 F2 d2 w2 z2 r2 ⟨ds, es, e1, e2, hl, h0, hm, q2⟩ => by
    obtain ⟨a, xs, rfl, h1, ra⟩ := seqO_of (r1.step w2) z2 e1
    obtain ⟨b, ys, rfl, h2, rb⟩ := seqO_of r2 z2 e2
    refine ⟨a, b, xs, ys, xs.length, rfl, h1, h2, rfl, by rw [rb.len, ra.len, hl], by rw [ra.len]; exact h0, by rw [ra.len]; exact hm, fun L Ts H3 s hL eL tl hT => ?_⟩
    obtain ⟨w3, z3, n3⟩ := many_wd (hs := C.hs) z2 s hL
    refine k L _ H3 _ _ ((w1.trans w2).back hL) ((w1.trans w2).trans w3) z3 n3 eL ?_ q2
    have gen : ∀ (j : Nat) (d : PyData), (zipD ds es)[j]? = some d → ∃ t, Ts[j]? = some t ∧ Dd X.K (many H2 F2 H3 L) (.ref t) d := fun j d hd => by
      obtain ⟨x, y, hx, hy, rfl⟩ := zipD_get hd
      have hj : j < Ts.length := by rw [tl, ra.len]; exact (List.getElem?_eq_some_iff.mp hx).1
      obtain ⟨n, nL, v1, v2, g1, g2, g3⟩ := hT j Ts[j] (List.getElem?_eq_getElem hj)
      obtain ⟨v1', f1, rv1⟩ := ra.get hx
      obtain ⟨v2', f2, rv2⟩ := rb.get hy
      rw [g1] at f1; rw [g2] at f2; cases f1; cases f2
      refine ⟨_, List.getElem?_eq_getElem hj, .tup ?_ (.cons (Dd.le w3.fro rv1) (.cons (Dd.le w3.fro rv2) .nil))⟩
      unfold many
      rw [if_neg nL, if_pos n]
      exact g3
    have all : ∀ (ts : List Addr) (ds : List PyData), ts.length = ds.length → (∀ (j : Nat) (d : PyData), ds[j]? = some d → ∃ t, ts[j]? = some t ∧ Dd X.K (many H2 F2 H3 L) (.ref t) d) → DdAll X.K (many H2 F2 H3 L) (ts.map V.ref) ds := by
      intro ts
      induction ts with
      | nil => intro ds hl _; cases ds with
        | nil => exact .nil
        | cons _ _ => cases hl
      | cons t ts ih => intro ds hl h; cases ds with
        | nil => cases hl
        | cons d ds =>
          obtain ⟨t', e, r⟩ := h 0 d rfl
          cases e
          exact .cons r (ih ds (by simpa using hl) fun j d' hd => h (j + 1) d' (by simpa using hd))
    exact all Ts _ (by rw [tl, zipD_len hl, ra.len]) gen⟩⟩
/-- list(zip(*rows)) of tuples of one length -/
def colsD (rows : List (List PyData)) (m : Nat) : List PyData := (List.range m).map fun j => .tuple (rows.map fun r => (r[j]?).getD .none)
def wZipS (f : FE) : FL := fun E Q => f E fun d => ∃ (rows : List (List PyData)) (m : Nat), seqO d = some (rows.map PyData.tuple) ∧ 0 < rows.length ∧ rows.length ≤ 8 ∧ 0 < m ∧ m ≤ 1000 ∧ (∀ r ∈ rows, r.length = m) ∧ Q (colsD rows m)
theorem tup_all {K : PySem.W.Frag} {F : Hp} : ∀ {vs : List V} {rows : List (List PyData)}, DdAll K F vs (rows.map PyData.tuple) → ∃ (ps : List Addr) (rs : List (List V)), vs = ps.map V.ref ∧ ps.length = rows.length ∧ rs.length = rows.length ∧ ∀ (k : Nat) r, rows[k]? = some r → ∃ p q, ps[k]? = some p ∧ rs[k]? = some q ∧ SqT K F p q ∧ DdAll K F q r
  | [], [], .nil => ⟨[], [], rfl, rfl, rfl, fun k r h => by simp at h⟩
  | _ :: _, _ :: _, .cons (.tup (a := a) (xs := xs) h r) t => by
    obtain ⟨ps, rs, rfl, l1, l2, g⟩ := tup_all t
    refine ⟨a :: ps, xs :: rs, rfl, by simp [l1], by simp [l2], fun k r' e => ?_⟩
    cases k with
    | zero => cases e; exact ⟨_, _, rfl, rfl, SqT.of h, r⟩
    | succ k => exact g k r' (by simpa using e)
theorem pf_zipS {sp_ : Pos} (hc : X.calm = true) (hg : Gl X "list") (hm : X.mg "list" = none) (hg2 : Gl X "zip") (hm2 : X.mg "zip" = none) (he : pH X e f)
    (na : starEach [.Call (.Name "zip" p2) [.Starred e sp_] [] pos2] X.env = (false, eval (.Call (.Name "zip" p2) [.Starred e sp_] [] pos2) X.env) :: starEach [] X.env := by rfl)
    (hst : starEach [.Starred e sp_] X.env = [(true, eval e X.env)] := by rfl) : pF X (.Call (.Name "list" p) [.Call (.Name "zip" p2) [.Starred e sp_] [] pos2] [] pos) (wZipS f) := PE.imp (pe_listZip hc hg hm hg2 hm2 he na hst) fun σ H Q ⟨C, F, E, Qd, I, q, k⟩ =>
  ⟨C, F, E, _, I, q, fun v H1 F1 d w1 z1 r1 ⟨rows, m, e1, h0, h8, hm0, hm1, hrow, q1⟩ => by
    obtain ⟨a, xs, rfl, h1, ra⟩ := seqO_of r1 z1 e1
    obtain ⟨ps, rs, rfl, l1, l2, g⟩ := tup_all ra
    refine ⟨a, ps, rs, m, rfl, h1, by rw [l1, l2], by omega, by omega, hm0, hm1, fun j p r e2 e3 => ?_, fun L Ts H3 s hL eL tl hT => ?_⟩
    · have hj : j < rows.length := by rw [← l1]; exact (List.getElem?_eq_some_iff.mp e2).1
      obtain ⟨p', q', f1, f2, f3, f4⟩ := g j _ (List.getElem?_eq_getElem hj)
      rw [e2] at f1; rw [e3] at f2; cases f1; cases f2
      exact ⟨z1.sub.seqT f3, by rw [f4.len]; exact hrow _ (List.getElem_mem hj)⟩
    obtain ⟨w3, z3, n3⟩ := many_wd (hs := C.hs) z1 s hL
    refine k L _ H3 _ _ (w1.back hL) (w1.trans w3) z3 n3 eL ?_ q1
    have col : ∀ (j : Nat), j < m → DdAll X.K (many H1 F1 H3 L) (colV rs j) (rows.map fun r => (r[j]?).getD .none) := by
      intro j hj
      have gen : ∀ (rs : List (List V)) (rows : List (List PyData)), rs.length = rows.length → (∀ (k : Nat) r, rows[k]? = some r → ∃ q, rs[k]? = some q ∧ DdAll X.K F1 q r ∧ r.length = m) → DdAll X.K (many H1 F1 H3 L) (colV rs j) (rows.map fun r => (r[j]?).getD .none) := by
        intro rs
        induction rs with
        | nil => intro rows hl _; cases rows with
          | nil => exact .nil
          | cons _ _ => cases hl
        | cons q rs ih => intro rows hl h; cases rows with
          | nil => cases hl
          | cons r rows =>
            obtain ⟨q', e, dr, lr⟩ := h 0 r rfl
            cases e
            refine .cons ?_ (ih rows (by simpa using hl) fun k r' e => h (k + 1) r' (by simpa using e))
            have hr : j < r.length := by omega
            obtain ⟨v, hv, rv⟩ := dr.get (List.getElem?_eq_getElem hr)
            show Dd X.K _ ((q[j]?).getD .non) ((r[j]?).getD .none)
            rw [hv, List.getElem?_eq_getElem hr]
            exact Dd.le w3.fro rv
      exact gen rs rows l2 fun k r e => by
        obtain ⟨p', q', f1, f2, f3, f4⟩ := g k r e
        exact ⟨q', f2, f4, hrow r (List.mem_of_getElem? e)⟩
    have gen : ∀ (j : Nat) (d : PyData), (colsD rows m)[j]? = some d → ∃ t, Ts[j]? = some t ∧ Dd X.K (many H1 F1 H3 L) (.ref t) d := fun j d hd => by
      have hj : j < m := by
        have := (List.getElem?_eq_some_iff.mp hd).1
        unfold colsD at this
        rwa [List.length_map, List.length_range] at this
      unfold colsD at hd
      rw [List.getElem?_map, List.getElem?_range hj] at hd
      obtain rfl := Option.some.inj hd
      have hj2 : j < Ts.length := by omega
      obtain ⟨n, nL, g3⟩ := hT j Ts[j] (List.getElem?_eq_getElem hj2)
      refine ⟨_, List.getElem?_eq_getElem hj2, .tup ?_ (col j hj)⟩
      unfold many
      rw [if_neg nL, if_pos n]
      exact g3
    have all : ∀ (ts : List Addr) (ds : List PyData), ts.length = ds.length → (∀ (j : Nat) (d : PyData), ds[j]? = some d → ∃ t, ts[j]? = some t ∧ Dd X.K (many H1 F1 H3 L) (.ref t) d) → DdAll X.K (many H1 F1 H3 L) (ts.map V.ref) ds := by
      intro ts
      induction ts with
      | nil => intro ds hl _; cases ds with
        | nil => exact .nil
        | cons _ _ => cases hl
      | cons t ts ih => intro ds hl h; cases ds with
        | nil => cases hl
        | cons d ds =>
          obtain ⟨t', e, r⟩ := h 0 d rfl
          cases e
          exact .cons r (ih ds (by simpa using hl) fun j d' hd => h (j + 1) d' (by simpa using hd))
    exact all Ts _ (by rw [tl]; unfold colsD; rw [List.length_map, List.length_range]) gen⟩
end
end Dl

/-! the pen and the law's start -/
namespace Dl
open PySem PySem.Spec PyProof.Rows L2 Vx
/-- a new pen, its cells with it -/
def sp_law_penD (K : PySem.W.Frag) : Sp := fun vs H Q _ => ∃ (a : Addr) (ns : List Int), vs = [.ref a] ∧ SqL K H a (ns.map V.int) ∧ ∀ (H' : Hp) (p c : Addr) (ms : List Int), Same H H' → H p = none → H c = none → c ≠ p → H' p = some (.lst [.ref c, .int 0, .int 0]) → H' c = some (.lst (ms.map V.int)) → Q (.ref p) H'
/-- draws: some int below the bound -/
def S_draw : DSp := fun ss Q => ∃ b : Int, ss = [.pen, .d (.int b)] ∧ 0 < b ∧ b.natAbs < 2 ^ 300 ∧ ∀ r : Int, 0 ≤ r → r < b → Q (.d (.int r))
theorem PenF.pen {K : PySem.W.Frag} {F H : Hp} {p : Addr} (h : PenF F H p) (z : Fz H F) : Pen K H p := by
  obtain ⟨n, c, ns, i, m, h1, h2⟩ := h
  exact ⟨c, ns, i, m, h1, SqL.of (z.sub.l _ _ h2), fun e => by subst e; rw [n] at h2; cases h2⟩
theorem wd_of_dr {F H H' : Hp} {p : Addr} (d : Dr p H H') (z : Fz H F) (h : PenF F H p) : Wd [p] H F H' F ∧ Fz H' F := by
  obtain ⟨n, c, ns, i, m, h1, h2⟩ := h
  have nep : ∀ b o, F b = some o → b ≠ p := fun b o e z => by subst z; rw [n] at e; cases e
  have trk : ∀ a o, H a = some o → ∃ o', H' a = some o' := fun a o e => by
    by_cases q : a = p
    · subst q
      obtain ⟨j, k, e'⟩ := d.2 c i m h1
      exact ⟨_, e'⟩
    · exact ⟨o, d.1 a o q e⟩
  have nt : ∀ a o, H a = some o → NT o → ∀ o', H' a = some o' → NT o' := fun a o e t o' e' => by
    by_cases q : a = p
    · subst q
      obtain ⟨j, k, e2⟩ := d.2 c i m h1
      rw [e2] at e'; cases e'
      intro _ z; cases z
    · exact nt_same ((d.1 a o q e).symm.trans e') t
  refine ⟨⟨fun a o e _ q => d.1 a o (fun z => q (by simp [z])) e, .refl _, fun a xs e => d.1 a _ (fun z => by subst z; rw [h1] at e; cases e) e, fun a o e n t => ⟨n, nt a o e t⟩, trk, fun q hq h => ?_⟩, ⟨⟨fun b xs e => d.1 b _ (nep b _ e) (z.sub.l b xs e), fun b xs e => d.1 b _ (nep b _ e) (z.sub.t b xs e), fun b u t e => ?_⟩, fun a e => ?_⟩⟩
  · obtain rfl : q = p := by simpa using hq
    obtain ⟨j, k, e'⟩ := d.2 c i m h1
    exact ⟨n, c, ns, j, k, e', h2⟩
  · have nb : b ≠ p := by
      rcases e with e | ⟨_, e⟩
      · exact nep b _ e
      · exact nep b _ e
    rcases z.sub.r b u t e with q | ⟨o, q⟩
    · exact .inl (d.1 b _ nb q)
    · exact .inr ⟨o, d.1 b _ nb q⟩
  · cases q : H a with
    | none => exact z.fin a q
    | some o =>
      obtain ⟨o', e'⟩ := trk a o q
      rw [e] at e'; cases e'
section
variable {P : Program} {w : World} {K : PySem.W.Frag} {mg : Str → Option Value} {base : Heap} {k : Nat} {f : Addr} {fd : FuncData}
/-- a def kept under a weaker promise -/
theorem FnG.imp {CX : CXT} {ps : List Str} {sp sp' : Sp} (G : FnG P w K mg base CX k f fd ps sp) (h : ∀ vs H Q E, sp' vs H Q E → sp vs H Q E) : FnG P w K mg base CX k f fd ps sp' := ⟨fun vs H Q E q => G.ln vs H Q E (h vs H Q E q), fun A o s H az us vs Q E hr e0 bd r hsp => G.go A o s H az us vs Q E hr e0 bd r (h vs H Q E hsp)⟩
/-- in the place of the pens: the only pen -/
theorem Wd.one {hs : List Addr} {H F H' F' : Hp} {p : Addr} (w : Wd [p] H F H' F') (m : p ∈ hs) : Wd hs H F H' F' where
  keep := fun a o h n k => w.keep a o h n fun z => k (by rw [show a = p by simpa using z]; exact m)
  fro := w.fro
  kt := w.kt
  out2 := w.out2
  trk := w.trk
  pen := fun q hq h => by
    by_cases e : q = p
    · subst e; exact w.pen q (by simp) h
    · obtain ⟨_, _, _, _, _, hu, _⟩ := id h
      exact h.le w.fro (w.out q _ hu h.1) fun o ho => w.keep q o ho h.1 fun z => e (by simpa using z)
theorem draw_conv {x1 x2 : Str} (G : FnG P w K mg base CX0 k f fd [x1, x2] (fun vs H Q _ => ∃ (p : Addr) (b : Int), vs = [.ref p, .int b] ∧ Pen K H p ∧ 0 < b ∧ b.natAbs < 2 ^ 300 ∧ ∀ (H' : Hp) (r : Int), Dr p H H' → 0 ≤ r → r < b → Q (.int r) H')) : FnG P w K mg base CX0 k f fd [x1, x2] (spD K S_draw) := by
  refine FnG.imp G fun vs H Q E ⟨F, hs, ss, Qd, z, hk, r, ⟨b, e, hb, hb2, q⟩, k⟩ => ?_
  subst e
  cases r with
  | cons r1 r2 => cases r2 with
    | cons r2 r3 =>
      cases r3
      obtain ⟨p, rfl, m, hp⟩ := r1
      cases r2
      refine ⟨p, b, rfl, hp.pen z, hb, hb2, fun H' r d h0 h1 => ?_⟩
      obtain ⟨w', z'⟩ := wd_of_dr d z hp
      exact k (.int r) H' F (.d (.int r)) (w'.one m) z' (.int r) (q r h0 h1)
end
/-! the law: first the pen, then by data -/
section
variable {P : Program} {w : World} {K : PySem.W.Frag} {mg : Str → Option Value} {base : Heap}
def sp_law0 (K : PySem.W.Frag) : Sp := fun vs H Q _ => ∃ (a : Addr) (ns : List Int), vs = [.ref a] ∧ SqL K H a (ns.map V.int) ∧ ns.length ≤ 63 ∧ ∀ H', Q (.bl true) H'
theorem rest_at {σ : L2.St} {H : Hp} {p c : Addr} {ms : List Int} (h1 : H p = some (.lst [.ref c, .int 0, .int 0])) (h2 : H c = some (.lst (ms.map V.int))) (ne : c ≠ p) {i : Nat} (hi : σ[i]? = some (some (.ref p))) :
    At K ⟨H, fun b => if b = c then some (.lst (ms.map V.int)) else none, [p]⟩ σ H (fun b => if b = c then some (.lst (ms.map V.int)) else none) ((List.replicate σ.length none).set i (some .pen)) := by
  have fc : ∀ b o, (if b = c then some (HO.lst (ms.map V.int)) else none) = some o → b = c ∧ o = .lst (ms.map V.int) := fun b o e => by
    by_cases q : b = c
    · rw [if_pos q] at e; cases e; exact ⟨q, rfl⟩
    · rw [if_neg q] at e; cases e
  refine ⟨.refl _ _ _, ⟨⟨fun b xs e => ?_, fun b xs e => ?_, fun b u t e => ?_⟩, fun a e => ?_⟩, by rw [List.length_set, List.length_replicate], fun j sv e => ?_, fun j k ds es v _ e1 _ _ _ => ?_, fun j k ds es v _ e1 _ _ _ => ?_, fun q m => ?_⟩
  · obtain ⟨rfl, e2⟩ := fc b _ e; cases e2; exact h2
  · obtain ⟨rfl, e2⟩ := fc b _ e; cases e2
  · rcases e with e | ⟨o, e⟩
    · obtain ⟨rfl, rfl⟩ := fc b _ e; exact .inl h2
    · obtain ⟨_, e2⟩ := fc b _ e; cases e2
  · show (if a = c then _ else none) = none
    rw [if_neg]
    intro z; subst z; rw [h2] at e; cases e
  · rcases set_get e with ⟨rfl, e1, _⟩ | ⟨_, e1⟩
    · cases e1
      exact ⟨_, hi, p, rfl, by simp, by show (if p = c then _ else none) = none; rw [if_neg (Ne.symm ne)], c, ms, 0, 0, h1, by show (if c = c then _ else none) = _; rw [if_pos rfl]⟩
    · rw [List.getElem?_replicate] at e1
      split at e1 <;> cases e1
  · rcases set_get e1 with ⟨rfl, e1, _⟩ | ⟨_, e1⟩
    · cases e1
    · rw [List.getElem?_replicate] at e1
      split at e1 <;> cases e1
  · rcases set_get e1 with ⟨rfl, e1, _⟩ | ⟨_, e1⟩
    · cases e1
    · rw [List.getElem?_replicate] at e1
      split at e1 <;> cases e1
  · obtain rfl : q = p := by simpa using m
    exact ⟨_, h1⟩
/-- the law's def: pen = _law_pen(script), then what is told by data -/
theorem okLaw {qual : Str} {st : Stmt} {f : Addr} {fd : FuncData} {N : List Str} {k : Nat} {g : FS} {rest : List Stmt} {s0 : Stmt} (F : Fun K "law" qual st f fd) (Sc : FnScope N ["script"] (defScope st)) (hbody : defBody st = s0 :: rest) (hN : 2 ≤ N.length)
    (h0 : ∀ (cdv : Value) (A : Around) (o : List Env) (s : Shared) (H : Hp) (E : XK), Rm k (A.deeper (envOfC qual (defScope st) s.heap.objs.size f cdv)) →
      PS (cxOf CX0 P w K mg base N qual (defScope st) f cdv A o s H E).nox s0 (tAsg (tCall (sp_law_penD K) [] (fun _ _ _ => False) (tCons (tVar 0) tNil)) (gName 1)))
    (hb : ∀ (cdv : Value) (A : Around) (o : List Env) (s : Shared) (H : Hp) (E : XK), Rm k (A.deeper (envOfC qual (defScope st) s.heap.objs.size f cdv)) → pSs (cxOf CX0 P w K mg base N qual (defScope st) f cdv A o s H E).nox rest g)
    (hs : g { nx := fun _ => False, rt := fun r => r = .d (.bool true) } ((List.replicate N.length none).set 1 (some .pen))) : FnG P w K mg base CX0 (k + 1) f fd ["script"] (sp_law0 K) := by
  refine okG F Sc (fun vs H Q E h => ?_) (fun cdv A o s H vs Q E hr h => ?_)
  · obtain ⟨a, ns, rfl, _⟩ := h
    rfl
  obtain ⟨a, ns, rfl, hS, hlen, done⟩ := h
  refine ⟨_, hbody ▸ pss_cons (h0 cdv A o s H E hr) (hb cdv A o s H E hr), ?_⟩
  refine ⟨_, rfl, a, ns, rfl, hS, fun H' p c ms s1 np nc ne e1 e2 => ?_⟩
  have len : (((L2.start N [V.ref a]).set 1 (some (.ref p))) : L2.St).length = N.length := by
    rw [List.length_set]; unfold L2.start; rw [List.length_append, List.length_map, List.length_replicate]; simp; omega
  have I := rest_at (K := K) (σ := (L2.start N [V.ref a]).set 1 (some (.ref p))) e1 e2 ne (i := 1) (List.getElem?_set_self (by rw [List.length_set] at len; rw [len]; omega))
  rw [len] at I
  refine ⟨_, _, _, _, I, hs, ⟨fun _ _ _ _ _ _ q => q.elim, fun _ _ _ _ _ _ q => q.elim, fun _ _ _ _ _ _ q => q.elim, fun v H2 F2 r _ _ rr q => ?_, fun _ _ _ _ _ _ _ _ _ _ _ q => q.elim⟩⟩
  subst q
  cases rr
  exact done H2
end
end Dl

namespace Dl
open PySem PySem.Spec PyProof.Rows L2 Vx
section
variable {X : Cx} {st : Stmt} {rest : List Stmt} {g g' : FS} {a b c e : Expr} {f fa fb fc : FE} {fl : FL} {pos : Pos}
/-- a cut behind a statement -/
def sCut (g g' : FS) : FS := fun Q E => ∃ J : Env' → Prop, g { Q with nx := J } E ∧ ∀ E', J E' → g' Q E'
theorem qs_cut (h1 : pS X st g) (h2 : pSs X rest g') : pSs X (st :: rest) (sCut g g') := PSs.imp (pss_cons h1 h2) fun D σ H ⟨C, F, E, Q, I, ⟨J, q, k⟩, L⟩ =>
  ⟨C, F, E, { Q with nx := J }, I, q, fun σ' H' F' E' I' s q' => ⟨C, F', E', Q, I', k E' q', L.mono s⟩, L.bk, L.ct, L.rt, L.xx⟩
/-- data, or a list just made -/
def SvX (K : PySem.W.Frag) (hs : List Addr) (H H' F' : Hp) (v : V) : SV → Prop
  | .d d => Dd K F' v d
  | .own ds => ∃ a xs, v = .ref a ∧ H a = none ∧ F' a = none ∧ H' a = some (.lst xs) ∧ DdAll K F' xs ds
  | .pen => ∃ p, v = .ref p ∧ p ∈ hs ∧ PenF F' H' p
  | .scr _ => False
  | .bor _ => False
  | .dct _ => False
def tX (K : PySem.W.Frag) (f : FV) : TE := fun σ H Q => ∃ C F E Qd, At K C σ H F E ∧ f E Qd ∧ ∀ v H' F' s, Wd C.hs H F H' F' → Fz H' F' → SvX K C.hs H H' F' v s → Qd s → Q v H'
abbrev pX (X : Cx) (e : Expr) (f : FV) : Prop := PE X e (tX X.K f)
def xF (f : FL) : FV := fun E Q => f E fun ds => Q (.own ds)
theorem px_d (h : pD X e f) : pX X e (vD f) := PE.imp h fun σ H Q ⟨C, F, E, Qd, I, q, k⟩ => ⟨C, F, E, _, I, q, fun v H' F' d w z r q => k v H' F' (.d d) w z r q⟩
theorem px_f (h : pF X e fl) : pX X e (xF fl) := PE.imp h fun σ H Q ⟨C, F, E, Qd, I, q, k⟩ => ⟨C, F, E, _, I, q, fun a xs H' F' ds n w z nf hh hd q => k (.ref a) H' F' (.own ds) w z ⟨a, xs, rfl, n, nf, hh, hd⟩ q⟩
/-- a, b = e1, e2 -/
def sPar (i j : Nat) (f g : FV) : FS := fun Q E => f E fun s => g E fun t => Q.nx ((E.set i (some s)).set j (some t))
theorem At.new1 {K : PySem.W.Frag} {C : Ctx} {σ : L2.St} {H F : Hp} {E : Env'} (I : At K C σ H F E) {a : Addr} (n : H a = none) : a ∉ C.hs := fun m => by
  obtain ⟨o, e⟩ := I.hk a m
  obtain ⟨o', e'⟩ := I.w.trk a o e
  rw [n] at e'; cases e'
theorem q_par {i j : Nat} {x y : Str} {f g : FV} {px py pt : Pos} {kt k2 pt2} (hc : X.calm = true) (hN : X.N.Nodup) (hi : X.N[i]? = some x) (hj : X.N[j]? = some y) (hij : i ≠ j)
    (hx : X.env.scope.names.lookup x = some .local) (hy : X.env.scope.names.lookup y = some .local) (ha : pX X a f) (hb : pX X b g)
    (hw : swappedStores [.Tuple [.Name x px, .Name y py] kt pt] (.Tuple [a, b] k2 pt2) X.env = pure (some [x, y]))
    (hs : swapsWithSole [.Tuple [.Name x px, .Name y py] kt pt] (.Tuple [a, b] k2 pt2) pos.line X.env = pure false := by rfl)
    (h1 : starEach [a, b] X.env = (false, eval a X.env) :: starEach [b] X.env := by rfl) (h2 : starEach [b] X.env = (false, eval b X.env) :: starEach [] X.env := by rfl) :
    pS X (.Assign [.Tuple [.Name x px, .Name y py] kt pt] (.Tuple [a, b] k2 pt2) pos) (sPar i j f g) := PS.imp (ps_par hc hN hi hj hij hx hy (pa_cons ha (pa_cons hb pa_nil h2) h1) hw hs) fun D σ H ⟨C, F, E, Q, I, q, L⟩ =>
  ⟨C, F, E, _, I, q, fun v H1 F1 s w1 z1 r1 q1 => ⟨C, F1, E, _, I.step w1 z1, q1, fun u H2 F2 t w2 z2 r2 q2 => by
    refine ⟨v, u, rfl, L.nx _ H2 F2 _ ?_ (w1.fro.trans w2.fro) q2⟩
    have I2 := I.step (w1.trans w2) z2
    have A1 : At X.K C (σ.set i (some v)) H2 F2 (E.set i (some s)) := by
      refine I2.set (nd2 := fun k u t e _ _ _ => by subst e; exact r1) ?_ fun k ds es e ne ek hv => ?_
      · cases s with
        | d d => exact Dd.le w2.fro r1
        | own ds =>
          obtain ⟨a, xs, rfl, n, nf, hh, hd⟩ := r1
          exact ⟨a, xs, rfl, I.new0 n, w2.out a _ hh nf, w2.keep a _ hh nf (I.new1 n), hd.le w2.fro⟩
        | pen => obtain ⟨p, e, m, hp⟩ := r1; exact ⟨p, e, m, w2.pen p m hp⟩
        | scr _ => exact r1.elim
        | bor _ => exact r1.elim
        | dct _ => exact r1.elim
      · subst e
        obtain ⟨a, xs, rfl, n, nf, hh, hd⟩ := r1
        obtain ⟨v', hv', b, ys, rfl, _, _, hb, _⟩ := I.s k _ ek
        rw [hv] at hv'; cases hv'
        rw [n] at hb; cases hb
    refine A1.set (nd2 := fun k u t e _ _ _ => by subst e; exact r2) ?_ fun k ds es e ne ek hv => ?_
    · cases t with
      | d d => exact r2
      | own ds =>
        obtain ⟨a, xs, rfl, n, nf, hh, hd⟩ := r2
        exact ⟨a, xs, rfl, I.new0 (w1.back n), nf, hh, hd⟩
      | pen => obtain ⟨p, e, m, hp⟩ := r2; exact ⟨p, e, m, hp⟩
      | scr _ => exact r2.elim
      | bor _ => exact r2.elim
      | dct _ => exact r2.elim
    · subst e
      obtain ⟨a, xs, rfl, n, nf, hh, hd⟩ := r2
      rcases set_get ek with ⟨rfl, ek, lt⟩ | ⟨n1, ek⟩
      · cases ek
        obtain ⟨a', xs', e', n', nf', hh', hd'⟩ := r1
        rw [List.getElem?_set_self (by rw [← I.ln]; exact lt), e'] at hv
        cases hv
        rw [n] at hh'; cases hh'
      · rw [List.getElem?_set_ne n1] at hv
        obtain ⟨v', hv', b, ys, rfl, _, _, hb, _⟩ := (I.step w1 z1).s k _ ek
        rw [hv] at hv'; cases hv'
        rw [n] at hb; cases hb⟩⟩
/-! -x -/
def gNeg (d : PyData) (Q : PyData → Prop) : Prop := match d with
  | .int i => Q (.int (-i))
  | _ => False
theorem pd_neg (h : pD X e f) : pD X (.UnaryOp .USub e pos) (wUn gNeg f) := PE.imp (pe_un un_neg h) fun σ H Q ⟨C, F, E, Qd, I, q, k⟩ => ⟨C, F, E, _, I, q, fun v H1 F1 d w1 z1 r1 q1 => by
  cases d with
  | int i => cases r1; exact ⟨i, rfl, k _ H1 F1 _ w1 z1 (.int _) q1⟩
  | _ => exact q1.elim⟩
/-! chains -/
theorem chain_imp {K : PySem.W.Frag} {r r' : R2} {g g' : G2} (o : OpD K r g) (o' : OpD K r' g') : ∀ σ H Q, tE K (wChain g g' fa fb fc) σ H Q → tChain r r' (tH K fa) (tH K fb) (tH K fc) σ H Q := fun σ H Q ⟨C, F, E, Qd, I, q, k⟩ =>
  ⟨C, F, E, _, I, q, fun x H1 F1 d w1 z1 r1 q1 => ⟨C, F1, E, _, I.step w1 z1, q1, fun y H2 F2 e w2 z2 r2 q2 => o C.hs H2 F2 x y d e _ _ z2 (r1.step w2) r2 q2 fun v H3 F3 d3 w3 z3 r3 q3 => by
    cases d3 with
    | bool b =>
      refine ⟨b, r3.bool, ?_⟩
      have w123 := w1.trans (w2.trans w3)
      cases b with
      | true =>
        exact ⟨C, F3, E, _, I.step w123 z3, q3, fun v4 H4 F4 d4 w4 z4 r4 q4 => o' C.hs H4 F4 y v4 e d4 Qd Q z4 (r2.step (w3.trans w4)) r4 q4 fun v H' F' d w z => k v H' F' d (w123.trans (w4.trans w)) z⟩
      | false => exact k _ H3 F3 _ w123 z3 (.bl false) q3
    | _ => exact q3.elim⟩⟩
theorem pd_chain {op op' : CmpOp} {r r' : R2} {g g' : G2} (ho : OpR X (compareOp op) r) (hg : OpD X.K r g) (ho' : OpR X (compareOp op') r') (hg' : OpD X.K r' g') (ha : pH X a fa) (hb : pH X b fb) (hc : pH X c fc) (hm : lastMarks [op, op'] [b, c] = false := by with_unfolding_all rfl) :
    pD X (.Compare a [op, op'] [b, c] pos) (wChain g g' fa fb fc) := PE.imp (pe_chain ho ho' ha hb hc hm) (chain_imp hg hg')
/-- a list, a tuple, a text walked, whichever it is -/
def iSeqT (K : PySem.W.Frag) (tl : TE) : TI := fun σ H R => tl σ H fun x H1 => (∃ a xs, x = .ref a ∧ SqL K H1 a xs ∧ R (Itl K a) H1) ∨ (∃ a xs, x = .ref a ∧ SqT K H1 a xs ∧ R (Itt K a) H1) ∨ ∃ z, x = .str z ∧ R (Its z) H1
theorem pi_seq {tg l : Expr} {tl : TE} (hl : PE X l tl) : PI X tg l (iSeqT X.K tl) := by
  refine ⟨fun pins s σ H R I h => ?_⟩
  refine thn (hl.run pins s σ H _ I h) fun v s1 ⟨x, H1, I1, r1, q1⟩ => ?_
  rcases q1 with ⟨a, xs, rfl, hq, q⟩ | ⟨a, xs, rfl, hq, q⟩ | ⟨x, rfl, q⟩
  · cases r1
    obtain ⟨its, rv, p, hz⟩ := I1.list hq
    refine wpAny_pyIter_list p.isList ?_
    refine ⟨s1.heap.objs.size, [s1.heap.objs.size], _, _, H1, rfl, I1.kept (t' := s1.toks) fun b o e => Heap.get?_push_of_some _ e, turn_list a _, ⟨_, Heap.get?_push_size _ rfl, rfl, rfl⟩, fun b hb => ?_, q⟩
    have e : b = s1.heap.objs.size := by simpa using hb
    subst e
    exact I1.fpOk (Nat.le_refl _) (I1.hok.fresh (Nat.le_refl _))
  · cases r1
    obtain ⟨its, rv, p, hz⟩ := I1.tuple hq
    refine wpAny_pyIter_tuple (show s1.heap.IsTuple a its.toArray from p) ?_
    refine ⟨s1.heap.objs.size, [s1.heap.objs.size], _, _, H1, rfl, I1.kept (t' := s1.toks) fun b o e => Heap.get?_push_of_some _ e, turn_tuple a _, ⟨_, Heap.get?_push_size _ rfl, rfl, rfl⟩, fun b hb => ?_, q⟩
    have e : b = s1.heap.objs.size := by simpa using hb
    subst e
    exact I1.fpOk (Nat.le_refl _) (I1.hok.fresh (Nat.le_refl _))
  · obtain ⟨t, rfl⟩ := r1
    cases ha : x.cps.all (· < 128)
    · exact wpAny_pyIter_wide ha (pi_one (tk := s1.toks) I1 _ (turn_str _ x t "str_iterator" (.inr rfl)) ⟨_, Heap.get?_push_size _ rfl, rfl, rfl⟩ q)
    · exact wpAny_pyIter_ascii ha (pi_one (tk := s1.toks) I1 _ (turn_str _ x t "str_ascii_iterator" (.inl rfl)) ⟨_, Heap.get?_push_size _ rfl, rfl, rfl⟩ q)
def iAny (f : FE) : FL := fun E Q => f E fun d => match d with
  | .list ds => Q ds
  | .tuple ds => Q ds
  | .str z => Q (strD z)
  | _ => False
theorem qi_any {tg : Expr} (h : pD X e f) : pI X tg e (iAny f) := PI.imp (pi_seq h) fun σ H R ⟨C, F, E, Qd, I, q, k⟩ => ⟨C, F, E, _, I, q, fun v H' F' d w z r q' => by
  cases d with
  | list ds =>
    cases r with
    | lst h r => exact .inl ⟨_, _, rfl, SqL.of (z.sub.l _ _ h), k _ H' F' _ w z (iter_list h r) q'⟩
  | tuple ds =>
    cases r with
    | tup h r => exact .inr (.inl ⟨_, _, rfl, SqT.of (z.sub.t _ _ h), k _ H' F' _ w z (iter_tup (SqT.of h) r) q'⟩)
  | str y => cases r; exact .inr (.inr ⟨y, rfl, k _ H' F' _ w z (iter_str F' y) q'⟩)
  | _ => exact q'.elim⟩
end
/-- a promise by its arguments -/
def mkS {α : Type} (args : α → List SV) (p : α → (SV → Prop) → Prop) : DSp := fun ss Q => ∃ x, ss = args x ∧ p x Q
end Dl

/-! comprehensions and loops over lists of data: what comes of them -/
namespace Dl
open PySem PySem.Spec PyProof.Rows L2 Vx
theorem lcW_any {stp : PyData → (PyData → Prop) → Prop → Prop} (P : Nat → PyData → Prop) : ∀ {ds : List PyData} {Q : List PyData → Prop}, (∀ (i : Nat) d ok skip, ds[i]? = some d → (∀ r, P i r → ok r) → stp d ok skip) → (∀ rs : List PyData, rs.length = ds.length → (∀ (i : Nat) r, rs[i]? = some r → P i r) → Q rs) → lcW stp ds Q := by
  have gen : ∀ (ds : List PyData) (o : Nat) (Q : List PyData → Prop), (∀ (i : Nat) d ok skip, ds[i]? = some d → (∀ r, P (o + i) r → ok r) → stp d ok skip) → (∀ rs : List PyData, rs.length = ds.length → (∀ (i : Nat) r, rs[i]? = some r → P (o + i) r) → Q rs) → lcW stp ds Q := by
    intro ds
    induction ds with
    | nil => exact fun o Q _ q => q [] rfl fun i r h => by simp at h
    | cons d ds ih =>
      intro o Q hs q
      refine hs 0 d _ _ rfl fun r hr => ih (o + 1) _ (fun i d' ok skip e h => hs (i + 1) d' ok skip (by simpa using e) (by rw [show o + (i + 1) = o + 1 + i by omega]; exact h)) fun rs hl hp => q (r :: rs) (by simp [hl]) fun i r' e => ?_
      cases i with
      | zero => cases e; exact hr
      | succ i => rw [show o + (i + 1) = o + 1 + i by omega]; exact hp i r' (by simpa using e)
  intro ds Q hs q
  exact gen ds 0 Q (fun i d ok skip e h => hs i d ok skip e (by rw [Nat.zero_add] at h; exact h)) fun rs hl hp => q rs hl fun i r e => by have := hp i r e; rwa [Nat.zero_add] at this
theorem eq_of_get {rs : List PyData} {n : Nat} {g : Nat → PyData} (hl : rs.length = n) (h : ∀ (i : Nat) r, rs[i]? = some r → r = g i) : rs = (List.range n).map g := by
  refine List.ext_getElem (by rw [hl, List.length_map, List.length_range]) fun i h1 h2 => ?_
  rw [h i _ (List.getElem?_eq_getElem h1), List.getElem_map, List.getElem_range]
theorem lcW_fn {stp : PyData → (PyData → Prop) → Prop → Prop} {ds : List PyData} {Q : List PyData → Prop} (g : Nat → PyData) (hs : ∀ (i : Nat) d ok skip, ds[i]? = some d → ok (g i) → stp d ok skip) (q : Q ((List.range ds.length).map g)) : lcW stp ds Q :=
  lcW_any (fun i r => r = g i) (fun i d ok skip e h => hs i d ok skip e (h _ rfl)) fun rs hl hp => by rw [eq_of_get hl hp]; exact q
theorem lcW_rng {stp : PyData → (PyData → Prop) → Prop → Prop} {lo : Int} {n : Nat} {Q : List PyData → Prop} (g : Nat → PyData) (hs : ∀ (i : Nat) ok skip, i < n → ok (g i) → stp (.int (lo + (i : Nat))) ok skip) (q : Q ((List.range n).map g)) : lcW stp (rngD lo n) Q :=
  lcW_fn g (fun i d ok skip e h => by obtain ⟨l, rfl⟩ := rngD_get e; exact hs i ok skip l h) (by rw [rngD_len]; exact q)
theorem lcW_rngA {stp : PyData → (PyData → Prop) → Prop → Prop} {lo : Int} {n : Nat} {Q : List PyData → Prop} (P : Nat → PyData → Prop) (hs : ∀ (i : Nat) ok skip, i < n → (∀ r, P i r → ok r) → stp (.int (lo + (i : Nat))) ok skip) (q : ∀ rs : List PyData, rs.length = n → (∀ (i : Nat) r, rs[i]? = some r → P i r) → Q rs) : lcW stp (rngD lo n) Q :=
  lcW_any P (fun i d ok skip e h => by obtain ⟨l, rfl⟩ := rngD_get e; exact hs i ok skip l h) (by rw [rngD_len]; exact q)
theorem lcW_map {α : Type} {stp : PyData → (PyData → Prop) → Prop → Prop} {f : α → PyData} {xs : List α} {Q : List PyData → Prop} (g : α → PyData) (hs : ∀ x ok skip, x ∈ xs → ok (g x) → stp (f x) ok skip) (q : Q (xs.map g)) : lcW stp (xs.map f) Q := by
  induction xs generalizing Q with
  | nil => exact q
  | cons x xs ih => exact hs x _ _ List.mem_cons_self (ih (fun y ok skip m => hs y ok skip (List.mem_cons_of_mem _ m)) q)
/-- residues drawn -/
theorem ints_of {q : Int} : ∀ {rs : List PyData}, (∀ (i : Nat) r, rs[i]? = some r → ∃ x : Int, r = .int x ∧ 0 ≤ x ∧ x < q) → ∃ xs : List Int, rs = xs.map PyData.int ∧ ∀ x ∈ xs, 0 ≤ x ∧ x < q
  | [], _ => ⟨[], rfl, fun x h => nomatch h⟩
  | d :: ds, h => by
    obtain ⟨x, rfl, h0, h1⟩ := h 0 d rfl
    obtain ⟨xs, e, hx⟩ := ints_of fun i r e => h (i + 1) r (by simpa using e)
    refine ⟨x :: xs, by rw [e]; rfl, fun y hy => ?_⟩
    rcases List.mem_cons.mp hy with rfl | hy
    · exact ⟨h0, h1⟩
    · exact hx y hy
theorem sm_n {n : Nat} (h : n ≤ 1000000) : Sm (n : Int) := ⟨by omega, by omega⟩
theorem sm_i {i : Int} (h : -1000000 ≤ i) (h2 : i ≤ 1000000) : Sm i := ⟨by omega, by omega⟩
theorem line_of {n : Nat} (h : n ≤ 100000) : n ≤ sizeLine := Nat.le_trans h (by decide)
theorem line_lt {n : Nat} (h : n ≤ 100000) : n < sizeLine := Nat.lt_of_le_of_lt h (by decide)
theorem lc_sz {n : Nat} {lo : Int} (h : n ≤ 100000) : (rngD lo n).length < sizeLine := by rw [rngD_len]; exact line_lt h
theorem shaped_int (i : Int) : SeqAt.shaped (.int i) = true := rfl
theorem eqv_int (i j : Int) : PyData.eqv (.int i) (.int j) = (i == j) := rfl
theorem atD {ds : List PyData} {i : Nat} {d : PyData} (h : ds[i]? = some d) : atI ds (i : Int) = some d := atI_nat h
theorem mulOkL {i j : Int} (h : -1000000 ≤ i) (h2 : i ≤ 1000000) : MulOk i j := .inl (.inl ⟨by omega, by omega⟩)
theorem mulOkR {i j : Int} (h : -1000000 ≤ j) (h2 : j ≤ 1000000) : MulOk i j := .inl (.inr ⟨by omega, by omega⟩)
end Dl

/-! matrices of program shape, node values, masks: the mathematics -/
namespace Dm
open PySem Vx
theorem sm_app (f : Nat → Int) (a : Nat) : ∀ b, sm (a + b) f = sm a f + sm b fun t => f (a + t)
  | 0 => by show sm a f = sm a f + 0; omega
  | b + 1 => by
    show sm (a + b) f + f (a + b) = sm a f + (sm b (fun t => f (a + t)) + f (a + b))
    rw [sm_app f a b]; omega
/-- the node values, counted from the sink -/
def nd (q : Int) (n : Nat) (A : Fm) : Nat → Int
  | 0 => 1
  | d + 1 => sm (d + 1) (fun j => if h : j < d + 1 then A (n - (d + 1)) (n - (d + 1) + j) * nd q n A (d - j) else 0) % q
theorem nd_zero (q : Int) (n : Nat) (A : Fm) : nd q n A 0 = 1 := by rw [nd]
theorem nd_succ (q : Int) (n : Nat) (A : Fm) (d : Nat) : nd q n A (d + 1) = sm (d + 1) (fun j => A (n - (d + 1)) (n - (d + 1) + j) * nd q n A (d - j)) % q := by
  rw [nd]
  congr 1
  exact sm_congr fun k hk => dif_pos hk
/-- D_k -/
def nv (q : Int) (n : Nat) (A : Fm) (k : Nat) : Int := nd q n A (n - k)
theorem nv_last (q : Int) (n : Nat) (A : Fm) : nv q n A n = 1 := by unfold nv; rw [Nat.sub_self, nd_zero]
theorem nv_row (q : Int) {n : Nat} (A : Fm) {k : Nat} (h : k < n) : nv q n A k = sm (n - k) (fun t => A k (k + t) * nv q n A (k + t + 1)) % q := by
  obtain ⟨d, e⟩ : ∃ d, n - k = d + 1 := ⟨n - k - 1, by omega⟩
  unfold nv
  rw [e, nd_succ]
  congr 1
  refine sm_congr fun t ht => ?_
  rw [show n - (d + 1) = k by omega, show n - (k + t + 1) = d - t by omega]
theorem nv_bound {q : Int} (hq : 1 < q) (n : Nat) (A : Fm) (k : Nat) : 0 ≤ nv q n A k ∧ nv q n A k < q := by
  unfold nv
  cases e : n - k with
  | zero => rw [nd_zero]; omega
  | succ d => rw [nd_succ]; exact ⟨Int.emod_nonneg _ (by omega), Int.emod_lt_of_pos _ (by omega)⟩
/-- program shape -/
def Shp (q : Int) (n : Nat) (M : Fm) : Prop := ∀ i j, i < n → j < n → (j + 1 < i → Cg q (M i j) 0) ∧ (j + 1 = i → Cg q (M i j) (-1))
theorem Cg.zmul {q a b : Int} (h : Cg q a 0) : Cg q (a * b) 0 := by
  have := h.mul (Cg.refl q b)
  rwa [Int.zero_mul] at this
theorem sm_cg0 {q : Int} {n : Nat} {f : Nat → Int} (h : ∀ k, k < n → Cg q (f k) 0) : Cg q (sm n f) 0 := by
  have := sm_cg h
  rwa [sm_zero] at this
theorem shp_row {q : Int} {n : Nat} {M : Fm} (s : Shp q n M) {i : Nat} (hi : i + 1 < n) (x : Nat → Int) : Cg q (sm n fun j => M (i + 1) j * x j) (-x i + sm (n - (i + 1)) fun t => M (i + 1) (i + 1 + t) * x (i + 1 + t)) := by
  have e : sm n (fun j => M (i + 1) j * x j) = (sm i (fun j => M (i + 1) j * x j) + M (i + 1) i * x i) + sm (n - (i + 1)) fun t => M (i + 1) (i + 1 + t) * x (i + 1 + t) := by
    conv => lhs; rw [show n = (i + 1) + (n - (i + 1)) by omega, sm_app]
    rfl
  rw [e]
  refine Cg.add ?_ (.refl _ _)
  have h0 : Cg q (sm i fun j => M (i + 1) j * x j) 0 := sm_cg0 fun k hk => Cg.zmul ((s (i + 1) k hi (by omega)).1 (by omega))
  have h1 : Cg q (M (i + 1) i * x i) (-1 * x i) := ((s (i + 1) i hi (by omega)).2 rfl).mul (.refl _ _)
  have := h0.add h1
  rwa [show (0 : Int) + -1 * x i = -x i by omega] at this
/-- the node column solves the system -/
theorem nv_solves {q : Int} {n : Nat} {M : Fm} (s : Shp q n M) {i : Nat} (hi : i < n) : Cg q (sm n fun j => M i j * nv q n M (j + 1)) (if i = 0 then nv q n M 0 else 0) := by
  cases i with
  | zero =>
    rw [if_pos rfl, nv_row q M hi]
    refine Cg.trans (.of_eq ?_) (Cg.mod q _).symm
    rw [Nat.sub_zero]
    exact sm_congr fun t _ => by rw [Nat.zero_add]
  | succ i =>
    rw [if_neg (by omega)]
    refine (shp_row s hi fun j => nv q n M (j + 1)).trans ?_
    have e : nv q n M (i + 1) = sm (n - (i + 1)) (fun t => M (i + 1) (i + 1 + t) * nv q n M (i + 1 + t + 1)) % q := nv_row q M hi
    have c : Cg q (nv q n M (i + 1)) (sm (n - (i + 1)) fun t => M (i + 1) (i + 1 + t) * nv q n M (i + 1 + t + 1)) := by
      rw [e]; exact Cg.mod q _
    have := (c.neg).add (.refl q (sm (n - (i + 1)) fun t => M (i + 1) (i + 1 + t) * nv q n M (i + 1 + t + 1)))
    exact this.trans (.of_eq (by omega))
/-- .. and it alone -/
theorem nv_only {q : Int} {n : Nat} {M : Fm} (s : Shp q n M) {x : Nat → Int} {a : Int} (hn : 0 < n) (hx : Cg q (x (n - 1)) 1) (h : ∀ i, i < n → Cg q (sm n fun j => M i j * x j) (if i = 0 then a else 0)) :
    (∀ k, k < n → Cg q (x k) (nv q n M (k + 1))) ∧ Cg q a (nv q n M 0) := by
  have main : ∀ d k, k + d + 1 = n → Cg q (x k) (nv q n M (k + 1)) := by
    intro d
    induction d using Nat.strongRecOn with
    | ind d ih =>
      intro k e
      cases d with
      | zero =>
        obtain rfl : k = n - 1 := by omega
        rw [show n - 1 + 1 = n by omega, nv_last]
        exact hx
      | succ d =>
        have hk : k + 1 < n := by omega
        have r := (shp_row s hk x).symm.trans (h (k + 1) hk)
        rw [if_neg (by omega)] at r
        have c : Cg q (sm (n - (k + 1)) fun t => M (k + 1) (k + 1 + t) * x (k + 1 + t)) (nv q n M (k + 1)) := by
          rw [nv_row q M hk]
          refine Cg.trans (sm_cg fun t ht => (Cg.refl q _).mul (ih (d - t) (by omega) (k + 1 + t) (by omega))) (Cg.mod q _).symm
        have r2 := r.add (.refl q (x k))
        refine Cg.trans ?_ c
        refine Cg.trans (.of_eq (show x k = 0 + x k by omega)) (r2.symm.trans (.of_eq (by omega)))
  refine ⟨fun k hk => main (n - k - 1) k (by omega), ?_⟩
  have r := h 0 hn
  rw [if_pos rfl] at r
  refine r.symm.trans ?_
  rw [nv_row q M hn]
  refine Cg.trans ?_ (Cg.mod q _).symm
  refine Cg.trans (sm_cg fun t ht => (Cg.refl q _).mul (main (n - t - 1) t (by omega))) (.of_eq ?_)
  rw [Nat.sub_zero]
  exact sm_congr fun t _ => by rw [Nat.zero_add]
/-- the answer counted from the source -/
def fw (q : Int) (A : Fm) : Nat → Int
  | 0 => 1
  | e + 1 => sm (e + 1) (fun s => if h : s < e + 1 then fw q A s * A s e else 0) % q
theorem fw_zero (q : Int) (A : Fm) : fw q A 0 = 1 := by rw [fw]
theorem fw_succ (q : Int) (A : Fm) (e : Nat) : fw q A (e + 1) = sm (e + 1) (fun s => fw q A s * A s e) % q := by
  rw [fw]
  congr 1
  exact sm_congr fun k hk => dif_pos hk
theorem fw_bound {q : Int} (hq : 1 < q) (A : Fm) (e : Nat) : 0 ≤ fw q A e ∧ fw q A e < q := by
  cases e with
  | zero => rw [fw_zero]; omega
  | succ d => rw [fw_succ]; exact ⟨Int.emod_nonneg _ (by omega), Int.emod_lt_of_pos _ (by omega)⟩
/-- both ways give the same answer -/
theorem fw_nv {q : Int} (hq : 1 < q) {n : Nat} (hn : 0 < n) (A : Fm) : fw q A n = nv q n A 0 := by
  let C : Nat → Int := fun p => sm (p + 1) fun s => fw q A s * sm (n - p) fun t => A s (p + t) * nv q n A (p + t + 1)
  have step : ∀ p, p + 1 < n → Cg q (C p) (C (p + 1)) := by
    intro p hp
    have e1 : C p = sm (p + 1) (fun s => fw q A s * A s p) * nv q n A (p + 1) + sm (p + 1) fun s => fw q A s * sm (n - (p + 1)) fun t => A s (p + 1 + t) * nv q n A (p + 1 + t + 1) := by
      show sm (p + 1) (fun s => fw q A s * sm (n - p) fun t => A s (p + t) * nv q n A (p + t + 1)) = _
      rw [← sm_mulR, ← sm_add]
      refine sm_congr fun s _ => ?_
      rw [show n - p = (n - (p + 1)) + 1 by omega, sm_head, Int.mul_add]
      congr 1
      · rw [Nat.add_zero, Int.mul_assoc]
      · congr 1
        refine sm_congr fun t _ => ?_
        rw [show p + (t + 1) = p + 1 + t by omega]
    have e2 : C (p + 1) = (sm (p + 1) fun s => fw q A s * sm (n - (p + 1)) fun t => A s (p + 1 + t) * nv q n A (p + 1 + t + 1)) + fw q A (p + 1) * sm (n - (p + 1)) fun t => A (p + 1) (p + 1 + t) * nv q n A (p + 1 + t + 1) := rfl
    rw [e1, e2]
    have h1 : Cg q (sm (p + 1) fun s => fw q A s * A s p) (fw q A (p + 1)) := by rw [fw_succ]; exact (Cg.mod q _).symm
    have h2 : Cg q (nv q n A (p + 1)) (sm (n - (p + 1)) fun t => A (p + 1) (p + 1 + t) * nv q n A (p + 1 + t + 1)) := by rw [nv_row q A hp]; exact Cg.mod q _
    refine Cg.trans (Cg.add (h1.mul h2) (.refl _ _)) (.of_eq (by omega))
  have all : ∀ p, p < n → Cg q (C 0) (C p) := by
    intro p
    induction p with
    | zero => exact fun _ => .refl _ _
    | succ p ih => exact fun h => (ih (by omega)).trans (step p h)
  have h0 : Cg q (C 0) (nv q n A 0) := by
    rw [nv_row q A hn]
    refine Cg.trans (.of_eq ?_) (Cg.mod q _).symm
    show (0 : Int) + fw q A 0 * sm (n - 0) (fun t => A 0 (0 + t) * nv q n A (0 + t + 1)) = _
    rw [fw_zero]; omega
  have h1 : Cg q (C (n - 1)) (fw q A n) := by
    obtain ⟨m, rfl⟩ : ∃ m, n = m + 1 := ⟨n - 1, by omega⟩
    rw [fw_succ]
    refine Cg.trans (.of_eq ?_) (Cg.mod q _).symm
    show sm (m + 1) (fun s => fw q A s * sm (m + 1 - m) fun t => A s (m + t) * nv q (m + 1) A (m + t + 1)) = _
    refine sm_congr fun s _ => ?_
    rw [show m + 1 - m = 1 by omega]
    show fw q A s * (0 + A s (m + 0) * nv q (m + 1) A (m + 0 + 1)) = _
    rw [Nat.add_zero, nv_last]
    congr 1; omega
  exact ((h1.symm.trans ((all (n - 1) (by omega)).symm)).trans h0).eq (fw_bound hq A n).1 (fw_bound hq A n).2 (nv_bound hq n A 0).1 (nv_bound hq n A 0).2
/-! masks -/
/-- U: the identity with u above the corner -/
def uc (n : Nat) (u : Nat → Int) : Fm := fun i j => if j + 1 = n ∧ i + 1 < n then u i else dl i j
theorem mm_uc {n : Nat} (A : Fm) (u : Nat → Int) {i j : Nat} (hi : i < n) (hj : j + 1 < n) : mm n A (uc n u) i j = A i j := by
  show sm n (fun k => A i k * uc n u k j) = A i j
  rw [sm_one (i := j) (by omega) fun k _ hk => by unfold uc; rw [if_neg (by omega)]; show A i k * dl k j = 0; unfold dl; rw [if_neg hk]; omega]
  unfold uc
  rw [if_neg (by omega)]
  show A i j * dl j j = A i j
  unfold dl
  rw [if_pos rfl]; omega
/-- the sum over a vector, U ahead of it -/
theorem uc_vec {n : Nat} (hn : 0 < n) (u y : Nat → Int) {i : Nat} (hi : i < n) : (sm n fun j => uc n u i j * y j) = y i + if i + 1 < n then u i * y (n - 1) else 0 := by
  obtain ⟨m, rfl⟩ : ∃ m, n = m + 1 := ⟨n - 1, by omega⟩
  show sm m (fun j => uc (m + 1) u i j * y j) + uc (m + 1) u i m * y m = _
  have low : ∀ j, j < m → uc (m + 1) u i j = dl i j := fun j hj => by unfold uc; rw [if_neg (by omega)]
  rw [sm_congr (g := fun j => dl i j * y j) fun j hj => by rw [low j hj]]
  by_cases c : i + 1 < m + 1
  · rw [sm_one (i := i) (by omega) fun k _ hk => by show dl i k * y k = 0; unfold dl; rw [if_neg (Ne.symm hk)]; omega, if_pos c]
    unfold uc dl
    rw [if_pos rfl, if_pos ⟨rfl, c⟩, show m + 1 - 1 = m by omega]
    omega
  · obtain rfl : i = m := by omega
    rw [sm_zero' fun k hk => by show dl i k * y k = 0; unfold dl; rw [if_neg (by omega)]; omega, if_neg c]
    unfold uc dl
    rw [if_neg (by omega), if_pos rfl]
    omega
theorem mm_vec (n : Nat) (A B : Fm) (x : Nat → Int) (i : Nat) : (sm n fun j => mm n A B i j * x j) = sm n fun k => A i k * sm n fun j => B k j * x j := by
  show (sm n fun j => (sm n fun k => A i k * B k j) * x j) = _
  rw [sm_congr fun j _ => (sm_mulR (x j) n fun k => A i k * B k j).symm, sm_comm]
  refine sm_congr fun k _ => ?_
  rw [← sm_mulL]
  exact sm_congr fun j _ => Int.mul_assoc _ _ _
/-- a unitriangular matrix times one of program shape has program shape -/
theorem shp_mulL {q : Int} {n : Nat} {R M : Fm} (u : Ut n R) (s : Shp q n M) : Shp q n (mm n R M) := by
  intro i j hi hj
  constructor
  · intro h
    refine sm_cg0 fun k hk => ?_
    by_cases c : k < i
    · rw [(u i k hi hk).1 c, Int.zero_mul]; exact .refl _ _
    · have := (Cg.refl q (R i k)).mul ((s k j hk hj).1 (by omega))
      rwa [Int.mul_zero] at this
  · intro h
    show Cg q (sm n fun k => R i k * M k j) (-1)
    have e : Cg q (sm n fun k => R i k * M k j) (sm n fun k => if k = i then -1 else 0) := sm_cg fun k hk => by
      by_cases c : k < i
      · rw [(u i k hi hk).1 c, if_neg (by omega), Int.zero_mul]; exact .refl _ _
      · by_cases c2 : k = i
        · subst c2
          rw [(u k k hi hk).2 rfl, if_pos rfl, Int.one_mul]
          exact (s k j hk hj).2 h
        · rw [if_neg c2]
          have := (Cg.refl q (R i k)).mul ((s k j hk hj).1 (by omega))
          rwa [Int.mul_zero] at this
    refine e.trans (.of_eq ?_)
    rw [sm_one hi fun k _ hk => if_neg hk, if_pos rfl]
/-- .. and the other side -/
theorem shp_mulR {q : Int} {n : Nat} {N : Fm} (s : Shp q n N) (u : Nat → Int) : Shp q n (mm n N (uc n u)) := by
  intro i j hi hj
  refine ⟨fun h => ?_, fun h => ?_⟩
  · rw [mm_uc N u hi (by omega)]; exact (s i j hi hj).1 h
  · rw [mm_uc N u hi (by omega)]; exact (s i j hi hj).2 h
theorem Shp.eqm {q : Int} {n : Nat} {M N : Fm} (s : Shp q n M) (e : Eqm q n N M) : Shp q n N := fun i j hi hj => ⟨fun h => (e i j hi hj).trans ((s i j hi hj).1 h), fun h => (e i j hi hj).trans ((s i j hi hj).2 h)⟩
/-- the masked matrix, up to q -/
def msk (n : Nat) (R M : Fm) (u : Nat → Int) : Fm := mm n (mm n R M) (uc n u)
theorem msk_shp {q : Int} {n : Nat} {R M : Fm} (h : Ut n R) (s : Shp q n M) (u : Nat → Int) : Shp q n (msk n R M u) := shp_mulR (shp_mulL h s) u
/-- its node column, its answer -/
theorem msk_nv {q : Int} {n : Nat} {R M N : Fm} {u : Nat → Int} (hn : 0 < n) (h : Ut n R) (s : Shp q n M) (e : Eqm q n N (msk n R M u)) :
    (∀ k, k < n → Cg q (nv q n N (k + 1)) (nv q n M (k + 1) - if k + 1 < n then u k else 0)) ∧ Cg q (nv q n N 0) (nv q n M 0) := by
  have sN : Shp q n N := (msk_shp h s u).eqm e
  let y : Nat → Int := fun k => nv q n M (k + 1) - if k + 1 < n then u k else 0
  have yl : y (n - 1) = 1 := by
    show nv q n M (n - 1 + 1) - (if n - 1 + 1 < n then u (n - 1) else 0) = 1
    rw [if_neg (by omega), show n - 1 + 1 = n by omega, nv_last]; omega
  have r := nv_only (x := y) (a := nv q n M 0) sN hn (.of_eq yl) fun i hi => by
    refine (sm_cg fun j hj => (e i j hi hj).mul (.refl _ _)).trans ?_
    show Cg q (sm n fun j => mm n (mm n R M) (uc n u) i j * y j) _
    rw [mm_vec, sm_congr (g := fun k => mm n R M i k * nv q n M (k + 1)) fun k hk => by
      rw [uc_vec hn u y hk, yl]
      congr 1
      show nv q n M (k + 1) - (if k + 1 < n then u k else 0) + (if k + 1 < n then u k * 1 else 0) = _
      split <;> omega]
    rw [mm_vec]
    refine (sm_cg fun k hk => (Cg.refl q (R i k)).mul (nv_solves s hk)).trans (.of_eq ?_)
    rw [sm_one (i := 0) hn fun k hk hk0 => by rw [if_neg hk0, Int.mul_zero], if_pos rfl]
    by_cases c : i = 0
    · subst c
      rw [(h 0 0 hn hn).2 rfl, if_pos rfl]; omega
    · rw [(h i 0 hi hn).1 (by omega), if_neg c]; omega
  exact ⟨fun k hk => (r.1 k hk).symm, r.2.symm⟩
end Dm

/-! small data can be shown; statements one at a time -/
namespace Dl
open PySem PySem.Spec PyProof.Rows L2 Vx
structure Sml (D W : Nat) (d : PyData) : Prop where
  lay : d.canLay0 = true
  nd : noD d = true
  sh : d.showable = true
  si : d.intsShort 13 = true
  dp : d.depth ≤ D
  wt : d.weight ≤ W
structure SmlA (D W : Nat) (ds : List PyData) : Prop where
  lay : PyData.canLayAll0 ds = true
  nd : noDs ds = true
  sh : PyData.showableAll ds = true
  si : PyData.intsShortAll 13 ds = true
  dp : PyData.depthAll ds ≤ D
  wt : PyData.weightAll ds ≤ W
theorem Sml.mono {D W D' W' : Nat} {d : PyData} (h : Sml D W d) (a : D ≤ D') (b : W ≤ W') : Sml D' W' d := ⟨h.lay, h.nd, h.sh, h.si, Nat.le_trans h.dp a, Nat.le_trans h.wt b⟩
theorem sml_int {x : Int} (h0 : 0 ≤ x) (h : x < 1000000) : Sml 0 21 (.int x) := ⟨rfl, rfl, (small_int h0 h).2.1, (small_int h0 h).2.2, Nat.le_refl _, (small_int h0 h).1⟩
theorem sml_none : Sml 0 0 .none := ⟨rfl, rfl, rfl, rfl, Nat.le_refl _, Nat.le_refl _⟩
theorem sml_bool (b : Bool) : Sml 0 0 (.bool b) := ⟨rfl, rfl, rfl, rfl, Nat.le_refl _, Nat.le_refl _⟩
theorem smla_of {D W : Nat} : ∀ {ds : List PyData}, (∀ d ∈ ds, Sml D W d) → SmlA D ((W + 1) * ds.length) ds := by
  intro ds
  induction ds with
  | nil => exact fun _ => ⟨rfl, rfl, rfl, rfl, Nat.zero_le _, Nat.zero_le _⟩
  | cons d ds ih =>
    intro h
    have a := h d List.mem_cons_self
    have b := ih fun x hx => h x (List.mem_cons_of_mem _ hx)
    refine ⟨?_, ?_, ?_, ?_, ?_, ?_⟩
    · show (d.canLay0 && PyData.canLayAll0 ds) = true
      rw [a.lay, b.lay]; rfl
    · show (noD d && noDs ds) = true
      rw [a.nd, b.nd]; rfl
    · show (d.showable && PyData.showableAll ds) = true
      rw [a.sh, b.sh]; rfl
    · show (d.intsShort 13 && PyData.intsShortAll 13 ds) = true
      rw [a.si, b.si]; rfl
    · show max d.depth (PyData.depthAll ds) ≤ D
      have := a.dp; have := b.dp; omega
    · show d.weight + 1 + PyData.weightAll ds ≤ _
      have := a.wt; have := b.wt
      rw [List.length_cons, Nat.mul_add]; omega
theorem smla_nil : SmlA 0 0 [] := ⟨rfl, rfl, rfl, rfl, Nat.zero_le _, Nat.zero_le _⟩
theorem smla_cons {D W D' W' : Nat} {d : PyData} {ds : List PyData} (a : Sml D W d) (b : SmlA D' W' ds) : SmlA (max D D') (W + 1 + W') (d :: ds) := by
  refine ⟨?_, ?_, ?_, ?_, ?_, ?_⟩
  · show (d.canLay0 && PyData.canLayAll0 ds) = true
    rw [a.lay, b.lay]; rfl
  · show (noD d && noDs ds) = true
    rw [a.nd, b.nd]; rfl
  · show (d.showable && PyData.showableAll ds) = true
    rw [a.sh, b.sh]; rfl
  · show (d.intsShort 13 && PyData.intsShortAll 13 ds) = true
    rw [a.si, b.si]; rfl
  · show max d.depth (PyData.depthAll ds) ≤ _
    have := a.dp; have := b.dp; omega
  · show d.weight + 1 + PyData.weightAll ds ≤ _
    have := a.wt; have := b.wt; omega
theorem SmlA.tup {D W : Nat} {ds : List PyData} (h : SmlA D W ds) : Sml (D + 1) W (.tuple ds) := ⟨h.lay, h.nd, h.sh, h.si, Nat.succ_le_succ h.dp, h.wt⟩
theorem SmlA.lst {D W : Nat} {ds : List PyData} (h : SmlA D W ds) : Sml (D + 1) W (.list ds) := ⟨h.lay, h.nd, h.sh, h.si, Nat.succ_le_succ h.dp, h.wt⟩
theorem Sml.shw {D W : Nat} {d : PyData} (h : Sml D W d) (a : D ≤ 32 := by decide) (b : W ≤ 2 ^ 20 := by decide) : Shw d := by
  have lay : PyData.layable0 d = true := by
    unfold PyData.layable0
    rw [h.lay, decide_eq_true (show d.depth ≤ 64 from Nat.le_trans h.dp (Nat.le_trans a (by decide))), decide_eq_true (Nat.le_trans h.wt b)]
    rfl
  exact ⟨PyData.hasDict_of_layable lay, h.sh, Nat.le_trans h.dp a, PyData.shown_fits_of_layable0 (B := 13) (by decide) (by decide) lay h.si⟩
theorem Sml.shaped {D W : Nat} {d : PyData} (h : Sml D W d) (a : D ≤ 32 := by decide) : SeqAt.shaped d = true := by
  unfold SeqAt.shaped
  rw [h.lay, decide_eq_true (show d.depth ≤ 64 from Nat.le_trans h.dp (Nat.le_trans a (by decide)))]
  rfl
theorem Sml.tupNd {D W : Nat} {ds : List PyData} (h : Sml D W (.tuple ds)) : noDs ds = true := h.nd
theorem sml_row {r : List Int} (h : ∀ x ∈ r, 0 ≤ x ∧ x < 1000000) : Sml 1 (22 * r.length) (rowD r) := by
  have := smla_of (D := 0) (W := 21) (ds := r.map PyData.int) fun d hd => by
    obtain ⟨x, hx, rfl⟩ := List.mem_map.mp hd
    exact sml_int (h x hx).1 (h x hx).2
  rw [List.length_map] at this
  exact this.tup
theorem sml_mx {n : Nat} {M : Mx} (hs : Sq n M) (h : ∀ r ∈ M, ∀ x ∈ r, 0 ≤ x ∧ x < 1000000) : Sml 2 ((22 * n + 1) * n) (mat M) := by
  have := smla_of (D := 1) (W := 22 * n) (ds := M.map rowD) fun d hd => by
    obtain ⟨r, hr, rfl⟩ := List.mem_map.mp hd
    have := sml_row (h r hr)
    rw [hs.w r hr] at this
    exact this
  rw [List.length_map, hs.h] at this
  exact this.tup
/-! what repr writes is a string -/
def OkC (l : List Nat) : Prop := ∀ c ∈ l, c < 0x110000
theorem okc_iff (x : Str) : PyData.strOk x = true ↔ OkC x.cps.toList := by
  unfold PyData.strOk OkC
  rw [Array.all_eq_true']
  constructor
  · intro h c hc
    exact of_decide_eq_true (h c (by simpa using hc))
  · intro h c hc
    exact decide_eq_true (h c (by simpa using hc))
theorem okc_of (s : String) : OkC (Str.ofString s).cps.toList := fun c hc => by
  rw [signs_ofString] at hc
  obtain ⟨ch, _, rfl⟩ := List.mem_map.mp hc
  have := ch.valid
  show ch.val.toNat < 0x110000
  rcases this with h | ⟨_, h⟩
  · have : ch.val.toNat < 0xd800 := h
    omega
  · exact h
theorem okc_app {a b : Str} (h : OkC a.cps.toList) (k : OkC b.cps.toList) : OkC (a ++ b).cps.toList := fun c hc => (mem_cps_append.mp hc).elim (h c) (k c)
theorem okc_join {sep : Str} {ts : List Str} (h : OkC sep.cps.toList) (k : ∀ t ∈ ts, OkC t.cps.toList) : OkC (Str.join sep ts).cps.toList := fun c hc => by
  rcases (mem_join sep c ts).mp hc with ⟨t, ht, hc⟩ | ⟨_, hc⟩
  · exact k t ht c hc
  · exact h c hc
theorem okc_hex (w c : Nat) : OkC (List.replicate (w - ((Nat.toDigits 16 c).map Char.toNat).length) 48 ++ (Nat.toDigits 16 c).map Char.toNat) := fun x hx => by
  rcases List.mem_append.mp hx with h | h
  · have := (List.mem_replicate.mp h).2; omega
  · obtain ⟨ch, _, rfl⟩ := List.mem_map.mp h
    have := ch.valid
    show ch.val.toNat < 0x110000
    rcases this with h | ⟨_, h⟩
    · have : ch.val.toNat < 0xd800 := h
      omega
    · exact h
theorem okc_cons {a : Nat} {l : List Nat} (h : a < 0x110000) (k : OkC l) : OkC (a :: l) := fun c hc => (List.mem_cons.mp hc).elim (fun e => e ▸ h) (k c)
theorem okc_rc {q c : Nat} (hc : c < 0x110000) : OkC (Builtin.Str.reprChar q c) := by
  have n : OkC [] := fun _ h => by cases h
  unfold Builtin.Str.reprChar
  dsimp only
  split
  · exact okc_cons (by omega) (okc_cons hc n)
  · split
    · exact okc_cons (by omega) (okc_cons (by omega) n)
    · split
      · exact okc_cons (by omega) (okc_cons (by omega) n)
      · split
        · exact okc_cons (by omega) (okc_cons (by omega) n)
        · split
          · exact okc_cons hc n
          · split
            · exact okc_cons (by omega) (okc_cons (by omega) (okc_hex _ _))
            · split
              · exact okc_cons (by omega) (okc_cons (by omega) (okc_hex _ _))
              · exact okc_cons (by omega) (okc_cons (by omega) (okc_hex _ _))
theorem okc_fold (q : Nat) : ∀ (l : List Nat) (acc : Array Nat), OkC l → OkC acc.toList → OkC (l.foldl (fun out c => out ++ (Builtin.Str.reprChar q c).toArray) acc).toList
  | [], acc, _, h => h
  | c :: r, acc, hl, h => by
    rw [List.foldl_cons]
    refine okc_fold q r _ (fun x hx => hl x (List.mem_cons_of_mem _ hx)) fun x hx => ?_
    rw [Array.toList_append] at hx
    rcases List.mem_append.mp hx with k | k
    · exact h x k
    · exact okc_rc (hl c List.mem_cons_self) x (by simpa using k)
theorem okc_text {x : Str} (h : OkC x.cps.toList) : OkC (PySem.reprText x).cps.toList := by
  have q : PySem.reprQuote x < 0x110000 := by
    unfold PySem.reprQuote
    split <;> omega
  unfold PySem.reprText
  intro c hc
  rw [Array.toList_push, List.mem_append, ← Array.foldl_toList] at hc
  rcases hc with hc | hc
  · exact okc_fold _ _ _ h (fun x hx => by simp at hx; omega) c hc
  · simp at hc; omega
mutual
theorem okc_shown : ∀ d : PyData, d.canLay0 = true → OkC d.shown.cps.toList
  | .none, _ => okc_of "None"
  | .bool true, _ => okc_of "True"
  | .bool false, _ => okc_of "False"
  | .int i, _ => okc_of (toString i)
  | .str x, h => okc_text ((okc_iff x).mp h)
  | .list xs, h => by
    rw [PyData.shown, listText_eq_join]
    exact okc_app (okc_app (okc_of _) (okc_join (okc_of _) (okc_shownA xs h))) (okc_of _)
  | .tuple xs, h => by
    rw [PyData.shown]
    exact okc_app (okc_app (okc_of _) (okc_join (okc_of _) (okc_shownA xs h))) (okc_of _)
  | .dict _, h => by cases h
theorem okc_shownA : ∀ ds : List PyData, PyData.canLayAll0 ds = true → ∀ t ∈ PyData.shownAll ds, OkC t.cps.toList
  | [], _, t, h => by cases h
  | d :: ds, k, t, h => by
    have k' : (d.canLay0 && PyData.canLayAll0 ds) = true := k
    obtain ⟨k1, k2⟩ := Bool.and_eq_true_iff.mp k'
    rcases List.mem_cons.mp h with e | h
    · rw [e]; exact okc_shown d k1
    · exact okc_shownA ds k2 t h
end
theorem shaped_str {x : Str} (h : OkC x.cps.toList) : SeqAt.shaped (.str x) = true := by
  unfold SeqAt.shaped
  rw [show (PyData.str x).canLay0 = true from (okc_iff x).mpr h]
  rfl
theorem Sml.str {D W : Nat} {d : PyData} (h : Sml D W d) : SeqAt.shaped (.str d.shown) = true := shaped_str (okc_shown d h.lay)
/-- the same text twice -/
theorem same_text {D W : Nat} {d : PyData} {k : PyData → Prop} (h : Sml D W d) (q : k (.bool true)) : gEq (.str d.shown) (.str d.shown) k := ⟨h.str, h.str, by rw [eqv_same h.str]; exact q⟩
theorem same_textN {D W : Nat} {d : PyData} {k : PyData → Prop} (h : Sml D W d) (q : k (.bool false)) : gNe (.str d.shown) (.str d.shown) k := ⟨h.str, h.str, by rw [eqv_same h.str]; exact q⟩
theorem same_N {D W : Nat} {d : PyData} {k : PyData → Prop} (h : Sml D W d) (q : k (.bool false)) (a : D ≤ 32 := by decide) : gNe d d k := ⟨h.shaped a, h.shaped a, by rw [eqv_same (h.shaped a)]; exact q⟩
theorem same_E {D W : Nat} {d : PyData} {k : PyData → Prop} (h : Sml D W d) (q : k (.bool true)) (a : D ≤ 32 := by decide) : gEq d d k := ⟨h.shaped a, h.shaped a, by rw [eqv_same (h.shaped a)]; exact q⟩
theorem rep_T {D W : Nat} {ds : List PyData} {k : PyData → Prop} (h : Sml D W (.tuple ds)) (q : k (.str (PyData.tuple ds).shown)) (a : D ≤ 32 := by decide) (b : W ≤ 2 ^ 20 := by decide) : gRep1 (.tuple ds) k := ⟨h.nd, h.shw a b, q⟩
theorem rep_L {D W : Nat} {ds : List PyData} {k : PyData → Prop} (h : Sml D W (.list ds)) (q : k (.str (PyData.list ds).shown)) (a : D ≤ 32 := by decide) (b : W ≤ 2 ^ 20 := by decide) : gRep1 (.list ds) k := ⟨h.nd, h.shw a b, q⟩
theorem rep_mat {D W : Nat} {M : Mx} {k : PyData → Prop} (h : Sml D W (mat M)) (q : k (.str (mat M).shown)) (a : D ≤ 32 := by decide) (b : W ≤ 2 ^ 20 := by decide) : gRep1 (mat M) k := rep_T h q a b
/-! one statement at a time -/
section
variable {Q : DEnds} {E : Env'} {g g' : FS} {f : FE} {t : FT}
theorem S_seq (h : g { Q with nx := g' Q } E) : sSeq g g' Q E := h
theorem S_set {i : Nat} (h : ∀ k : PyData → Prop, (∀ d E', E.set i (some (.d d)) = E' → Q.nx E' → k d) → f E k) : sSet i f Q E := h _ fun d E' e q => e ▸ q
theorem S_setF {i : Nat} {f : FL} (h : ∀ k : List PyData → Prop, (∀ d E', E.set i (some (.own d)) = E' → Q.nx E' → k d) → f E k) : sSetF i f Q E := h _ fun d E' e q => e ▸ q
theorem S_ret (h : ∀ k : PyData → Prop, (∀ d, Q.rt (.d d) → k d) → f E k) : sRet f Q E := h _ fun d q => q
theorem S_asg {fg : FG} (h : ∀ k : PyData → Prop, (∀ d, fg d E Q.nx → k d) → f E k) : sAsg f fg Q E := h _ fun d q => q
theorem S_if (h : ∀ k : Bool → Prop, (g Q E → k true) → (g' Q E → k false) → t E k) : sIf t g g' Q E := h _ (fun q => q) fun q => q
/-- a guard that is not met -/
theorem S_no (h : ∀ k : Bool → Prop, k false → t E k) (n : g' Q E) : sIf t g g' Q E := h _ n
theorem S_yes (h : ∀ k : Bool → Prop, k true → t E k) (n : g Q E) : sIf t g g' Q E := h _ n
theorem S_par {i j : Nat} {f h : FV} (x : ∀ k : SV → Prop, (∀ s, (∀ k2 : SV → Prop, (∀ s2 E', (E.set i (some s)).set j (some s2) = E' → Q.nx E' → k2 s2) → h E k2) → k s) → f E k) : sPar i j f h Q E := x _ fun s y => y _ fun s2 E' e q => e ▸ q
theorem S_for {fi : FL} {fg : FG} (ds : List PyData) (J : Nat → Env' → Prop) (h : ∀ k : List PyData → Prop, k ds → fi E k) (h0 : J 0 E) (hs : ∀ (i : Nat) d E', ds[i]? = some d → J i E' → fg d E' fun E2 => g { nx := J (i + 1), ct := J (i + 1), bk := Q.nx, rt := Q.rt, xx := Q.xx } E2) (he : ∀ E', J ds.length E' → Q.nx E') : sFor fi fg g Q E := h _ ⟨J, h0, hs, he⟩
theorem S_frz {i : Nat} {ds : List PyData} {E' : Env'} (h : E[i]? = some (some (.own ds))) (e : E.set i (some (.d (.list ds))) = E') (q : g Q E') : sFrz i g Q E := by
  unfold sFrz
  rw [h]
  show g Q _
  rw [e]
  exact q
theorem S_frzD {i : Nat} {d : PyData} (h : E[i]? = some (some (.d d))) (q : g Q E) : sFrz i g Q E := by
  unfold sFrz
  rw [h]
  exact q
end
end Dl

/-! exceptions with fields: made, raised, by data -/
namespace PySem.VErr
open PySem.W PySem.Calls PyProof.Rows PySem.HandSPX
section
variable {prog : Program} {w : World} {A : Around} {E : Value → Shared → Prop} {R : Result → Shared → Prop} {s : Shared} {K : Frag} {mg : Str → Option Value} {x f qi : Str} {C fI : Addr}
/-- from an __init__ that is promised to a class that is called -/
theorem run_errF {az : Args} {mA : Str → Option Value} (ec : EC K mg x C) (iC : findIn K (.ref C) "__init__" = some (some (.ref fI))) (tC : typeIn K (.ref fI) = some (.type "function")) (one : az.pos.length ≤ sizeLine) (X : K.In s.heap) (hlim : s.heap.NoLimit)
    (ini : ∀ (s₂ : Shared) (A₂ : Around) (R₂ : Result → Shared → Prop) (e t0 : Addr), A₂.depth = A.depth + 1 → K.In s₂.heap → s₂.heap.NoLimit → s₂.heap.get? e = some (excO C t0) → K.lookup e = none →
      (∀ h' tk dx, IniM s₂.heap h' e C dx t0 mA → R₂ (.ok (.ret .none)) { s₂ with heap := h', toks := tk }) → codeAny (model prog w) A₂ (.call (.ref fI) ⟨.ref e :: az.pos, az.kw⟩) R₂ s₂)
    (k : ∀ h' tk e d, ErrM s.heap h' e C d mA → (∃ oe vs, h'.get? e = some oe ∧ oe.cls = .ref C ∧ oe.dict = some d ∧ oe.data = .fields vs ∧ vs[1]? = some .none) → R (.ok (.ret (.ref e))) { s with heap := h', toks := tk }) : codeAny (model prog w) A (.call (.ref C) az) R s := by
  obtain ⟨nm, q, N, bs, bm, sn, sub, ab, col, dd, k0, k1, k2, k3, k5, nw, hC, U⟩ := ec.cls
  obtain ⟨rest, kw⟩ := az
  obtain ⟨hp, g, dr, tk, os⟩ := s
  have up : ∀ b o, hp.get? b = some o → ((hp.push (kdv_tup rest)).push (excO C hp.objs.size)).get? b = some o := fun b o e => Heap.get?_push_of_some _ (Heap.get?_push_of_some _ e)
  have at_ : ((hp.push (kdv_tup rest)).push (excO C hp.objs.size)).get? (hp.objs.size + 1) = some (excO C hp.objs.size) := by heap_get
  have hnx : K.lookup (hp.objs.size + 1) = none := by
    cases e : K.lookup (hp.objs.size + 1) with
    | none => rfl
    | some o =>
      have z : hp.get? (hp.objs.size + 1) = some o := X _ _ e
      exact absurd (Nat.lt_of_succ_lt (Heap.lt_size z)) (Nat.lt_irrefl _)
  refine call_errK U (X _ _ hC) (looks_findIn X iC) (fun self => bind_fn X self tC) one ?_
  refine ini ⟨(hp.push (kdv_tup rest)).push (excO C hp.objs.size), g, dr, tk, os⟩ _ _ _ hp.objs.size rfl (X.keeps up) (hlim.keeps up) at_ hnx fun h' tk' dx ⟨k', hx, dn, dne, hns⟩ => ?_
  have old : ∀ b o, hp.get? b = some o → h'.get? b = some o := fun b o e => k' b o (Nat.ne_of_lt (Nat.lt_succ_of_lt (Heap.lt_size e))) (up b o e)
  have z : hp.objs.size + 1 + 1 ≤ dx := by
    first
      | (simpa only [Heap.size_push] using dn)
      | exact dn
  exact ⟨rfl, k h' tk' (hp.objs.size + 1) dx ⟨old, Nat.le_succ _, ⟨_, _, hx, rfl, rfl, rfl⟩, Nat.le_trans (Nat.le_trans (Nat.le_succ _) (Nat.le_succ _)) z, dne, hns⟩ ⟨_, _, hx, rfl, rfl, rfl, rfl⟩⟩
end
end PySem.VErr
namespace Dl
open PySem PySem.Spec PyProof.Rows L2 Vx
/-- a class of errors whose instances may be raised and caught -/
structure XC (K : PySem.W.Frag) (C : Addr) : Prop where
  exC : PySem.W.subIn K (.ref C) (.type "BaseException") = some true
  tyC : PySem.W.typeIn K (.ref C) = some (.type "type")
  xf : XfC K C
  ec : ExcC K C
  te : PySem.W.exmOne K (.ref C) (.ref C) = some true
theorem xc_of {K : PySem.W.Frag} {C : Addr} (exC : PySem.W.subIn K (.ref C) (.type "BaseException") = some true) (tyC : PySem.W.typeIn K (.ref C) = some (.type "type"))
    (ga : PySem.W.findIn K (.ref C) "__getattribute__" = some (some (.builtin "BaseException.__getattribute__"))) (gg : PySem.W.findIn K (.ref C) "__getattr__" = some none) (hd : PySem.W.hasDictIn K C = true)
    (sc : PySem.W.subIn K (.ref C) (.ref C) = some true) (ha : PySem.W.findIn K (.ref C) "__class__" = some (some (.builtin "object.__class__")))
    (hn : PySem.W.specialIn K (.builtin "object.__class__") "__get__" = some (some (.builtin "getset_descriptor.__get__"))) (ht : PySem.W.takesIn K (.builtin "object.__class__") = some true) (hm : PySem.W.mroIn K C (.type "object") = some true) : XC K C :=
  ⟨exC, tyC, ⟨ga, gg, exC, hd⟩, ⟨ga, gg, exC, hd, ha, hn, ht, hm⟩, PySem.W.exm_ref exC hd tyC sc⟩
structure X1 (K : PySem.W.Frag) (mg : Str → Option Value) (x f qi : Str) (C fI : Addr) : Prop where
  er : PySem.VErr.E1 K mg x f qi C fI
  xc : XC K C
structure X2 (K : PySem.W.Frag) (mg : Str → Option Value) (x f g qi : Str) (C fI : Addr) : Prop where
  er : PySem.VErr.E2 K mg x f g qi C fI
  xc : XC K C
section
variable {X : Cx} {x f g qi : Str} {C fI : Addr} {ta : TA} {es : List Expr} {e : Expr} {p pos : Pos} {k : Nat}
/-- x(e, ..), to be raised -/
def tMkN (C : Addr) (mk : List V → Option (List (Str × V))) (ta : TA) : L2.St → Hp → XK → Prop := fun σ H Q => ta σ H fun vs H1 => ∃ fs, mk vs = some fs ∧ ∀ d, H1 d = none → Q (.ref C) (some d) (upd H1 d (.xd fs))
theorem mk_inv {pins : List (Addr × Obj)} {σ : L2.St} {H1 : Hp} {Q : XK} {hp h' : Heap} {g : Array GenState} {dr : Drawn} {tk tk' : Nat} {os : OsState} {e d : Addr} {fs : List (Str × V)} {mA : Str → Option Value} (T : XC X.K C) (I1 : Inv X pins σ H1 ⟨hp, g, dr, tk, os⟩)
    (M : PySem.VErr.ErrM hp h' e C d mA) (N : ∃ oe vs, h'.get? e = some oe ∧ oe.cls = .ref C ∧ oe.dict = some d ∧ oe.data = .fields vs ∧ vs[1]? = some .none) (r : ∀ y, RelO (List.lookup y fs) (mA y)) (q1 : ∀ d, H1 d = none → Q (.ref C) (some d) (upd H1 d (.xd fs))) : MkP X pins σ Q (.ref e) ⟨h', g, dr, tk', os⟩ := by
  obtain ⟨oe, fv, hoe, hc, hd, hdat, h1⟩ := N
  have hns := M.ns
  obtain ⟨G', g1, g2⟩ := restrict h' fun b => decide (b ≠ e)
  have gk : ∀ b, b ≠ e → G'.get? b = h'.get? b := fun b hb => g1 b (decide_eq_true hb)
  have ge : G'.get? e = none := g2 e (by simp)
  have old : ∀ b o, hp.get? b = some o → G'.get? b = some o := fun b o q => (gk b (Nat.ne_of_lt (Nat.lt_of_lt_of_le (Heap.lt_size q) M.new))).trans (M.keep b o q)
  have ob : ObjOk X.prog X.w (upd H1 d (.xd fs)) G' d (.xd fs) := ⟨_, hns.at (fun o q => (gk d M.dne).trans q), r⟩
  have J : Inv X pins σ (upd H1 d (.xd fs)) ⟨G', g, dr, tk', os⟩ := I1.laid (t' := tk') old M.dbig ob
  refine ⟨e, oe, fv, ⟨G', g, dr, tk', os⟩, _, .ref C, some d, rfl, J, fun b o q => ?_, ge, hoe, ⟨hc, hd⟩, hdat, h1, ?_, rfl, I1.bare, raises_own T.exC T.tyC, q1 d (I1.hok.fresh M.dbig)⟩
  · by_cases hb : b = e
    · have q' : G'.get? b = some o := q
      rw [hb, ge] at q'; cases q'
    · exact (gk b hb).symm.trans q
  · rw [upd_ne (Ne.symm M.dne)]
    exact I1.hok.fresh M.new
theorem pmk1 (T : PySem.VErr.E1 X.K X.mg x f qi C fI) (xc : XC X.K C) (hr : Room k X.A) (hg : Gl X x) (ha : PA X (e :: es) ta) (hdb : (x == ("__debug__" : Str)) = false := by decide +kernel)
    (he : starEach (e :: es) X.env = (false, eval e X.env) :: starEach es X.env := by rfl) (hpl : (backTo pos (starEach es X.env)).any (·.1) = false := by rfl) :
    PMk X (.Call (.Name x p) (e :: es) [] pos) (tMkN C (mk1 f) ta) := by
  intro pins s σ H Q I h
  refine wpAny_Call_Name_kw (ld_glob I hg T.ec.gC ?_ hdb)
  refine PySem.W.callWith_K (h₀ := X.base) I.ok.mod.kin T.ec.kC (thn (ha.run pos pins s σ H _ I h) fun us s1 ⟨vs, H1, I1, r1, fs, ev, q1⟩ => ⟨I1.kIn, ?_⟩) he hpl
  rcases vs with _ | ⟨v, _ | ⟨v2, vs⟩⟩
  · cases ev
  · obtain rfl := Option.some.inj ev
    obtain ⟨u, rfl, rv⟩ := vals1 r1
    have hlim := I1.nolimit
    obtain ⟨hp, g', dr, tk', os⟩ := s1
    have dp := hr.dp
    refine wpAny_call (PySem.VErr.run_errF (az := ⟨[] ++ [u], []⟩) T.ec T.iC T.tC (by show 1 ≤ sizeLine; decide) I1.kIn hlim (fun s₂ A₂ R₂ e t0 hA hK hl hx hn kk => PySem.VErr.run_init1 (kw := false) (v := u) T hK hl hx hn (by omega) kk) fun h' tk2 e d M N => ?_)
    exact mk_inv xc I1 M N (fun y => relO_one rv y) q1
  · cases ev
theorem pmk2 (T : PySem.VErr.E2 X.K X.mg x f g qi C fI) (xc : XC X.K C) (hr : Room k X.A) (hg : Gl X x) (ha : PA X (e :: es) ta) (hdb : (x == ("__debug__" : Str)) = false := by decide +kernel)
    (he : starEach (e :: es) X.env = (false, eval e X.env) :: starEach es X.env := by rfl) (hpl : (backTo pos (starEach es X.env)).any (·.1) = false := by rfl) :
    PMk X (.Call (.Name x p) (e :: es) [] pos) (tMkN C (mk2 f g) ta) := by
  intro pins s σ H Q I h
  refine wpAny_Call_Name_kw (ld_glob I hg T.ec.gC ?_ hdb)
  refine PySem.W.callWith_K (h₀ := X.base) I.ok.mod.kin T.ec.kC (thn (ha.run pos pins s σ H _ I h) fun us s1 ⟨vs, H1, I1, r1, fs, ev, q1⟩ => ⟨I1.kIn, ?_⟩) he hpl
  rcases vs with _ | ⟨v, _ | ⟨v2, _ | ⟨v3, vs⟩⟩⟩
  · cases ev
  · cases ev
  · obtain rfl := Option.some.inj ev
    obtain ⟨u, u2, rfl, rv, rv2⟩ := vals2 r1
    have hlim := I1.nolimit
    obtain ⟨hp, g', dr, tk', os⟩ := s1
    have dp := hr.dp
    refine wpAny_call (PySem.VErr.run_errF (az := ⟨[] ++ [u, u2], []⟩) T.ec T.iC T.tC (by show 2 ≤ sizeLine; decide) I1.kIn hlim (fun s₂ A₂ R₂ e t0 hA hK hl hx hn kk => PySem.VErr.run_init2 (kw := false) (v := u) (y := u2) T hK hl hx hn (by omega) kk) fun h' tk2 e d M N => ?_)
    exact mk_inv xc I1 M N (fun y => relO_two rv rv2 y) q1
  · cases ev
end
/-! raise, by data -/
section
variable {X : Cx} {x f g qi : Str} {C fI : Addr} {es : List Expr} {e : Expr} {p pos pos2 : Pos} {k : Nat} {fa : FA} {st : Stmt}
def mkD1 (f : Str) : List SV → Option (List (Str × PyData))
  | [.d d] => some [(f, d)]
  | _ => none
def mkD2 (f g : Str) : List SV → Option (List (Str × PyData))
  | [.d d, .d e] => some [(g, e), (f, d)]
  | _ => none
def sRaise (C : Addr) (mk : List SV → Option (List (Str × PyData))) (fa : FA) : FS := fun Q E => fa E fun ss => ∃ fs, mk ss = some fs ∧ Q.xx (.ref C) fs
theorem raise_imp {W : WX} (mk : List SV → Option (List (Str × PyData))) (mv : List V → Option (List (Str × V))) (hm : ∀ hs H F vs ss fs, SvAs X.K hs H F vs ss → mk ss = some fs → ∃ xs, mv vs = some xs ∧ XfR X.K F xs fs) :
    ∀ D σ H, tS X (sRaise C mk fa) D σ H → tMkN C mv (tAr X.K fa) σ H fun cls d H' => Wm X cls d σ H' := fun D σ H ⟨C', F, E, Q, I, q, L⟩ =>
  ⟨C', F, E, _, I, q, fun vs H1 F1 ss w1 z1 r1 ⟨fs, e, q1⟩ => by
    obtain ⟨xs, ev, xr⟩ := hm _ _ _ _ _ _ r1 e
    refine ⟨xs, ev, fun d n => ?_⟩
    have nf : F1 d = none := z1.fin d n
    exact L.xx _ d xs σ _ F1 fs ((I.w.trans w1).trans (.newO n _)) (z1.newO nf _) upd_same xr q1⟩
theorem mkD1_ok {K : PySem.W.Frag} (f : Str) : ∀ hs H F vs ss fs, SvAs K hs H F vs ss → mkD1 f ss = some fs → ∃ xs, mk1 f vs = some xs ∧ XfR K F xs fs := by
  intro hs H F vs ss fs r e
  cases r with
  | nil => cases e
  | cons r1 r2 =>
    cases r2 with
    | nil =>
      rename_i v s
      cases s with
      | d d => obtain rfl := Option.some.inj e; exact ⟨_, rfl, rfl, r1, trivial⟩
      | _ => cases e
    | cons r2 r3 => rename_i v s v2 vs s2 ss; cases s <;> cases e
theorem mkD2_ok {K : PySem.W.Frag} (f g : Str) : ∀ hs H F vs ss fs, SvAs K hs H F vs ss → mkD2 f g ss = some fs → ∃ xs, mk2 f g vs = some xs ∧ XfR K F xs fs := by
  intro hs H F vs ss fs r e
  cases r with
  | nil => cases e
  | cons r1 r2 =>
    cases r2 with
    | nil => rename_i v s; cases s <;> cases e
    | cons r2 r3 =>
      cases r3 with
      | nil =>
        rename_i v s v2 s2
        cases s with
        | d d =>
          cases s2 with
          | d d2 => obtain rfl := Option.some.inj e; exact ⟨_, rfl, rfl, r2, rfl, r1, trivial⟩
          | _ => cases e
        | _ => cases e
      | cons r3 r4 => rename_i v s v2 s2 v3 vs s3 ss; cases s <;> cases s2 <;> cases e
theorem q_raise1 (hc : X.calm = true) (T : PySem.VErr.E1 X.K X.mg x f qi C fI) (xc : XC X.K C) (hr : Room k X.A) (hg : Gl X x) (ha : pA X (e :: es) fa) (hdb : (x == ("__debug__" : Str)) = false := by decide +kernel)
    (he : starEach (e :: es) X.env = (false, eval e X.env) :: starEach es X.env := by rfl) (hpl : (backTo pos (starEach es X.env)).any (·.1) = false := by rfl) :
    pS X (.Raise (some (.Call (.Name x p) (e :: es) [] pos)) none pos2) (sRaise C (mkD1 f) fa) := PS.imp (ps_raise hc (takes_max X) (pmk1 T xc hr hg ha hdb he hpl)) (raise_imp (W := Wm X) _ _ (mkD1_ok f))
theorem q_raise2 (hc : X.calm = true) (T : PySem.VErr.E2 X.K X.mg x f g qi C fI) (xc : XC X.K C) (hr : Room k X.A) (hg : Gl X x) (ha : pA X (e :: es) fa) (hdb : (x == ("__debug__" : Str)) = false := by decide +kernel)
    (he : starEach (e :: es) X.env = (false, eval e X.env) :: starEach es X.env := by rfl) (hpl : (backTo pos (starEach es X.env)).any (·.1) = false := by rfl) :
    pS X (.Raise (some (.Call (.Name x p) (e :: es) [] pos)) none pos2) (sRaise C (mkD2 f g) fa) := PS.imp (ps_raise hc (takes_max X) (pmk2 T xc hr hg ha hdb he hpl)) (raise_imp (W := Wm X) _ _ (mkD2_ok f g))
end
/-! defs that may raise -/
abbrev DSpX := List SV → (SV → Prop) → (Value → List (Str × PyData) → Prop) → Prop
def spX (K : PySem.W.Frag) (S : DSpX) : Sp := fun vs H Q E => ∃ F hs ss Qd Ed, Fz H F ∧ (∀ p ∈ hs, ∃ o, H p = some o) ∧ SvAs K hs H F vs ss ∧ S ss Qd Ed ∧ (∀ v H' F' r, Wd hs H F H' F' → Fz H' F' → SvR K ⟨H, F, hs⟩ F' H' v r → Qd r → Q v H') ∧
  ∀ c d xs H' F' fs, Wd hs H F H' F' → Fz H' F' → H' d = some (.xd xs) → XfR K F' xs fs → Ed c fs → E c (some d) H'
section
variable {P : Program} {w : World} {K : PySem.W.Frag} {mg : Str → Option Value} {base : Heap}
theorem okDX {x qual : Str} {st : Stmt} {f : Addr} {fd : FuncData} {N ps : List Str} {k : Nat} {S : DSpX} {g : FS} (F : Fun K x qual st f fd) (Sc : FnScope N ps (defScope st)) (ln : ∀ ss Q Ed, S ss Q Ed → ss.length = ps.length)
    (hb : ∀ (cdv : Value) (A : Around) (o : List Env) (s : Shared) (H : Hp) (E : XK), Rm k (A.deeper (envOfC qual (defScope st) s.heap.objs.size f cdv)) → pSs (cxOf (L2.CX P w) P w K mg base N qual (defScope st) f cdv A o s H E) (defBody st) g)
    (hs : ∀ ss Q Ed, S ss Q Ed → g { nx := fun _ => Q (.d .none), rt := Q, xx := Ed } (ss.map some ++ List.replicate (N.length - ss.length) none)) : FnG P w K mg base (L2.CX P w) (k + 1) f fd ps (spX K S) := by
  refine okX F Sc (fun vs H Q E h => ?_) (fun cdv A o s H vs Q E hr h => ?_)
  · obtain ⟨F1, hs1, ss, Qd, Ed, z, hk, r, q, _⟩ := h
    rw [r.len]; exact ln ss Qd Ed q
  · obtain ⟨F1, hs1, ss, Qd, Ed, z, hk, r, q, k1, k2⟩ := h
    refine ⟨_, hb cdv A o s H E hr, ⟨H, F1, hs1⟩, F1, _, _, start_at z hk r, hs ss Qd Ed q, ?_⟩
    exact ⟨fun σ' H' F' E' I' s' q' => k1 .non H' F' (.d .none) I'.w I'.z .non q', fun _ _ _ _ _ _ q' => q'.elim, fun _ _ _ _ _ _ q' => q'.elim, fun v H' F' r w' z' rr q' => k1 v H' F' r w' z' rr q',
      fun c d xs σ' H' F' fs w' z' e xr q' => ⟨_, takes_of rfl rfl rfl rfl, k2 c d xs H' F' fs w' z' e xr q'⟩⟩
end
section
variable {X : Cx} {S : DSpX} {fa : FA} {f : Addr} {fd : FuncData} {ps : List Str} {k i : Nat} {x y : Str} {p pos pos' pos2 : Pos} {e : Expr} {es : List Expr} {N : List Str}
/-- f(..), that may raise: as a statement, as what is returned, as what a name gets -/
def sCallX (S : DSpX) (fa : FA) : FS := fun Q E => fa E fun ss => S ss (fun _ => Q.nx E) Q.xx
def sRetX (S : DSpX) (fa : FA) : FS := fun Q E => fa E fun ss => S ss (rD fun d => Q.rt (.d d)) Q.xx
def sSetX (i : Nat) (S : DSpX) (fa : FA) : FS := fun Q E => fa E fun ss => S ss (rD fun d => Q.nx (E.set i (some (.d d)))) Q.xx
def WmE (X : Cx) : L2.St → XK := fun σ c d H => Wm X c d σ H
theorem callX_imp {Q : DEnds} {D : Ends} {C : Ctx} {F : Hp} {E : Env'} {σ : L2.St} {H : Hp} {Qd : SV → Prop} {Qv : VK} (I : At X.K C σ H F E) (L : LiftS X C F Q D) (q : fa E fun ss => S ss Qd Q.xx)
    (k : ∀ H1 F1 v H' F' r, Wd C.hs H F H1 F1 → Wd C.hs H1 F1 H' F' → Fz H' F' → SvR X.K ⟨H1, F1, C.hs⟩ F' H' v r → Qd r → Qv v H') : tCallS (spX X.K S) (WmE X) (tAr X.K fa) σ H Qv :=
  ⟨C, F, E, _, I, q, fun vs H1 F1 ss w1 z1 r1 q1 => by
    refine ⟨F1, C.hs, ss, _, _, z1, fun p m => ?_, r1, q1, fun v H' F' r w2 z2 rr q2 => k H1 F1 v H' F' r w1 w2 z2 rr q2, fun c d xs H' F' fs w2 z2 e xr q2 => L.xx c d xs σ H' F' fs ((I.w.trans w1).trans w2) z2 e xr q2⟩
    obtain ⟨o, e⟩ := I.hk p m
    obtain ⟨o1, e1⟩ := I.w.trk p o e
    exact w1.trk p o1 e1⟩
theorem callXD_imp {Q : DEnds} {D : Ends} {C : Ctx} {F : Hp} {E : Env'} {σ : L2.St} {H : Hp} {Qd : PyData → Prop} {Qv : VK} (I : At X.K C σ H F E) (L : LiftS X C F Q D) (q : fa E fun ss => S ss (rD Qd) Q.xx)
    (k : ∀ v H' F' d, Wd C.hs H F H' F' → Fz H' F' → Dd X.K F' v d → Qd d → Qv v H') : tCallS (spX X.K S) (WmE X) (tAr X.K fa) σ H Qv :=
  callX_imp I L q fun H1 F1 v H' F' r w1 w2 z2 rr q2 => by
    cases r with
    | d d => exact k v H' F' d (w1.trans w2) z2 rr q2
    | own ds =>
      obtain ⟨a, xs, rfl, n, nf, hh, hd⟩ := rr
      have s : Le F' (upd F' a (.lst xs)) := .of (same_new nf _)
      exact k (.ref a) H' (upd F' a (.lst xs)) (.list ds) (w1.trans (w2.rest n nf)) (z2.stop hh nf) (.lst upd_same (DdAll.le s hd)) q2
    | pen => exact q2.elim
    | scr _ => exact q2.elim
    | bor _ => exact q2.elim
    | dct _ => exact q2.elim
theorem q_callX (G : FnG X.prog X.w X.K X.mg X.base (L2.CX X.prog X.w) k f fd ps (spX X.K S)) (hr : Rm k X.A) (hg : Gl X x) (hm : X.mg x = some (.ref f)) (hk : PySem.W.keepIn X.K (.ref f) = true) (hb : Binds X.K fd ps [])
    (ha : pA X (e :: es) fa) (hdb : (x == ("__debug__" : Str)) = false := by decide) (he : starEach (e :: es) X.env = (false, eval e X.env) :: starEach es X.env := by rfl) (hpl : (backTo pos (starEach es X.env)).any (·.1) = false := by rfl)
    (hs : swapsWith (.Call (.Name x p) (e :: es) [] pos) none pos2.line X.env = pure false := by rfl) : pS X (.Expr (.Call (.Name x p) (e :: es) [] pos) pos2) (sCallX S fa) :=
  PS.imp (ps_expr (ge_callS (E := WmE X) G hr hg hm hk hb (passAt (takes_max X)) ha hdb he hpl) hs) fun D σ H ⟨C, F, E, Q, I, q, L⟩ =>
    callX_imp I L q fun H1 F1 v H' F' r w1 w2 z2 rr q2 => L.nx σ H' F' E (I.step (w1.trans w2) z2) (w1.trans w2).fro q2
theorem q_retX (G : FnG X.prog X.w X.K X.mg X.base (L2.CX X.prog X.w) k f fd ps (spX X.K S)) (hr : Rm k X.A) (hg : Gl X x) (hm : X.mg x = some (.ref f)) (hk : PySem.W.keepIn X.K (.ref f) = true) (hb : Binds X.K fd ps [])
    (ha : pA X (e :: es) fa) (hdb : (x == ("__debug__" : Str)) = false := by decide) (he : starEach (e :: es) X.env = (false, eval e X.env) :: starEach es X.env := by rfl) (hpl : (backTo pos (starEach es X.env)).any (·.1) = false := by rfl)
     : pS X (.Return (some (.Call (.Name x p) (e :: es) [] pos)) pos2) (sRetX S fa) :=
  PS.imp (ps_ret (ge_callS (E := WmE X) G hr hg hm hk hb (passAt (takes_max X)) ha hdb he hpl)) fun D σ H ⟨C, F, E, Q, I, q, L⟩ =>
    callXD_imp I L q fun v H' F' d w z r q2 => L.rt v H' F' (.d d) (I.w.trans w) z r q2
theorem q_setX (G : FnG X.prog X.w X.K X.mg X.base (L2.CX X.prog X.w) k f fd ps (spX X.K S)) (hr : Rm k X.A) (hg : Gl X x) (hm : X.mg x = some (.ref f)) (hk : PySem.W.keepIn X.K (.ref f) = true) (hb : Binds X.K fd ps [])
    (ha : pA X (e :: es) fa) (hN : X.N.Nodup) (hi : X.N[i]? = some y) (hx : Loc X.env.scope y) (hdb : (x == ("__debug__" : Str)) = false := by decide) (he : starEach (e :: es) X.env = (false, eval e X.env) :: starEach es X.env := by rfl) (hpl : (backTo pos (starEach es X.env)).any (·.1) = false := by rfl)
    (hs : swapsWith (.Call (.Name x p) (e :: es) [] pos) (some (.Name y pos')) pos2.line X.env = pure false := by rfl) (hf : X.fn y = true ∨ X.env.scope.names.lookup y = some .local := by first | exact .inl rfl | exact .inr rfl | assumption) :
    pS X (.Assign [.Name y pos'] (.Call (.Name x p) (e :: es) [] pos) pos2) (sSetX i S fa) :=
  PS.imp (ps_set hN hi hx (ge_callS (E := WmE X) G hr hg hm hk hb (passAt (takes_max X)) ha hdb he hpl) hs hf) fun D σ H ⟨C, F, E, Q, I, q, L⟩ =>
    callXD_imp I L q fun v H' F' d w z r q2 => L.nx _ H' F' _ ((I.step w z).setD r) w.fro q2
/-- where it does not raise -/
def DSpX.calm (S : DSpX) : DSp := fun ss Q => S ss Q fun _ _ => False
theorem FnG.calm {P : Program} {w : World} {K : PySem.W.Frag} {mg : Str → Option Value} {base : Heap} (G : FnG P w K mg base (L2.CX P w) k f fd ps (spX K S)) : FnG P w K mg base CX0 k f fd ps (spD K (DSpX.calm S)) := by
  have to : ∀ {vs H Q E}, spD K (DSpX.calm S) vs H Q E → spX K S vs H Q fun _ _ _ => False := fun {vs H Q E} ⟨F, hs, ss, Qd, z, hk, r, q, k1⟩ => ⟨F, hs, ss, Qd, fun _ _ => False, z, hk, r, q, k1, fun _ _ _ _ _ _ _ _ _ _ q => q.elim⟩
  refine ⟨fun vs H Q E q => G.ln vs H Q _ (to q), fun A o s H az us vs Q E hr e0 bd r hsp => codeAny_mono (G.go A o s H az us vs Q _ hr e0 bd r (to hsp)) fun z s' hq => ?_⟩
  match z, hq with
  | .ok (.ret _), hq => exact hq
  | .ok .next, hq => exact hq.elim
  | .ok .brk, hq => exact hq.elim
  | .ok .cont, hq => exact hq.elim
  | .error er, hq =>
    obtain ⟨a, B, H', cls, d, e, fl, hk, ub, n, os, ag, q⟩ := hq
    exact q.elim
end
/-- such a def, called by keywords too -/
structure CalXK (P : Program) (w : World) (K : PySem.W.Frag) (mg : Str → Option Value) (base : Heap) (x : Str) (k : Nat) (ps : List Str) (sp : Sp) (ks : List Str) (g : {α : Type} → List α → List α → List α) : Prop where
  ex : ∃ f fd, FnG P w K mg base (L2.CX P w) k f fd ps sp ∧ mg x = some (.ref f) ∧ PySem.W.keepIn K (.ref f) = true ∧ Binds K fd ps [] ∧ KBinds K fd ps ks g g
end Dl

/-! x[i] op= e, by data -/
namespace Dl
open PySem PySem.Spec PyProof.Rows L2 Vx
section
variable {X : Cx} {pos : Pos}
def sAugS (j : Nat) (fn : Int → Int → Int) (fi fe : FE) : FS := fun Q E => match E[j]? with
  | some (some (.own ds)) => fi E fun i => match i with
    | .int k => ∃ (n : Nat) (x : Int), k = n ∧ ds[n]? = some (.int x) ∧ fe E fun d => match d with
      | .int y => Q.nx (E.set j (some (.own (ds.set n (.int (fn x y))))))
      | _ => False
    | _ => False
  | _ => False
theorem q_augS {j : Nat} {o i e : Expr} {fi fe : FE} {fn : Int → Int → Int} {op : Operator} {tpos : Pos} (ho : PE X o (tVar j)) (hi : pD X i fi) (he : pD X e fe) (hp : PIp X op (ipI fn))
    (ha : ∀ ov iv new, augStore i ov iv new = (do holding [new, ov, iv] (setItem ov iv new); release [new, ov, iv] []; pure .next) := by intros; rfl) : pS X (.AugAssign (.Subscript o i tpos) op e pos) (sAugS j fn fi fe) :=
  PS.imp (ps_augS ho hi get_list he hp set_list ha) fun D σ H ⟨C, F, E, Q, I, q, L⟩ => by
    unfold sAugS at q
    split at q
    · rename_i ds hd
      obtain ⟨v0, hv, _⟩ := I.s j _ hd
      refine ⟨v0, hv, C, F, E, _, I, q, fun i H2 F2 k w2 z2 r2 q2 => ?_⟩
      have I2 := I.step w2 z2
      obtain ⟨v', hv', a', xs', rfl, h0', hf', hh', hds'⟩ := I2.s j _ hd
      rw [hv] at hv'; cases hv'
      cases k with
      | int k =>
        cases r2
        obtain ⟨n, x, hn, hx, q2⟩ := q2
        obtain ⟨vx, hvx, rx⟩ := hds'.get hx
        cases rx
        have lt : n < ds.length := (List.getElem?_eq_some_iff.mp hx).1
        have ix : ixN ds.length k = some n := by
          unfold ixN
          rw [if_pos (by omega), if_pos (by omega), hn]; rfl
        refine ⟨a', xs', n, _, rfl, by rw [hn], .of hh', hvx, C, F2, E, _, I2, q2, fun v H3 F3 d w3 z3 r3 q3 => ?_⟩
        have I3 := I2.step w3 z3
        obtain ⟨v', hv', b, ys, e, k0, kf, kh, kd⟩ := I3.s j _ hd
        rw [hv] at hv'; cases hv'; cases e
        cases d with
        | int y =>
          cases r3
          refine ⟨_, _, rfl, rfl, _, ys, k, n, rfl, rfl, kh, by rw [kd.len]; exact ix, ?_⟩
          exact L.nx _ _ F3 _ (I3.mut hd hv kh k0 kf (kd.set (.int _) n)) (w2.fro.trans w3.fro) q3
        | _ => exact q3.elim
      | _ => exact q2.elim
    · exact q.elim
end
end Dl

/-! x.extend(tuple) -/
namespace PySem.AutoSeq1
open Builtin
theorem list_extend_tup (l : Addr) (items : Array Value) (n : Nat) (b : Addr) (items2 : Array Value) (n2 : Nat) (dk : Option Addr) (sl : Array (Option Value)) (hs0 : ¬(!items.isEmpty && Builtin.List.listTooLong (items.size + items2.size)) = true) (hs1 : items.size ≤ sizeLine) (hs2 : items.size + items2.size ≤ sizeLine + 1) :
    Meets (Builtin.«list.extend» ⟨[.ref l, .ref b], []⟩) (fun _ R s => s.heap.get? l = some { cls := .type "list", dict := none, data := .seq items n, slots := #[] } ∧ s.heap.get? b = some { cls := .type "tuple", dict := dk, data := .seq items2 n2, slots := sl } ∧ R (.ok (.ret Value.none)) { s with heap := s.heap.update l (Obj.mapSeq fun x => x ++ items2), toks := s.toks }) :=
  .of_wp fun prog w A R s h => by
    obtain ⟨hp, g, d, tk, os⟩ := s; obtain ⟨hl, hb, h⟩ := h; have f1 := idx_int; have f2 := sub_tuple_tuple; have f3 := sub_list_list; have f4 := sub_tuple_list; have f5 := sub_list_tuple;
    have hz' : (items ++ items2).size ≤ sizeLine + 1 := by rw [Array.size_append]; exact hs2
    wp_walk using (wpAny_updateSeq hl rfl (hz := hs1) (_hz' := hz')), wpAny_loadPart' hl, wpAny_loadPart' hb; exact ⟨_, rfl, h⟩
end PySem.AutoSeq1
namespace Dl
open PySem PySem.Spec PyProof.Rows L2 Vx
def rExtendT (K : PySem.W.Frag) : V → List V → Hp → VK → Prop := fun x vs H Q => ∃ l b xs zs, x = .ref l ∧ vs = [.ref b] ∧ H l = some (.lst xs) ∧ SqT K H b zs ∧ xs.length + zs.length ≤ sizeLine ∧ Q .non (upd H l (.lst (xs ++ zs)))
theorem mt_extendT {X : Cx} : MtM X "list.extend" (rExtendT X.K) := by
  intro pins s σ H x vs v us Q I rx rv h
  obtain ⟨l, b, xs, zs, rfl, rfl, hH, hB, hz, q⟩ := h
  cases rx
  obtain ⟨u, rfl, ru⟩ := rv.one
  cases ru
  obtain ⟨z, its, n, r, hl, e⟩ := I.lstM hH
  obtain ⟨its2, r2, ⟨o2, e2, c2, n2, d2⟩, _⟩ := I.tuple hB
  obtain ⟨cls, dk, data, sl⟩ := o2
  cases c2; cases d2
  have hl2 := r2.length
  have hsz : its.toArray.size + its2.toArray.size ≤ sizeLine := by rw [List.size_toArray, List.size_toArray]; omega
  have hlong : ¬ (!its.toArray.isEmpty && Builtin.List.listTooLong (its.toArray.size + its2.toArray.size)) = true := by
    rw [notLongL hsz, Bool.and_false]
    exact Bool.false_ne_true
  refine call_meets F.slot_list_extend ⟨_, e, rfl⟩ F.entry_list_extend (F.args_list_extend_2 _ _)
    (AutoSeq1.list_extend_tup l its.toArray n b its2.toArray n2 dk sl hlong (by rw [List.size_toArray]; omega) (by omega)) ⟨e, e2, ?_⟩
  refine ⟨.non, _, I.lset (its' := its ++ its2) hH e (by simp) (r.append r2) ?_, rfl, q⟩
  rw [List.length_append]
  omega
section
variable {X : Cx} {st : Stmt} {f : FE}
def sExt (i : Nat) (f : FE) : FS := fun Q E => match E[i]? with
  | some (some (.own ds)) => f E fun d => match d with
    | .tuple es => ds.length + es.length ≤ sizeLine ∧ Q.nx (E.set i (some (.own (ds ++ es))))
    | _ => False
  | _ => False
theorem q_ext {i : Nat} (hp : PS X st (tDrop (tBM X.K "list" (rExtendT X.K) (tVar i) (tCons (tE X.K f) tNil)))) : pS X st (sExt i f) := PS.imp hp fun D σ H ⟨C, F, E, Q, I, q, L⟩ => by
  unfold sExt at q
  split at q
  · rename_i ds hd
    obtain ⟨v, hv, a, xs, rfl, h0, hf, hh, hds⟩ := I.s i _ hd
    refine ⟨_, hv, .inl ⟨rfl, _, SqL.of hh⟩, C, F, E, _, I, q, fun v H' F' d w z r q' => ?_⟩
    cases d with
    | tuple es =>
      obtain ⟨hl, q'⟩ := q'
      have I' := I.step w z
      obtain ⟨v', hv', a', xs', e, h0', hf', hh', hds'⟩ := I'.s i _ hd
      rw [hv] at hv'; cases hv'; cases e
      obtain ⟨b, zs, rfl, hB, rz⟩ := OwR.tup (hs := C.hs) (.inl r) z
      exact ⟨a, b, xs', zs, rfl, rfl, hh', hB, by rw [hds'.len, rz.len]; exact hl, L.nx _ _ F' _ (I'.mut hd hv hh' h0' hf' (hds'.app rz)) w.fro q'⟩
    | _ => exact q'.elim
  · exact q.elim
end
end Dl

/-! except C as e, where e is kept behind the clause: from then on it is an error of ours -/
namespace L2
open PySem PySem.Spec PyProof.Rows Vx
section
variable {X : Cx} {ps : List (Addr × Obj)} {σ : St} {H : Hp} {t : Shared}
/-- what was caught is tracked -/
theorem took_inv {sI s' : Shared} {B h4 : Heap} {a C : Addr} {d : Option Addr} (J : Inv X ps σ H sI) (nb : ∀ b o, sI.heap.get? b = some o → b ∉ frs X.stack → B.get? b = some o) (up : sI.heap.UpToSlots h4)
    (stay : B.StaysIn h4) (na : H a = none) (nB : B.get? a = none) (nf : a ∉ frs X.stack) {oe : Obj} {vs : Array Value} (he : h4.get? a = some oe) (hz : Zc (.ref C) d oe) (hd : oe.data = .fields vs)
    (os : s'.os = sI.os) (ag : AllBare s'.gens) : Inv X ps σ (upd H a (EvO C d a)) { s' with heap := h4 } := by
  have nI : sI.heap.get? a = none := by
    cases q : sI.heap.get? a with
    | none => rfl
    | some o => have := nb a o q nf; rw [nB] at this; cases this
  obtain ⟨G, g1, g2⟩ := restrict h4 fun b => decide (b ≠ a)
  have same : ∀ b, b ≠ a → G.get? b = h4.get? b := fun b k => g1 b (decide_eq_true k)
  have gone : G.get? a = none := g2 a (by simp)
  have JG : Inv X ps σ H { s' with heap := G } := J.landed nb (s' := { s' with heap := G }) (fun b o q => (same b fun z => by rw [z, nB] at q; cases q).trans (stay b o q)) (fun b o q k => by
    obtain ⟨sl, r⟩ := up b o q k
    exact ⟨sl, (same b fun z => by rw [z, nI] at q; cases q).trans r⟩) os ag
  exact JG.laidN (h' := h4) (t' := s'.toks) (fun b u q => by
    by_cases k : b = a
    · rw [k, gone] at q; cases q
    · rw [← same b k]; exact q) gone na (evO_ok he hz hd)
theorem Inv.suiteK (I : Inv X ps σ H t) (a : Addr) : Inv (X.suite a (X.pn ++ ps)) [] σ H t :=
  { ok := I.ok.suite _ _, os := I.os, bare := I.bare, base := I.base, loc := I.loc, cell := I.cell, free := I.free, freeC := I.freeC, pin := fun p hp => I.pin p (by rw [List.append_nil] at hp; exact hp), hok := I.hok, len := I.len }
theorem Inv.unsuiteK {a : Addr} {pn' : List (Addr × Obj)} (I : Inv (X.suite a (X.pn ++ ps)) pn' σ H t) (k : X.Ok) : Inv X ps σ H t :=
  { ok := k, os := I.os, bare := I.bare, base := I.base, loc := I.loc, cell := I.cell, free := I.free, freeC := I.freeC, pin := fun p hp => I.pin p (List.mem_append_left _ hp), hok := I.hok, len := I.len }
end
/-- what the clause wishes of an exception, if it keeps it -/
def wKp (K : PySem.W.Frag) (C : Addr) (i : Nat) (ts : Addr → TS) (Wo : WX) (D : Ends) : WX := fun cls d σ H =>
  ∃ b, PySem.W.exmOne K cls (.ref C) = some b ∧ (b = true → cls = .ref C ∧ ∀ a, H a = none → ts a { nx := fun σ2 H2 => D.nx (σ2.set i none) H2, rt := D.rt, bk := fun σ2 H2 => D.bk (σ2.set i none) H2, ct := fun σ2 H2 => D.ct (σ2.set i none) H2 } (σ.set i (some (.ref a))) (upd H a (EvO C d a))) ∧ (b = false → Wo cls d σ H)
section
variable {X : Cx} {x n : Str} {C : Addr} {i : Nat} {body suite : List Stmt} {b₀ : Stmt} {np pos pos2 : Pos} {tb : WX → TS} {ts : Addr → TS} {Wo : WX}
theorem ps_try_keep (hst : X.stack = X.env :: X.outer) (hfr : X.env.frame = some X.env.locals) (hN : X.N.Nodup) (hi : X.N[i]? = some n) (hln : X.env.kindOf n = some .local) (hc : Names X x (.ref C)) (tk : Takes X Wo)
    (hbo : ∀ (W : WX) (pn : List (Addr × Obj)) (xe : Value → Shared → Prop), Takes (X.tr pn xe) W → PassesOwn (model X.prog X.w) X.A X.env xe → PSs (X.tr pn xe) body (tb W))
    (hsu : ∀ (a : Addr) (pn : List (Addr × Obj)), PSs (X.suite a pn) (b₀ :: suite) (ts a)) :
    PS X (.Try body [.ExceptHandler (some (.Name x np)) (some n) (b₀ :: suite) pos2] [] [] pos) (fun D σ H => tb (wKp X.K C i ts Wo D) D σ H) := by
  constructor
  intro pins st σ0 H0 D inv want
  have okX := inv.ok
  have frX : X.A.frames = some (X.env :: X.outer) := by rw [okX.frames, hst]
  have own : Loc X.env.scope n := .inl hln
  refine wpAny_Try_except ?_
  have run := (hbo (wKp X.K C i ts Wo D) (X.pn ++ pins) (fun ev t1 => wpAny (model X.prog X.w) X.A (noteFrame ev X.env) (fun _ t2 => wpAny (model X.prog X.w) X.A (setFlight ev none) (fun _ t3 =>
    wpAny (model X.prog X.w) X.A (handleBy ev X.env [.ExceptHandler (some (.Name x np)) (some n) (b₀ :: suite) pos2]) (SP X pins D) X.xe t3) X.xe t2) X.xe t1) (fun u t1 xx => ?_) PassesOwn.looking).run [] st σ0 H0 D (inv.toTry _) want
  · refine wpAny_mono run (fun f t1 hsp => ?_) fun ev t1 he => he
    cases f with
    | next => obtain ⟨σ1, H1, J1, q⟩ := hsp; exact wpAny_execs_nil ⟨σ1, H1, J1.ofTry okX, q⟩
    | brk => obtain ⟨σ1, H1, J1, q⟩ := hsp; exact ⟨σ1, H1, J1.ofTry okX, q⟩
    | cont => obtain ⟨σ1, H1, J1, q⟩ := hsp; exact ⟨σ1, H1, J1.ofTry okX, q⟩
    | ret u => obtain ⟨v, σ1, H1, J1, r, q⟩ := hsp; exact ⟨v, σ1, H1, J1.ofTry okX, r, q⟩
  · obtain ⟨a, B, sI, pins1, σ1, H1, cls, d, rfl, J0, nb, up, sky, na, os, ag, b, hb1, hyes, hno⟩ := xx
    have J : Inv X pins σ1 H1 sI := J0.ofTry okX
    have sky1 : Sky B (X.env :: X.outer) a (Zc cls d) X.env.locals t1.heap := hst ▸ sky
    show wpAny (model X.prog X.w) X.A (noteFrame (.ref a) X.env) _ _ _
    refine Sky.land Zc.steady frX hfr sky1 fun h3 fl3 up3 => ?_
    have J3 : Inv X pins σ1 H1 { t1 with heap := h3 } := J.landed nb fl3.1 (up.trans up3) os ag
    obtain ⟨o3, v3, at3, z3, d3⟩ := fl3.there
    have nfr : a ∉ frs (X.env :: X.outer) := fun m => by
      obtain ⟨_, o, e, k⟩ := fl3.2.2.1.mem m
      rw [at3] at e; cases e
      exact k _ d3
    have nfs : a ∉ frs X.stack := by rw [hst]; exact nfr
    have nL : a ≠ X.env.locals := fun z => nfr (List.mem_filterMap.mpr ⟨X.env, List.mem_cons_self, by rw [hfr, z]⟩)
    have nF : a ∉ X.fs := fun m => by
      obtain ⟨e, m2, q⟩ := List.mem_filterMap.mp m
      exact nfr (List.mem_filterMap.mpr ⟨e, List.mem_cons_of_mem _ m2, q⟩)
    have S3 := J3.suite at3 d3 na nL nF
    refine wpAny_handleBy_cons (codeAny_handlers_test ?_) (by intro q; cases q)
    have LT : PySem.W.Looks (model X.prog X.w) h3 (typeOf (.ref a)) cls := fun A Q E s k q => wpAny_typeOf_ref (k _ _ at3) (by rw [z3.1]; exact q)
    have LM := PySem.W.exm_one (M := model X.prog X.w) J3.kIn LT hb1
    have named : ∀ {Q : Value → Shared → Prop} {E : Value → Shared → Prop}, Q (.ref C) { t1 with heap := h3 } → wpAny (model X.prog X.w) (X.A.mark (some (.ref a))) (eval (.Name x np) X.env) Q E { t1 with heap := h3 } := fun {Q E} q => by
      obtain ⟨hg, hdbg, hm | ⟨hm, hv, hnn⟩⟩ := hc
      · exact ld_glob (X := X.suite a ((a, o3) :: (X.pn ++ pins))) S3 hg hm q hdbg
      · exact ld_blt (X := X.suite a ((a, o3) :: (X.pn ++ pins))) S3 hg hm hv q hnn hdbg
    refine named (LM.here ?_)
    cases b with
    | true =>
      obtain ⟨rfl, wish⟩ := hyes rfl
      refine codeAny_handlers_suite_as ?_
      refine HandSPX.lands_againZ fl3 fun h4 fl4 up4 => ?_
      obtain ⟨o4, v4, at4, z4, d4⟩ := fl4.there
      have J4 := took_inv (s' := t1) J nb ((up.trans up3).trans up4) fl4.1 na fl4.2.1 nfs at4 z4 d4 os ag
      refine store_ok (X := X.suite a (X.pn ++ pins)) (v := .ref a) (J4.suiteK a) hN hi own rfl (fun t5 S5 => ?_) (.inr hln)
      refine wpAny_mono ((hsu a (X.pn ++ pins)).run [] t5 _ _ _ S5 (wish a na)) (fun f t6 hsp => ?_) fun _ _ z => z.elim
      have over : ∀ {σ6 : St} {H6 : Hp} {Q : Shared → Prop}, Inv (X.suite a (X.pn ++ pins)) [] σ6 H6 t6 → (∀ t7, Inv X pins (σ6.set i none) H6 t7 → Q t7) →
          wpAny (model X.prog X.w) X.A (do bindName X.env n .none; unbindBehindTheSuite X.env n pos2) (fun _ t7 => Q t7) X.xe t6 := fun {σ6 H6 Q} S6 hq => gone_ok (S6.unsuiteK okX) hN hi hln hq
      cases f with
      | next => obtain ⟨σ6, H6, S6, q6⟩ := hsp; exact over S6 fun t7 J7 => ⟨_, _, J7, q6⟩
      | brk => obtain ⟨σ6, H6, S6, q6⟩ := hsp; exact over S6 fun t7 J7 => ⟨_, _, J7, q6⟩
      | cont => obtain ⟨σ6, H6, S6, q6⟩ := hsp; exact over S6 fun t7 J7 => ⟨_, _, J7, q6⟩
      | ret u => obtain ⟨v6, σ6, H6, S6, r6, q6⟩ := hsp; exact over S6 fun t7 J7 => ⟨_, _, _, J7, r6, q6⟩
    | false =>
      show wpAny _ X.A (handleBy (.ref a) X.env []) _ _ _
      refine wpAny_handleBy_nil ?_
      obtain ⟨_, _, _, o, vs, T, oT, ts', e1, _, e3, e4, _⟩ := id fl3
      unfold PySem.passOn
      refine wpAny_bind (wpAny_field e1 e3 e4 ?_)
      rw [if_neg (show ¬ ((Value.ref T == Value.none) = true) by simp)]
      have off : wpAny (model X.prog X.w) X.A (setFlight (.ref a) X.env.frame) (fun _ t4 => wpAny (model X.prog X.w) X.A (throw (.ref a) : Sem Flow) (SP X pins D) X.xe t4) X.xe { t1 with heap := h3 } := by
        rw [hfr]
        exact HandSPX.setFlight_upZ fl3 fun h4 hh4 up4 => wpAny_throw (tk _ _ ⟨a, B, sI, pins, σ1, H1, cls, d, rfl, J, nb, (up.trans up3).trans up4, .inr (.inr (by rw [hst]; exact hh4)), na, os, ag, hno rfl⟩)
      first
        | exact wpAny_bind (wpAny_pure (wpAny_bind off))
        | exact wpAny_bind off
end
end L2

/-! t[::-1] of a tuple; tuple(d) of a dict; dicts by data -/
namespace HT
open PySem PyProof.Rows L2
section
variable {prog : Program} {w : World} {A : Around} {E : Value → Shared → Prop} {s : Shared}
theorem adjust_rev (n : Nat) : Builtin.Slice.sliceAdjust none none (-1) (n : Int) = ((n : Int) - 1, -1) := by
  unfold Builtin.Slice.sliceAdjust
  have h1 : ((-1 : Int) < 0) := by omega
  simp only [h1, if_true]
theorem places_rev (n : Nat) : Builtin.Slice.slicePlaces ((n : Int) - 1) (-1) (-1) = n := by
  unfold Builtin.Slice.slicePlaces
  have h1 : ¬ ((-1 : Int) > 0) := by omega
  simp only [h1, if_false]
  by_cases h : (n : Int) - 1 > -1
  · rw [if_pos h, show (- -1 : Int) = 1 by decide, Int.ediv_one]; omega
  · rw [if_neg h]; omega
theorem sliceApplied_rev {sl : Addr} {vs : Value} {n : Nat} {Q : Int × Int × Nat → Shared → Prop} (hs : s.heap.IsSliceOf sl .none .none vs) (ps : IsPart vs (some (-1)))
    (h : Q ((n : Int) - 1, -1, n) s) : wpAny (model prog w) A (Builtin.Slice.sliceApplied (.ref sl) (pure (n : Int))) Q E s := by
  obtain ⟨os, hos, hcs, hds⟩ := id hs
  unfold Builtin.Slice.sliceApplied Builtin.Slice.sliceFields
  refine wpAny_bind (wpAny_bind (wpAny_field hos hds (x := .none) rfl (wpAny_bind (wpAny_field hos hds (x := .none) rfl (wpAny_bind (wpAny_field hos hds (x := vs) rfl (wpAny_pure ?_)))))))
  refine wpAny_bind (slicePart_ ps ?_)
  show wpAny _ _ (if ((-1 : Int) == 0) = true then _ else _) _ _ s
  rw [if_neg (by decide)]
  refine wpAny_bind (slicePart_none (wpAny_bind (slicePart_none (wpAny_bind (wpAny_pure ?_)))))
  show wpAny _ _ (match Builtin.Slice.sliceAdjust none none (-1) (n : Int) with | (lo, hi) => pure (lo, (-1 : Int), Builtin.Slice.slicePlaces lo hi (-1))) _ _ s
  rw [adjust_rev]
  show wpAny _ _ (pure ((n : Int) - 1, (-1 : Int), Builtin.Slice.slicePlaces ((n : Int) - 1) (-1) (-1))) _ _ s
  rw [places_rev]
  exact wpAny_pure h
theorem pick_rev (xs : Array Value) : ((List.range xs.size).filterMap fun (k : Nat) => xs[(((xs.size : Int) - 1) + (k : Int) * (-1)).toNat]?).toArray = xs.toList.reverse.toArray := by
  have e : (List.range xs.size).filterMap (fun (k : Nat) => xs[(((xs.size : Int) - 1) + (k : Int) * (-1)).toNat]?) = ((List.range xs.size).map fun k => xs.size - 1 - k).filterMap (xs[·]?) := by
    rw [List.filterMap_map]
    congr 1
    funext k
    have : (((xs.size : Int) - 1) + (k : Int) * (-1)).toNat = xs.size - 1 - k := by omega
    rw [this]; rfl
  rw [e, PySem.W.krv_range, List.filterMap_reverse, PySem.W.krv_all]
theorem getItem_tuple_rev {t sl : Addr} {items : Array Value} {vs : Value} {Q : Value → Shared → Prop} (ht : IsTup s.heap t items) (hs : s.heap.IsSliceOf sl .none .none vs) (ps : IsPart vs (some (-1)))
    (h : Q (.ref s.heap.objs.size) { s with heap := s.heap.push { cls := .type "tuple", data := .seq items.toList.reverse.toArray } })
    (hsz : items.size ≤ sizeLine) : wpAny (model prog w) A (getItem (.ref t) (.ref sl)) Q E s := by
  obtain ⟨os, hos, hcs, hds⟩ := id hs
  have hTs : s.TypeIs (.ref sl) "slice" := ⟨os, hos, hcs⟩
  have htake : sizeOk (.seq items.toList.reverse.toArray) := by
    show items.toList.reverse.toArray.size ≤ sizeLine
    rw [List.size_toArray, List.length_reverse, Array.length_toList]; exact hsz
  unfold getItem
  try with_reducible refine wpAny_holding ?_
  first | refine wpAny_bind (wpAny_pure ?_) | skip
  refine wpAny_bind (wpAny_sequenceKey ht.typeIs (by decide) ?_)
  refine wpAny_bind (wpAny_callSpecial?_slot (name := Str.ofString "__getitem__") ht.typeIs PyProof.Rows.slot_tuple_getitem
    (wpAny_call_entry PyProof.Rows.slot_tuple_getitem ht.typeIs entry_tuple_getitem ?_ (args_tuple_getitem _ _)))
  show wpAny _ _ (Builtin.Tuple.tupleItemsOf (.ref t) >>= _) _ _ s
  refine wpAny_bind (tupleItemsOf_ ht ?_)
  refine wpAny_bind (wpAny_typeOf hTs ?_)
  rw [if_pos (by decide)]
  refine wpAny_bind (sliceApplied_rev hs ps ?_)
  have hno : ¬ ((((items.size : Int) - 1 == 0) && ((-1 : Int) == 1) && (items.size == items.size)) = true) := by
    intro q
    rw [Bool.and_eq_true, Bool.and_eq_true] at q
    exact absurd q.1.2 (by decide)
  show wpAny _ _ (if (((items.size : Int) - 1 == 0) && ((-1 : Int) == 1) && (items.size == items.size)) = true then _ else _) _ _ s
  rw [if_neg hno, pick_rev]
  first
    | exact wpAny_bind (m := Builtin.Tuple.tupleExact _) (wpAny_newObj_type (wpAny_pure ⟨_, rfl, wpAny_pure h⟩) htake)
    | exact wpAny_bind (m := Builtin.Tuple.tupleExact _) (wpAny_newObj_type (wpAny_bind (wpAny_pure (wpAny_pure ⟨_, rfl, wpAny_pure h⟩))) htake)
    | exact wpAny_bind (wpAny_bind (m := Builtin.Tuple.tupleExact _) (wpAny_newObj_type (wpAny_pure (wpAny_pure ⟨_, rfl, wpAny_pure h⟩)) htake))
    | exact wpAny_bind (wpAny_bind (m := Builtin.Tuple.tupleExact _) (wpAny_newObj_type (wpAny_pure ⟨_, rfl, wpAny_pure h⟩) htake))
end
/-! tuple(x) of what list(x) takes -/
section
variable {prog : Program} {w : World} {A : Around} {E : Value → Shared → Prop} {s : Shared} {T : String} {r d : Addr} {n : Nat} {P : Nat → Value → Prop} {OK : Heap → Prop}
open PySem.W in
theorem collect_kdl {Q : List Value → Shared → Prop} (K : KdlSrc prog w T r d n P OK) (hh : A.handled = none) (hok : OK s.heap) (hn : n ≤ sizeLine)
    (hQ : ∀ (h' : Heap) (tk : Nat) (acc : Array Value), (∀ b o, s.heap.get? b = some o → h'.get? b = some o) → ItemsOf P acc n → Q acc.toList { s with heap := h', toks := tk }) :
    wpAny (model prog w) A (collect (.ref r)) Q E s := by
  unfold collect
  refine wpAny_bind (wpAny_runValue (codeAny_builtin F.entry_proto_collect ?_))
  rw [Around.under_plainId F.plain_proto_collect _]
  show wpAny _ A.in1 (newList [] >>= fun l => again (.builtin "list.__iadd__" ⟨[l, .ref r], []⟩)) _ _ s
  refine wpAny_bind (wpAny_newObj_type ?_)
  refine wpAny_pure ⟨plainId_quiet F.plain_list_iadd _, codeAny_builtin F.entry_list_iadd ?_⟩
  rw [Around.under_plainId F.plain_list_iadd _]
  show wpAny _ A.in1 (Builtin.List.listExtendWith (.ref s.heap.objs.size) (.ref r) (.ref s.heap.objs.size)) _ _ _
  have hS : (s.heap.push { cls := .type "list", data := .seq ([] : List Value).toArray }).get? s.heap.objs.size = some { cls := .type "list", data := .seq #[] 0 } := Heap.get?_push_size _ rfl
  have hlt := K.there _ hok
  refine wpAny_mono (kdl_extend (A := A) (R := fun rr s' => rr = .ok (.ret (.ref s.heap.objs.size)) ∧ ∃ (h' : Heap) (tk : Nat) (acc : Array Value) (c' : Nat), s' = { s with heap := h', toks := tk } ∧
      (∀ b o, s.heap.get? b = some o → h'.get? b = some o) ∧ h'.get? s.heap.objs.size = some { cls := .type "list", dict := none, data := .seq acc c', slots := #[] } ∧ ItemsOf P acc n)
    (s := { s with heap := s.heap.push { cls := .type "list", data := .seq ([] : List Value).toArray } }) K hh (K.keep _ _ hok fun b _ o e => Heap.get?_push_of_some _ e) s.heap.objs.size (Nat.ne_of_gt hlt.1) (Nat.ne_of_gt hlt.2) _ 0 hS
    (fun h' tk acc c' hk e hi => ⟨rfl, h', tk, acc, c', rfl, fun b o q => hk b o (Nat.ne_of_lt (Heap.lt_size q)) (Heap.get?_push_of_some _ q), e, hi⟩) hn) (fun fin s' h => ?_) (fun e s' h => ?_)
  · cases fin with
    | done f =>
      obtain ⟨e, h', tk, acc, c', rfl, hk, hS', hi⟩ := h
      cases e
      show wpAny _ A (load s.heap.objs.size >>= _) _ _ _
      exact wpAny_bind (wpAny_load hS' (wpAny_pure (hQ h' tk acc hk hi)))
    | again c' =>
      refine ⟨h.1, codeAny_mono h.2 fun rr s'' hr' => ?_⟩
      obtain ⟨rfl, h', tk, acc, c', rfl, hk, hS', hi⟩ := hr'
      show wpAny _ A (load s.heap.objs.size >>= _) _ _ _
      exact wpAny_bind (wpAny_load hS' (wpAny_pure (hQ h' tk acc hk hi)))
  · exact absurd h.1 (by simp)
open PySem.W in
theorem code_tuple_new_dict {Q₁ : Value → Shared → Prop} (K : KdlSrc prog w "dict" r d n P OK) (hh : A.handled = none) (hok : OK s.heap) (hn : n ≤ sizeLine)
    (h : ∀ (h' : Heap) (tk : Nat) (acc : Array Value), (∀ b o, s.heap.get? b = some o → h'.get? b = some o) → ItemsOf P acc n →
      Q₁ (.ref h'.objs.size) { s with heap := h'.push { cls := .type "tuple", data := .seq acc }, toks := tk }) :
    codeAny (model prog w) A (.call (.builtin "tuple.__new__") ⟨[.type "tuple", .ref r], []⟩) (wants Q₁ E) s := by
  refine codeAny_of_tree ?_
  show wpAny _ A.in1 (do checkBuiltinCall "tuple.__new__" ⟨[.type "tuple", .ref r], []⟩; again (.builtin "tuple.__new__" ⟨[.type "tuple", .ref r], []⟩)) _ _ s
  refine wpAny_bind (wpAny_of_eq (F.newCall_tuple_1 _) (wpAny_pure ⟨plainId_quiet F.plain_tuple_new _, codeAny_builtin F.entry_tuple_new ?_⟩))
  rw [Around.under_plainId F.plain_tuple_new _]
  have hsub := sub_tuple_self
  have hinit := init_tuple_lookup
  have hmh := madeHere_tuple
  have hTI : s.TypeIs (.ref r) "dict" := K.type s hok
  have hh1 : A.in1.handled = none := hh
  wp_walk using wpAny_typeOf hTI, collect_kdl (A := A.in1) K hh1 hok hn
  intro h' tk acc hk hacc
  show wpAny _ _ (Builtin.Tuple.tupleExact acc.toList.toArray >>= fun v => ret v) _ _ _
  unfold Builtin.Tuple.tupleExact
  refine wpAny_bind (wpAny_newObj_type ?_ (by show acc.toList.toArray.size ≤ sizeLine; simp only [Array.toArray_toList]; rw [hacc.1]; exact hn))
  refine wpAny_pure ?_
  have e : acc.toList.toArray = acc := by simp
  rw [e]
  exact h h' tk acc hk hacc
open PySem.W in
theorem call_tuple_dict {Q : Value → Shared → Prop} (K : KdlSrc prog w "dict" r d n P OK) (hh : A.handled = none) (hok : OK s.heap) (hn : n ≤ sizeLine)
    (hQ : ∀ (h' : Heap) (tk : Nat) (acc : Array Value), (∀ b o, s.heap.get? b = some o → h'.get? b = some o) → ItemsOf P acc n →
      Q (.ref h'.objs.size) { s with heap := h'.push { cls := .type "tuple", data := .seq acc }, toks := tk }) :
    wpAny (model prog w) A (call (.type "tuple") [.ref r]) Q E s := by
  refine callType_codes (Q₁ := fun obj s₁ => s₁.TypeIs obj "tuple" ∧ Q obj s₁) F.called_tuple (F.typeCall_tuple_1 _) F.entry_object_init
    (code_tuple_new_dict (A := A.in1) K hh hok hn fun h' tk acc hk hacc => ⟨⟨_, Heap.get?_push_size _ rfl, rfl⟩, hQ h' tk acc hk hacc⟩) fun obj s₁ h₁ => ?_
  exact ⟨h₁.1, F.args_object_init_2 obj _, object_init_meets F.called_tuple.init.lookup F.called_tuple.made (by decide) prog w A.in1 _ s₁ ⟨h₁.1, rfl, h₁.2⟩⟩
end
end HT
namespace L2
open PySem PySem.Spec PyProof.Rows
section
variable {X : Cx}
def tRevT (K : PySem.W.Frag) (te : TE) : TE := fun σ H Q => te σ H fun x H1 => ∃ a xs, x = .ref a ∧ SqT K H1 a xs ∧ ∀ p, H1 p = none → Q (.ref p) (upd H1 p (.tup xs.reverse))
theorem pe_revT {e : Expr} {te : TE} {k : Nat} {p1 p2 p3 pos : Pos} (he : PE X e te) : PE X (.Subscript e (.Slice none none (some (.UnaryOp .USub (.Constant (.int 1) k p1) p2)) p3) pos) (tRevT X.K te) := by
  refine ⟨fun pins s σ H Q I h => ?_⟩
  refine Subscript_ (thn (he.run pins s σ H _ I h) fun v s1 ⟨x, H1, I1, r1, q1⟩ => ?_)
  obtain ⟨a, xs, ex, hx, q⟩ := q1
  subst ex
  cases r1
  have hst : PO X (some (.UnaryOp .USub (.Constant (.int 1) k p1) p2)) (tPart (tUn (rU fun i => .int (-i)) (tC (.int 1)))) := po_some (pe_un un_neg pe_int)
  refine wpAny_Slice (thn (po_none.run pins s1 σ H1 (fun o H2 => o = none ∧ H2 = H1) I1 ⟨rfl, rfl⟩) fun vl s2 ⟨l, H2, I2, pl, el, e2⟩ => ?_)
  subst el e2
  refine thn (po_none.run pins s2 σ H2 (fun o H3 => o = none ∧ H3 = H2) I2 ⟨rfl, rfl⟩) fun vu s3 ⟨u, H3, I3, pu, eu, e3⟩ => ?_
  subst eu e3
  refine thn (hst.run pins s3 σ H3 (fun o H4 => o = some (-1) ∧ H4 = H3) I3 ⟨1, rfl, -1, rfl, rfl, rfl⟩) fun vs s4 ⟨o, H4, I4, ps, eo, e4⟩ => ?_
  subst eo e4
  have I5 : Inv X pins σ H4 { s4 with heap := s4.heap.push { cls := .type "slice", data := .fields #[vl, vu, vs] } } := I4.kept (t' := s4.toks) fun b ob q => Heap.get?_push_of_some _ q
  obtain ⟨its, r, ht, hz⟩ := I5.tuple hx
  have hlen := r.length
  cases pl
  cases pu
  show wpAny (model X.prog X.w) X.A (subscriptTail e (.Slice none none (some (.UnaryOp .USub (.Constant (.int 1) k p1) p2)) p3) (.ref a) (.ref s4.heap.objs.size)) (EP X pins σ Q) X.xe { s4 with heap := s4.heap.push { cls := .type "slice", data := .fields #[.none, .none, vs] } }
  refine tail_any (ops := [.ref a, .ref s4.heap.objs.size]) ht.typeIs (PyProof.Rows.slot_tuple_getitem.lookup) ?_ (by with_unfolding_all rfl)
  refine HT.getItem_tuple_rev ht (Heap.IsSliceOf.new _ .none .none vs) ps ?_ (by rw [List.size_toArray]; omega)
  refine ⟨.ref _, _, I5.laid (t' := s4.toks) (o := .tup xs.reverse) (fun b ob q => Heap.get?_push_of_some _ q) (Nat.le_refl _) ?_, rfl, q _ (I5.hok.fresh (Nat.le_refl _))⟩
  exact ⟨by rw [List.length_reverse]; exact hz, _, r.reverse, IsTup.new _ _⟩
theorem call_tuple_dT (hc : X.calm = true) : CallR X (.type "tuple") (fun xs H Q => ∃ d kvs, xs = [V.ref d] ∧ Rd H d (.dT kvs) ∧ ∀ p bs, H p = none → IsKeys H kvs bs → Q (.ref p) (upd H p (.tup (bs.map V.ref)))) := by
  intro pins s σ H xs us Q I r h
  obtain ⟨d, kvs, rfl, hd, q⟩ := h
  obtain ⟨u, rfl, rx⟩ := r.one
  cases rx
  obtain ⟨z, hs, ks, pr, o, es, ep, ho, hx, hdt, he, hn⟩ := (show ObjOk X.prog X.w H s.heap d (.dT kvs) from hd.ok I.hok)
  have l1 : es.size = ks.length := size_of_entries he
  have l2 : kvs.length = ks.length := Paired.length pr
  refine HT.call_tuple_dict (kdl_raw hs hx hdt) (I.ok.hd hc) ho (by omega) fun h' tk acc' kp it => ?_
  have ea : acc'.toList = ks.map fun x => Value.ref x.2.1 := by
    have hl : acc'.toList.length = ks.length := by rw [Array.length_toList, it.1]; exact l1
    apply List.ext_getElem?
    intro j
    rw [List.getElem?_map]
    cases hj : acc'.toList[j]? with
    | none =>
      have h1 := List.getElem?_eq_none_iff.mp hj
      rw [List.getElem?_eq_none (by omega)]
      all_goals rfl
    | some v =>
      obtain ⟨en, hen, hv⟩ := it.2 j v (by rw [← Array.getElem?_toList]; exact hj)
      have qe := entry_at he j
      rw [hen] at qe
      cases hb : ks[j]? with
      | none =>
        rw [hb] at qe
        exact nomatch (show some en = none from qe)
      | some b =>
        rw [hb] at qe
        have e2 : en = entryOfKey (tupleKind (mixKind X.prog X.w)) b := Option.some.inj qe
        rw [hv, e2]
        all_goals rfl
  have eb : acc'.toList = (ks.map fun x => x.2.1).map Value.ref := by rw [ea, List.map_map]; all_goals rfl
  have rv : Vals ((ks.map fun x => x.2.1).map V.ref) acc'.toList := by rw [eb]; exact vals_refs _
  have hz : ((ks.map fun x => x.2.1).map V.ref).length ≤ sizeLine := by rw [List.length_map, List.length_map]; omega
  have I1 : Inv X pins σ H { s with heap := h', toks := tk } := I.kept (t' := tk) kp
  have I2 : Inv X pins σ (upd H h'.objs.size (.tup ((ks.map fun x => x.2.1).map V.ref))) { s with heap := h'.push { cls := .type "tuple", data := .seq acc' }, toks := tk } :=
    I1.laid (t' := tk) (fun b o e => Heap.get?_push_of_some _ e) (Nat.le_refl _) (show ObjOk X.prog X.w _ _ _ (.tup _) from ⟨hz, acc'.toList, rv, by rw [Array.toArray_toList]; exact IsTup.new _ _⟩)
  exact ⟨.ref h'.objs.size, _, I2, rfl, q _ _ (I1.hok.fresh (Nat.le_refl _)) (isKeys_of pr)⟩
end
end L2
namespace Dl
open PySem PySem.Spec PyProof.Rows L2 Vx
/-! dicts of one's own -/
section
variable {κ : Type} [DecidableEq κ] {α β : Type}
def dput (kvs : List (κ × α)) (k : κ) (v : α) : List (κ × α) := if (kvs.any fun kv => decide (kv.1 = k)) = true then kvs.map (fun kv => if kv.1 = k then (kv.1, v) else kv) else kvs ++ [(k, v)]
def dval (kvs : List (κ × α)) (k : κ) : Option α := (kvs.find? fun kv => decide (kv.1 = k)).map (·.2)
theorem any_fst (k : κ) : ∀ {ds : List (κ × α)} {kvs : List (κ × β)}, ds.map Prod.fst = kvs.map Prod.fst → (ds.any fun kv => decide (kv.1 = k)) = kvs.any fun kv => decide (kv.1 = k)
  | [], [], _ => rfl
  | [], _ :: _, h => by cases h
  | _ :: _, [], h => by cases h
  | a :: ds, b :: kvs, h => by
    have h2 := List.cons.inj (show a.1 :: ds.map Prod.fst = b.1 :: kvs.map Prod.fst from h)
    rw [List.any_cons, List.any_cons, h2.1, any_fst k h2.2]
theorem map_put_fst (k : κ) (v : α) (ds : List (κ × α)) : (ds.map fun kv => if kv.1 = k then (kv.1, v) else kv).map Prod.fst = ds.map Prod.fst := by
  rw [List.map_map]
  refine List.map_congr_left fun x _ => ?_
  show (if x.1 = k then (x.1, v) else x).1 = x.1
  split <;> rfl
theorem dput_len (kvs : List (κ × α)) (k : κ) (v : α) : (dput kvs k v).length ≤ kvs.length + 1 := by
  unfold dput; split
  · rw [List.length_map]; omega
  · rw [List.length_append]; simp
theorem dput_fst (kvs : List (κ × α)) (k : κ) (v : α) : (dput kvs k v).map Prod.fst = if k ∈ kvs.map Prod.fst then kvs.map Prod.fst else kvs.map Prod.fst ++ [k] := by
  have e : (kvs.any fun kv => decide (kv.1 = k)) = decide (k ∈ kvs.map Prod.fst) := by
    rw [Bool.eq_iff_iff]; simp
  unfold dput; rw [e]
  by_cases c : k ∈ kvs.map Prod.fst
  · rw [if_pos (decide_eq_true c), if_pos c, map_put_fst]
  · rw [if_neg (by simpa using c), if_neg c, List.map_append]; rfl
end
theorem dd_put {κ : Type} [DecidableEq κ] {K : PySem.W.Frag} {F : Hp} {k : κ} {v : V} {d : PyData} (hv : Dd K F v d) : ∀ {ds : List (κ × PyData)} {kvs : List (κ × V)}, ds.map Prod.fst = kvs.map Prod.fst → DdAll K F (kvs.map Prod.snd) (ds.map Prod.snd) →
    DdAll K F ((kvs.map fun kv => if kv.1 = k then (kv.1, v) else kv).map Prod.snd) ((ds.map fun kv => if kv.1 = k then (kv.1, d) else kv).map Prod.snd)
  | [], [], _, _ => .nil
  | [], _ :: _, h, _ => by cases h
  | _ :: _, [], h, _ => by cases h
  | a :: ds, b :: kvs, h, r => by
    have h2 := List.cons.inj (show a.1 :: ds.map Prod.fst = b.1 :: kvs.map Prod.fst from h)
    cases r with
    | cons r1 r2 =>
      refine .cons ?_ (dd_put hv h2.2 r2)
      show Dd K F (if b.1 = k then (b.1, v) else b).2 (if a.1 = k then (a.1, d) else a).2
      rw [h2.1]
      split
      · exact hv
      · exact r1
theorem DdAll.snoc {K : PySem.W.Frag} {F : Hp} {vs : List V} {ds : List PyData} {v : V} {d : PyData} (h : DdAll K F vs ds) (r : Dd K F v d) : DdAll K F (vs ++ [v]) (ds ++ [d]) := h.app (.cons r .nil)
theorem put_rel {κ : Type} [DecidableEq κ] {K : PySem.W.Frag} {F : Hp} {k : κ} {v : V} {d : PyData} {ds : List (κ × PyData)} {kvs : List (κ × V)} (hv : Dd K F v d) (h : ds.map Prod.fst = kvs.map Prod.fst) (r : DdAll K F (kvs.map Prod.snd) (ds.map Prod.snd)) :
    (dput ds k d).map Prod.fst = (putK kvs k v).map Prod.fst ∧ DdAll K F ((putK kvs k v).map Prod.snd) ((dput ds k d).map Prod.snd) := by
  unfold dput putK
  rw [any_fst k h]
  split
  · exact ⟨by rw [map_put_fst, map_put_fst, h], dd_put hv h r⟩
  · exact ⟨by rw [List.map_append, List.map_append, h]; rfl, by rw [List.map_append, List.map_append]; exact r.snoc hv⟩
theorem kV_of {K : PySem.W.Frag} {F : Hp} {v : V} : ∀ {k : Key}, Dd K F v (keyD k) → v = kV k
  | .inl _, h => by cases h; rfl
  | .inr _, h => by cases h; rfl
theorem dd_kV {K : PySem.W.Frag} {F : Hp} : ∀ k : Key, Dd K F (kV k) (keyD k)
  | .inl i => .int i
  | .inr x => .str x
theorem kVs_of {K : PySem.W.Frag} {F : Hp} : ∀ {ks : List Key} {vs : List V}, DdAll K F vs (ks.map keyD) → vs = ks.map kV
  | [], _, h => by cases h; rfl
  | _ :: _, _, h => by
    cases h with
    | cons a r => rw [kV_of a, kVs_of r]; rfl
theorem dd_kVs {K : PySem.W.Frag} {F : Hp} : ∀ ks : List Key, DdAll K F (ks.map kV) (ks.map keyD)
  | [] => .nil
  | k :: ks => .cons (dd_kV k) (dd_kVs ks)
section
variable {X : Cx} {st : Stmt} {pos : Pos} {e : Expr}
/-- x = {} -/
def sNewU (i : Nat) (u : DU) : FS := fun Q E => Q.nx (E.set i (some (.dct u)))
theorem At.newU {K : PySem.W.Frag} {C : Ctx} {σ : L2.St} {H F : Hp} {E : Env'} (I : At K C σ H F E) {p : Addr} (n : H p = none) {i : Nat} {o : HO} {u : DU} (nt : NT o) (r : DuR K F o u) : At K C (σ.set i (some (.ref p))) (upd H p o) F (E.set i (some (.dct u))) := by
  have nf := I.z.fin p n
  have I2 := I.step (.newO n o) (I.z.newO nf o)
  refine I2.set (sv := .dct u) ⟨p, o, rfl, I.new0 n, nf, upd_same, r⟩ (fun _ _ _ z => by cases z) fun j u t e ne ej hj => ?_
  obtain ⟨v, hv, a, q, ev, h0, hf, hh, _⟩ := I.s j _ ej
  rw [hj] at hv; cases hv; cases ev
  rw [n] at hh; cases hh
theorem newT_imp {i : Nat} : ∀ D σ H, tS X (sNewU i (.t [])) D σ H → tAsg tDNewT (gName i) D σ H := fun D σ H ⟨C, F, E, Q, I, q, L⟩ => fun p hp =>
  L.nx _ _ F _ (I.newU (u := .t []) hp (by intro _ z; cases z) ⟨[], rfl, rfl, .nil⟩) (.refl F) q
theorem newK_imp {i : Nat} : ∀ D σ H, tS X (sNewU i (.k [])) D σ H → tAsg tDNewK (gName i) D σ H := fun D σ H ⟨C, F, E, Q, I, q, L⟩ => fun p hp =>
  L.nx _ _ F _ (I.newU (u := .k []) hp (by intro _ z; cases z) ⟨[], rfl, rfl, .nil⟩) (.refl F) q
theorem q_newT {i : Nat} {x : Str} {dp pos' : Pos} (hN : X.N.Nodup) (hi : X.N[i]? = some x) (hx : Loc X.env.scope x) (hs : swapsWith (.Dict [] [] dp) (some (.Name x pos')) pos.line X.env = pure false := by rfl) (hf : X.fn x = true ∨ X.env.scope.names.lookup x = some .local := by first | exact .inl rfl | exact .inr rfl | assumption) :
    pS X (.Assign [.Name x pos'] (.Dict [] [] dp) pos) (sNewU i (.t [])) := PS.imp (ps_set hN hi hx pe_dnewT hs hf) newT_imp
theorem q_newK {i : Nat} {x : Str} {dp pos' : Pos} (hN : X.N.Nodup) (hi : X.N[i]? = some x) (hx : Loc X.env.scope x) (hs : swapsWith (.Dict [] [] dp) (some (.Name x pos')) pos.line X.env = pure false := by rfl) (hf : X.fn x = true ∨ X.env.scope.names.lookup x = some .local := by first | exact .inl rfl | exact .inr rfl | assumption) :
    pS X (.Assign [.Name x pos'] (.Dict [] [] dp) pos) (sNewU i (.k [])) := PS.imp (ps_set hN hi hx pe_dnewK hs hf) newK_imp
/-- x[k] = v -/
def sPutU (j : Nat) (fk fv : FE) : FS := fun Q E => fv E fun d => match E[j]? with
  | some (some (.dct (.k ds))) => fk E fun y => ∃ k : Key, y = keyD k ∧ ds.length < sizeLine ∧ Q.nx (E.set j (some (.dct (.k (dput ds k d)))))
  | some (some (.dct (.t ds))) => fk E fun y => ∃ k : List Key, y = .tuple (k.map keyD) ∧ ds.length < sizeLine ∧ Q.nx (E.set j (some (.dct (.t (dput ds k d)))))
  | _ => False
theorem fst_len {κ α β : Type} {ds : List (κ × α)} {kvs : List (κ × β)} (h : ds.map Prod.fst = kvs.map Prod.fst) : ds.length = kvs.length := by
  have := congrArg List.length h; simpa using this
theorem At.putU {K : PySem.W.Frag} {C : Ctx} {σ : L2.St} {H F : Hp} {E : Env'} (I : At K C σ H F E) {j : Nat} {u u' : DU} (e : E[j]? = some (some (.dct u))) : ∃ a o, σ[j]? = some (some (.ref a)) ∧ H a = some o ∧ DuR K F o u ∧ ∀ o', DuR K F o' u' → At K C σ (upd H a o') F (E.set j (some (.dct u'))) := by
  obtain ⟨v, hv, a, o, rfl, h0, hf, hh, r⟩ := I.s j _ e
  exact ⟨a, o, hv, hh, r, fun o' r' => I.mutD e hv hh h0 hf r r'⟩
theorem q_putU {j : Nat} {o i : Expr} {fi fe : FE} {ip : Pos} (hu : X.A.units + 1 < cLine) (ho : PE X o (tVar j)) (hi : pD X i fi) (he : pD X e fe) (hs : swapsWith e (some (.Subscript o i ip)) pos.line X.env = pure false := by rfl) :
    pS X (.Assign [.Subscript o i ip] e pos) (sPutU j fi fe) := PS.imp (ps_dput hu ho hi he hs) fun D σ H ⟨C, F, E, Q, I, q, L⟩ =>
  ⟨C, F, E, _, I, q, fun v H1 F1 d w1 z1 r1 q1 => by
    have I1 := I.step w1 z1
    split at q1
    · rename_i ds hd
      obtain ⟨a0, o0, hv, hh0, _, _⟩ := I1.putU (u' := .k ds) hd
      refine ⟨_, hv, C, F1, E, _, I1, q1, fun y H2 F2 e2 w2 z2 r2 ⟨k, ey, hl, q2⟩ => ?_⟩
      subst ey
      have I2 := I1.step w2 z2
      obtain ⟨a, o, hv', hh, r, m⟩ := I2.putU (u' := .k (dput ds k d)) hd
      rw [hv] at hv'; cases hv'
      obtain ⟨kvs, rfl, hf, rr⟩ := r
      rw [kV_of r2]
      obtain ⟨p1, p2⟩ := put_rel (k := k) (Dd.le w2.fro r1) hf rr
      exact ⟨a0, _, rfl, DPut.k hh (by rw [← fst_len hf]; exact hl), L.nx _ _ F2 _ (m _ ⟨_, rfl, p1, p2⟩) (w1.fro.trans w2.fro) q2⟩
    · rename_i ds hd
      obtain ⟨a0, o0, hv, hh0, _, _⟩ := I1.putU (u' := .t ds) hd
      refine ⟨_, hv, C, F1, E, _, I1, q1, fun y H2 F2 e2 w2 z2 r2 ⟨k, ey, hl, q2⟩ => ?_⟩
      subst ey
      have I2 := I1.step w2 z2
      obtain ⟨a, o, hv', hh, r, m⟩ := I2.putU (u' := .t (dput ds k d)) hd
      rw [hv] at hv'; cases hv'
      obtain ⟨kvs, rfl, hf, rr⟩ := r
      cases r2 with
      | tup ht ra =>
        have ek := kVs_of ra
        subst ek
        obtain ⟨p1, p2⟩ := put_rel (k := k) (Dd.le w2.fro r1) hf rr
        exact ⟨a0, _, rfl, DPut.t hh (z2.sub.t _ _ ht) (by rw [← fst_len hf]; exact hl), L.nx _ _ F2 _ (m _ ⟨_, rfl, p1, p2⟩) (w1.fro.trans w2.fro) q2⟩
    · exact q1.elim⟩
/-- tuple(x) of a dict of one's own -/
def wTupU (i : Nat) : FE := fun E Q => match E[i]? with
  | some (some (.dct (.t ds))) => Q (.tuple (ds.map fun p => .tuple (p.1.map keyD)))
  | _ => False
theorem keys_dd {K : PySem.W.Frag} {H F : Hp} : ∀ {kvs : List (List Key × V)} {bs : List Addr} {ds : List (List Key × PyData)}, ds.map Prod.fst = kvs.map Prod.fst → IsKeys H kvs bs → (∀ b ∈ bs, F b = H b) → DdAll K F (bs.map V.ref) (ds.map fun p => .tuple (p.1.map keyD))
  | [], [], [], _, _, _ => .nil
  | [], _ :: _, _, _, h, _ => nomatch h
  | _ :: _, [], _, _, h, _ => nomatch h
  | [], [], _ :: _, h, _, _ => by cases h
  | _ :: _, _ :: _, [], h, _, _ => by cases h
  | a :: kvs, b :: bs, d :: ds, h, .cons hb hr, m => by
    have h2 := List.cons.inj (show d.1 :: ds.map Prod.fst = a.1 :: kvs.map Prod.fst from h)
    refine .cons ?_ (keys_dd h2.2 hr fun c hc => m c (List.mem_cons_of_mem _ hc))
    show Dd K F (V.ref b) (PyData.tuple (d.1.map keyD))
    rw [h2.1]
    exact .tup (by rw [m b (List.mem_cons_self ..)]; exact hb) (dd_kVs _)
theorem keys_tup {H : Hp} : ∀ {kvs : List (List Key × V)} {bs : List Addr}, IsKeys H kvs bs → ∀ b ∈ bs, ∃ xs, H b = some (.tup xs)
  | _, _, .cons hb hr, b, m => by
    rcases List.mem_cons.mp m with rfl | m
    · exact ⟨_, hb⟩
    · exact keys_tup hr b m
theorem pd_tupU {i : Nat} {p : Pos} (hc : X.calm = true) (hg : Gl X "tuple") (hm : X.mg "tuple" = none) (he : PE X e (tVar i)) (na : starEach [e] X.env = (false, eval e X.env) :: starEach [] X.env := by rfl) :
    pD X (.Call (.Name "tuple" p) [e] [] pos) (wTupU i) := PE.imp (pe_callTy (call_tuple_dT hc) hg hm (by decide +kernel) (pa_cons he pa_nil na) (by decide) (by decide) na) fun σ H Q ⟨C, F, E, Qd, I, q, k⟩ => by
  unfold wTupU at q
  split at q
  · rename_i ds hd
    obtain ⟨a, o, hv, hh, ⟨kvs, rfl, hf, rr⟩, _⟩ := I.putU (u' := .t ds) hd
    refine ⟨_, hv, a, kvs, rfl, .inl hh, fun t bs hp hk => ?_⟩
    obtain ⟨w, z⟩ := Wd.tups (hs := C.hs) (bs := bs) I.z (keys_tup hk)
    have s : Le (withT H F bs) (upd (withT H F bs) t (.tup (bs.map V.ref))) := .of (same_new (z.fin t hp) _)
    refine k (.ref t) _ (upd (withT H F bs) t (.tup (bs.map V.ref))) _ (w.trans (.newF z hp _)) (z.newF hp _) (.tup upd_same (DdAll.le s (keys_dd hf hk fun b m => withT_at m))) q
  · exact q.elim
/-! x[::-1] -/
def gRev (d : PyData) (Q : PyData → Prop) : Prop := match d with
  | .tuple ds => Q (.tuple ds.reverse)
  | _ => False
theorem DdAll.rev {K : PySem.W.Frag} {F : Hp} : ∀ {vs : List V} {ds : List PyData}, DdAll K F vs ds → DdAll K F vs.reverse ds.reverse
  | _, _, .nil => .nil
  | _, _, .cons a r => by rw [List.reverse_cons, List.reverse_cons]; exact (DdAll.rev r).snoc a
theorem pd_revT {f : FE} {k : Nat} {p1 p2 p3 : Pos} (he : pH X e f) : pD X (.Subscript e (.Slice none none (some (.UnaryOp .USub (.Constant (.int 1) k p1) p2)) p3) pos) (wUn gRev f) := PE.imp (pe_revT he) fun σ H Q ⟨C, F, E, Qd, I, q, k⟩ =>
  ⟨C, F, E, _, I, q, fun v H1 F1 d w1 z1 r1 q1 => by
    unfold gRev at q1
    split at q1
    · obtain ⟨a, xs, rfl, ht, ra⟩ := r1.tupF
      refine ⟨a, xs, rfl, SqT.of (z1.sub.t _ _ ht), fun p hp => ?_⟩
      exact k _ _ _ _ (w1.trans (.newF z1 hp _)) (z1.newF hp _) (.tup upd_same (DdAll.le (.of (same_new (z1.fin p hp) _)) ra.rev)) q1
    · exact q1.elim⟩
/-! in, not in, of lists -/
def gIn : G2 := fun d e Q => match e with
  | .list ds => SeqAt.shaped d = true ∧ SeqAt.shaped (.list ds) = true ∧ Q (.bool (ds.any fun z => PyData.eqv z d))
  | _ => False
def gNotIn : G2 := fun d e Q => match e with
  | .list ds => SeqAt.shaped d = true ∧ SeqAt.shaped (.list ds) = true ∧ Q (.bool (!ds.any fun z => PyData.eqv z d))
  | _ => False
theorem in_d {K : PySem.W.Frag} : OpD K (rInD K) gIn := by
  intro hs H F x y d e Qd Q z rx ry g k
  unfold gIn at g
  split at g
  · obtain ⟨s1, s2, g⟩ := g
    exact ⟨d, _, rx.dp z (noD_lay d (SeqAt.canLay_of_shaped s1)), ry.dp z (noD_lay _ (SeqAt.canLay_of_shaped s2)), s1, s2, k _ H F _ (.refl _ _ _) z (.bl _) g⟩
  · exact g.elim
theorem notIn_d {K : PySem.W.Frag} : OpD K (rNotInD K) gNotIn := by
  intro hs H F x y d e Qd Q z rx ry g k
  unfold gNotIn at g
  split at g
  · obtain ⟨s1, s2, g⟩ := g
    exact ⟨d, _, rx.dp z (noD_lay d (SeqAt.canLay_of_shaped s1)), ry.dp z (noD_lay _ (SeqAt.canLay_of_shaped s2)), s1, s2, k _ H F _ (.refl _ _ _) z (.bl _) g⟩
  · exact g.elim
end
end Dl

/-! a law that looks at its script again; min of two ints; cells by data -/
namespace Dl
open PySem PySem.Spec PyProof.Rows L2 Vx
section
variable {P : Program} {w : World} {K : PySem.W.Frag} {mg : Str → Option Value} {base : Heap}
theorem okLawS {qual : Str} {st : Stmt} {f : Addr} {fd : FuncData} {N : List Str} {k : Nat} {g : FS} {rest : List Stmt} {s0 : Stmt} (F : Fun K "law" qual st f fd) (Sc : FnScope N ["script"] (defScope st)) (hbody : defBody st = s0 :: rest) (hN : 2 ≤ N.length)
    (h0 : ∀ (cdv : Value) (A : Around) (o : List Env) (s : Shared) (H : Hp) (E : XK), Rm k (A.deeper (envOfC qual (defScope st) s.heap.objs.size f cdv)) →
      PS (cxOf CX0 P w K mg base N qual (defScope st) f cdv A o s H E).nox s0 (tAsg (tCall (sp_law_penD K) [] (fun _ _ _ => False) (tCons (tVar 0) tNil)) (gName 1)))
    (hb : ∀ (cdv : Value) (A : Around) (o : List Env) (s : Shared) (H : Hp) (E : XK), Rm k (A.deeper (envOfC qual (defScope st) s.heap.objs.size f cdv)) → pSs (cxOf CX0 P w K mg base N qual (defScope st) f cdv A o s H E).nox rest g)
    (hs : ∀ ns : List Int, ns.length ≤ 63 → g { nx := fun _ => False, rt := fun r => r = .d (.bool true) } (((List.replicate N.length none).set 1 (some .pen)).set 0 (some (.scr ns)))) : FnG P w K mg base CX0 (k + 1) f fd ["script"] (sp_law0 K) := by
  refine okG F Sc (fun vs H Q E h => ?_) (fun cdv A o s H vs Q E hr h => ?_)
  · obtain ⟨a, ns, rfl, _⟩ := h
    rfl
  obtain ⟨a, ns, rfl, hS, hlen, done⟩ := h
  refine ⟨_, hbody ▸ pss_cons (h0 cdv A o s H E hr) (hb cdv A o s H E hr), ?_⟩
  refine ⟨_, rfl, a, ns, rfl, hS, fun H' p c ms s1 np nc ne e1 e2 => ?_⟩
  have len : (((L2.start N [V.ref a]).set 1 (some (.ref p))) : L2.St).length = N.length := by
    rw [List.length_set]; unfold L2.start; rw [List.length_append, List.length_map, List.length_replicate]; simp; omega
  have I := rest_at (K := K) (σ := (L2.start N [V.ref a]).set 1 (some (.ref p))) e1 e2 ne (i := 1) (List.getElem?_set_self (by rw [List.length_set] at len; rw [len]; omega))
  rw [len] at I
  have hs0 : ((L2.start N [V.ref a]).set 1 (some (.ref p)))[0]? = some (some (V.ref a)) := by
    rw [List.getElem?_set_ne (by decide)]; rfl
  have es : (((L2.start N [V.ref a]).set 1 (some (.ref p))).set 0 (some (V.ref a)) : L2.St) = (L2.start N [V.ref a]).set 1 (some (.ref p)) := by
    refine List.ext_getElem? fun i => ?_
    by_cases c : 0 = i
    · subst c; rw [List.getElem?_set_self (by rw [len]; omega), hs0]
    · rw [List.getElem?_set_ne c]
  have sc : SvR K ⟨H', fun b => if b = c then some (.lst (ms.map V.int)) else none, [p]⟩ (fun b => if b = c then some (.lst (ms.map V.int)) else none) H' (.ref a) (.scr ns) := by
    refine ⟨a, rfl, ?_⟩
    rcases hS with hS | hS
    · left
      obtain ⟨o, ho, hq⟩ : ∃ o, H a = some o ∧ (o = .lst (ns.map V.int) ∨ ∃ ob, o = .frz ob (.lst (ns.map V.int))) := by
        rcases hS with h | ⟨ob, h⟩
        · exact ⟨_, h, .inl rfl⟩
        · exact ⟨_, h, .inr ⟨_, rfl⟩⟩
      have nea : a ≠ p := ne_of_none ho np
      have nec : a ≠ c := ne_of_none ho nc
      exact ⟨by simpa using nea, if_neg nec, ⟨o, s1 _ _ ho⟩, o, s1 _ _ ho, hq⟩
    · exact .inr fun _ => .inr hS
  have I2 := I.set (i := 0) (v := .ref a) (sv := .scr ns) sc (fun _ _ _ z => by cases z)
  rw [es] at I2
  refine ⟨_, _, _, _, I2, hs ns hlen, ⟨fun _ _ _ _ _ _ q => q.elim, fun _ _ _ _ _ _ q => q.elim, fun _ _ _ _ _ _ q => q.elim, fun v H2 F2 r _ _ rr q => ?_, fun _ _ _ _ _ _ _ _ _ _ _ q => q.elim⟩⟩
  subst q
  cases rr
  exact done H2
end
section
variable {X : Cx} {a b e : Expr} {fa fb : FE} {p pos : Pos}
/-- len(script) -/
def wLenS (i : Nat) : FE := fun E Q => match E[i]? with
  | some (some (.scr ns)) => Q (.int ns.length)
  | _ => False
theorem pd_lenS {i : Nat} (he : PE X e (tVar i)) (hg : Gl X "len") (hm : X.mg "len" = none) (na : starEach [e] X.env = (false, eval e X.env) :: starEach [] X.env := by rfl) :
    pD X (.Call (.Name "len" p) [e] [] pos) (wLenS i) := PE.imp (pe_callB call_len_seq hg hm (by decide +kernel) (pa_cons he pa_nil na) (by decide) (by decide) na) fun σ H Q ⟨C, F, E, Qd, I, q, k⟩ => by
  unfold wLenS at q
  split at q
  · rename_i ns hd
    obtain ⟨v, hv, a, rfl, r⟩ := I.s i _ hd
    have hl : SqL X.K H a (ns.map V.int) := by
      rcases r with ⟨_, _, _, o, ho, rfl | ⟨ob, rfl⟩⟩ | h
      · exact SqL.of ho
      · exact .inl (.inr ⟨_, ho⟩)
      · exact h H
    refine ⟨_, hv, a, _, rfl, .inl hl, ?_⟩
    rw [List.length_map]
    exact k _ H F _ (.refl _ _ _) I.z (.int _) q
  · exact q.elim
theorem pd_min2 (ha : pD X a fa) (hb : pD X b fb) (hc : X.calm = true) (hg : Gl X "min") (hm : X.mg "min" = none) (hs : starEach [a, b] X.env = (false, eval a X.env) :: starEach [b] X.env := by rfl) (hs2 : starEach [b] X.env = (false, eval b X.env) :: starEach [] X.env := by rfl)
    (hpl : (backTo pos (starEach [b] X.env)).any (·.1) = false := by rfl) : pD X (.Call (.Name "min" p) [a, b] [] pos) (w2I (fun i j => if j < i then j else i) fa fb) := PE.imp (pe_callB (call_min2 hc) hg hm (by decide +kernel) (pa_cons ha (pa_cons hb pa_nil hs2) hs) (by decide) (by decide) hs hpl) fun σ H Q ⟨C, F, E, Qd, I, q, k⟩ =>
  ⟨C, F, E, _, I, q, fun v H1 F1 d w1 z1 r1 q1 => ⟨C, F1, E, _, I.step w1 z1, q1, fun v2 H2 F2 d2 w2 z2 r2 q2 => by
    cases d with
    | int i => cases d2 with
      | int j =>
        cases r1; cases r2
        exact ⟨i, j, rfl, k _ H2 F2 _ (w1.trans w2) z2 (.int _) q2⟩
      | _ => exact q2.elim
    | _ => cases d2 <;> exact q2.elim⟩⟩
end
theorem u65 {k : Nat} {A : Around} (r : Rm k A) : A.units + 65 < cLine := by have := r.r.un; omega
/-! keys, cells -/
theorem eqv_key : ∀ a b : Key, PyData.eqv (keyD a) (keyD b) = decide (a = b)
  | .inl i, .inl j => by
    show (i == j) = _
    by_cases h : i = j
    · subst h; simp
    · rw [decide_eq_false (fun z => h (Sum.inl.inj z))]; simpa using h
  | .inl _, .inr _ => by rw [decide_eq_false (fun z => by cases z)]; rfl
  | .inr _, .inl _ => by rw [decide_eq_false (fun z => by cases z)]; rfl
  | .inr x, .inr y => by
    show (x == y) = _
    by_cases h : x = y
    · subst h; simp
    · rw [decide_eq_false (fun z => h (Sum.inr.inj z))]; exact beq_eq_false_iff_ne.mpr h
theorem eqv_keys : ∀ a b : List Key, PyData.eqvAll (a.map keyD) (b.map keyD) = decide (a = b)
  | [], [] => rfl
  | [], _ :: _ => by rw [decide_eq_false (fun z => by cases z)]; rfl
  | _ :: _, [] => by rw [decide_eq_false (fun z => by cases z)]; rfl
  | a :: as, b :: bs => by
    show (PyData.eqv (keyD a) (keyD b) && PyData.eqvAll (as.map keyD) (bs.map keyD)) = _
    rw [eqv_key, eqv_keys as bs, ← Bool.decide_and]
    congr 1
    rw [List.cons.injEq]
theorem sml_str {x : Str} {w : Nat} (h : OkC x.cps.toList) (l : x.cps.size ≤ w) : Sml 0 w (.str x) := ⟨(okc_iff x).mpr h, rfl, rfl, rfl, Nat.le_refl _, l⟩
theorem iteP {c A B : Prop} [Decidable c] (h : c) (a : A) : if c then A else B := by rw [if_pos h]; exact a
theorem iteQ {c A B : Prop} [Decidable c] (h : ¬ c) (a : B) : if c then A else B := by rw [if_neg h]; exact a
section
variable {Q : DEnds} {E : Env'} {g : FS}
theorem S_forP {fi : FL} {fg : FG} (P : List PyData → Prop) (J : Nat → Env' → Prop) (h : ∀ k : List PyData → Prop, (∀ ds, P ds → k ds) → fi E k) (h0 : J 0 E) (hs : ∀ ds, P ds → ∀ (i : Nat) d E', ds[i]? = some d → J i E' → fg d E' fun E2 => g { nx := J (i + 1), ct := J (i + 1), bk := Q.nx, rt := Q.rt, xx := Q.xx } E2) (he : ∀ ds, P ds → ∀ E', J ds.length E' → Q.nx E') : sFor fi fg g Q E := h _ fun ds hp => ⟨J, h0, hs ds hp, he ds hp⟩
theorem S_newU {i : Nat} {u : DU} {E' : Env'} (e : E.set i (some (.dct u)) = E') (h : Q.nx E') : sNewU i u Q E := by
  unfold sNewU; rw [e]; exact h
end
end Dl

/-! dicts as data, or of one's own, asked; sorted, set; repr of data with dicts -/
namespace Dl
open PySem PySem.Spec PyProof.Rows L2 Vx
abbrev Gd := List (Key × PyData)
def dicD (g : Gd) : PyData := .dict (g.map fun p => (keyD p.1, p.2))
theorem keyD_inj : ∀ {a b : Key}, keyD a = keyD b → a = b
  | .inl _, .inl _, h => by cases h; rfl
  | .inr _, .inr _, h => by cases h; rfl
  | .inl _, .inr _, h => by cases h
  | .inr _, .inl _, h => by cases h
theorem keyDs_inj : ∀ {as bs : List Key}, as.map keyD = bs.map keyD → as = bs
  | [], [], _ => rfl
  | [], _ :: _, h => by cases h
  | _ :: _, [], h => by cases h
  | a :: as, b :: bs, h => by
    have h2 := List.cons.inj (show keyD a :: as.map keyD = keyD b :: bs.map keyD from h)
    rw [keyD_inj h2.1, keyDs_inj h2.2]
theorem fst_map (g : Gd) : (g.map fun p => (keyD p.1, p.2)).map Prod.fst = (g.map Prod.fst).map keyD := by rw [List.map_map, List.map_map]; rfl
theorem snd_map (g : Gd) : (g.map fun p => (keyD p.1, p.2)).map Prod.snd = g.map Prod.snd := by rw [List.map_map]; rfl
theorem dicD_inj {g h : Gd} (e : dicD g = dicD h) : g = h := by
  unfold dicD at e
  simp only [PyData.dict.injEq] at e
  have e1 := keyDs_inj ((fst_map g).symm.trans ((congrArg (List.map Prod.fst) e).trans (fst_map h)))
  have e2 := (snd_map g).symm.trans ((congrArg (List.map Prod.snd) e).trans (snd_map h))
  have : ∀ {a b : Gd}, a.map Prod.fst = b.map Prod.fst → a.map Prod.snd = b.map Prod.snd → a = b := by
    intro a
    induction a with
    | nil => intro b h1 _; cases b with
      | nil => rfl
      | cons _ _ => cases h1
    | cons x a ih => intro b h1 h2; cases b with
      | nil => cases h1
      | cons y b =>
        simp only [List.map_cons, List.cons.injEq] at h1 h2
        rw [ih h1.2 h2.2, Prod.ext h1.1 h2.1]
  exact this e1 e2
/-- a dict with these keys and data, in H -/
def DgR (K : PySem.W.Frag) (H F : Hp) (v : V) (g : Gd) : Prop := ∃ a kvs, v = .ref a ∧ Rd H a (.dK kvs) ∧ g.map Prod.fst = kvs.map Prod.fst ∧ DdAll K F (kvs.map Prod.snd) (g.map Prod.snd)
theorem Dd.dicR {K : PySem.W.Frag} {F : Hp} {v : V} {g : Gd} (h : Dd K F v (dicD g)) : DgR K F F v g := by
  unfold dicD at h
  generalize hd : PyData.dict (g.map fun p => (keyD p.1, p.2)) = d at h
  cases h with
  | dic hr hf hs =>
    cases hd
    refine ⟨_, _, rfl, hr, keyDs_inj ?_, by rwa [snd_map] at hs⟩
    rw [← fst_map, hf, List.map_map]; rfl
  | dit hr hf hs =>
    cases g with
    | nil => cases hd
    | cons p g =>
      simp only [List.map_cons, PyData.dict.injEq, List.cons.injEq, Prod.mk.injEq] at hd
      obtain ⟨⟨h1, _⟩, _⟩ := hd
      cases hk : p.1 with
      | inl _ => rw [hk] at h1; cases h1
      | inr _ => rw [hk] at h1; cases h1
  | obj hr hf hs =>
    cases g with
    | nil => cases hd
    | cons p g =>
      simp only [List.map_cons, PyData.dict.injEq, List.cons.injEq, Prod.mk.injEq] at hd
      obtain ⟨⟨h1, _⟩, _⟩ := hd
      cases hk : p.1 with
      | inl _ => rw [hk] at h1; cases h1
      | inr _ => rw [hk] at h1; cases h1
  | _ => cases hd
theorem DgR.dd {K : PySem.W.Frag} {F : Hp} {v : V} {g : Gd} : DgR K F F v g → Dd K F v (dicD g) := fun ⟨a, kvs, e, hr, hf, hs⟩ => by
  subst e
  refine .dic hr ?_ (by rw [snd_map]; exact hs)
  rw [fst_map, hf, List.map_map]; rfl
/-- data, or a dict of one's own -/
def OwU (K : PySem.W.Frag) (hs : List Addr) (H F : Hp) (v : V) (g : Gd) : Prop := Dd K F v (dicD g) ∨ ∃ a kvs, v = .ref a ∧ a ∉ hs ∧ F a = none ∧ H a = some (.dK kvs) ∧ g.map Prod.fst = kvs.map Prod.fst ∧ DdAll K F (kvs.map Prod.snd) (g.map Prod.snd)
theorem OwU.step {K : PySem.W.Frag} {hs : List Addr} {H F H' F' : Hp} {v : V} {g : Gd} (h : OwU K hs H F v g) (w : Wd hs H F H' F') : OwU K hs H' F' v g := by
  rcases h with h | ⟨a, kvs, rfl, na, hf, hh, h1, h2⟩
  · exact .inl (Dd.le w.fro h)
  · exact .inr ⟨a, kvs, rfl, na, w.out a _ hh hf, w.keep a _ hh hf na, h1, DdAll.le w.fro h2⟩
theorem OwU.r {K : PySem.W.Frag} {hs : List Addr} {H F : Hp} {v : V} {g : Gd} (h : OwU K hs H F v g) (z : Fz H F) : DgR K H F v g := by
  rcases h with h | ⟨a, kvs, rfl, na, hf, hh, h1, h2⟩
  · obtain ⟨a, kvs, e, hr, r⟩ := h.dicR
    exact ⟨a, kvs, e, z.sub.r _ _ trivial hr, r⟩
  · exact ⟨a, kvs, rfl, .inl hh, h1, h2⟩
theorem val_at {K : PySem.W.Frag} {F : Hp} {k : Key} : ∀ {g : Gd} {kvs : List (Key × V)}, g.map Prod.fst = kvs.map Prod.fst → DdAll K F (kvs.map Prod.snd) (g.map Prod.snd) →
    (dval g k = none ∧ valV kvs k = none) ∨ ∃ d v, dval g k = some d ∧ valV kvs k = some v ∧ Dd K F v d
  | [], [], _, _ => .inl ⟨rfl, rfl⟩
  | [], _ :: _, h, _ => by cases h
  | _ :: _, [], h, _ => by cases h
  | a :: g, b :: kvs, h, r => by
    have h2 := List.cons.inj (show a.1 :: g.map Prod.fst = b.1 :: kvs.map Prod.fst from h)
    cases r with
    | cons r1 r2 =>
      by_cases c : b.1 = k
      · refine .inr ⟨a.2, b.2, ?_, valV_pos c, r1⟩
        have : a.1 = k := h2.1.trans c
        simp [dval, List.find?_cons, this]
      · have : ¬ a.1 = k := fun z => c (h2.1.symm.trans z)
        rw [valV_neg c, show dval (a :: g) k = dval g k by simp [dval, List.find?_cons, this]]
        exact val_at h2.2 r2
abbrev FU := Env' → (Gd → Prop) → Prop
def tU (K : PySem.W.Frag) (f : FU) : TE := fun σ H Q => ∃ C F E Qd, At K C σ H F E ∧ f E Qd ∧ ∀ v H' F' g, Wd C.hs H F H' F' → Fz H' F' → OwU K C.hs H' F' v g → Qd g → Q v H'
abbrev pU (X : Cx) (e : Expr) (f : FU) : Prop := PE X e (tU X.K f)
section
variable {X : Cx} {a b e : Expr} {fa fb f : FE} {fu : FU} {p pos : Pos}
def uVar (i : Nat) : FU := fun E Q => match E[i]? with
  | some (some (.d d)) => ∃ g, d = dicD g ∧ Q g
  | some (some (.dct (.k g))) => Q g
  | _ => False
def uD (f : FE) : FU := fun E Q => f E fun d => ∃ g, d = dicD g ∧ Q g
theorem pu_var {i : Nat} (h : PE X e (tVar i)) : pU X e (uVar i) := PE.imp h fun σ H Q ⟨C, F, E, Qd, I, q, k⟩ => by
  unfold uVar at q
  split at q
  · rename_i d hd
    obtain ⟨v, hv, r⟩ := I.s i _ hd
    obtain ⟨g, rfl, q⟩ := q
    exact ⟨v, hv, k v H F g (.refl _ _ _) I.z (.inl r) q⟩
  · rename_i g hd
    obtain ⟨v, hv, a, o, rfl, h0, hf, hh, kvs, rfl, h1, h2⟩ := I.s i _ hd
    refine ⟨_, hv, k _ H F g (.refl _ _ _) I.z (.inr ⟨a, kvs, rfl, fun m => ?_, hf, hh, h1, h2⟩) q⟩
    obtain ⟨o, z⟩ := I.hk a m
    rw [h0] at z; cases z
  · exact q.elim
theorem pu_of (h : pD X e f) : pU X e (uD f) := PE.imp h fun σ H Q ⟨C, F, E, Qd, I, q, k⟩ => ⟨C, F, E, _, I, q, fun v H' F' d w z r ⟨g, e, q⟩ => k v H' F' g w z (.inl (e ▸ r)) q⟩
/-- d[k] -/
def wGetU (fu : FU) (fk : FE) : FE := fun E Q => fu E fun g => fk E fun y => ∃ k v, y = keyD k ∧ dval g k = some v ∧ Q v
theorem pd_getU (hu : X.A.units + 1 < cLine) (ha : pU X a fu) (hb : pD X b fb) (hs : NoSl b) : pD X (.Subscript a b pos) (wGetU fu fb) := PE.imp (pe_dget hu ha hb hs) fun σ H Q ⟨C, F, E, Qd, I, q, k⟩ =>
  ⟨C, F, E, _, I, q, fun x H1 F1 g w1 z1 r1 q1 => ⟨C, F1, E, _, I.step w1 z1, q1, fun y H2 F2 d w2 z2 r2 ⟨ky, v, ey, ev, q2⟩ => by
    subst ey
    obtain ⟨a, kvs, rfl, hr, hf, hd⟩ := (r1.step w2).r z2
    rcases val_at (k := ky) hf hd with ⟨z, _⟩ | ⟨d', v', e1, e2, rv⟩
    · rw [z] at ev; cases ev
    · rw [e1] at ev; cases ev
      exact ⟨a, v', rfl, .inl ⟨kvs, ky, hr, kV_of r2, e2.symm⟩, k v' H2 F2 _ (w1.trans w2) z2 rv q2⟩⟩⟩
/-- k in d -/
def wInU (neg : Bool) (fk : FE) (fu : FU) : FE := fun E Q => fk E fun y => fu E fun g => ∃ k, y = keyD k ∧ Q (.bool (if neg = true then !(dval g k).isSome else (dval g k).isSome))
theorem inU_get {K : PySem.W.Frag} {H F : Hp} {y v : V} {g : Gd} {k : Key} (r : DgR K H F v g) (ry : Dd K F y (keyD k)) : ∃ a o, v = .ref a ∧ DGet H a y o ∧ o.isSome = (dval g k).isSome := by
  obtain ⟨a, kvs, rfl, hr, hf, hd⟩ := r
  refine ⟨a, _, rfl, .inl ⟨kvs, k, hr, kV_of ry, rfl⟩, ?_⟩
  rcases val_at (k := k) hf hd with ⟨z, z2⟩ | ⟨d', v', e1, e2, rv⟩
  · rw [z, z2]; rfl
  · rw [e1, e2]; rfl
theorem pd_inU (hu : X.A.units + 1 < cLine) (ha : pD X a fa) (hb : pU X b fu) (h1 : behindInMarks .In b = false := by rfl) : pD X (.Compare a [.In] [b] pos) (wInU false fa fu) := PE.imp (pe_cmp (pc_din hu ha hb) h1) fun σ H Q ⟨C, F, E, Qd, I, q, k⟩ =>
  ⟨C, F, E, _, I, q, fun y H1 F1 d w1 z1 r1 q1 => ⟨C, F1, E, _, I.step w1 z1, q1, fun x H2 F2 g w2 z2 r2 ⟨ky, ey, q2⟩ => by
    subst ey
    obtain ⟨a, o, rfl, hg, ho⟩ := inU_get (r2.r z2) (Dd.le w2.fro r1)
    exact ⟨a, o, rfl, hg, k _ H2 F2 _ (w1.trans w2) z2 (.bl _) (by rw [ho]; exact q2)⟩⟩⟩
theorem pd_notInU (hu : X.A.units + 1 < cLine) (ha : pD X a fa) (hb : pU X b fu) (h1 : behindInMarks .NotIn b = false := by rfl) : pD X (.Compare a [.NotIn] [b] pos) (wInU true fa fu) := PE.imp (pe_cmp (pc_dnotin hu ha hb) h1) fun σ H Q ⟨C, F, E, Qd, I, q, k⟩ =>
  ⟨C, F, E, _, I, q, fun y H1 F1 d w1 z1 r1 q1 => ⟨C, F1, E, _, I.step w1 z1, q1, fun x H2 F2 g w2 z2 r2 ⟨ky, ey, q2⟩ => by
    subst ey
    obtain ⟨a, o, rfl, hg, ho⟩ := inU_get (r2.r z2) (Dd.le w2.fro r1)
    exact ⟨a, o, rfl, hg, k _ H2 F2 _ (w1.trans w2) z2 (.bl _) (by rw [ho]; exact q2)⟩⟩⟩
theorem pt_inU (hu : X.A.units + 1 < cLine) (ha : pD X a fa) (hb : pU X b fu) (h1 : behindInMarks .In b = false := by rfl) : pT X (.Compare a [.In] [b] pos) (gB (wInU false fa fu)) := PT.imp (pt_cmp (pc_din hu ha hb) h1) fun σ H Q ⟨C, F, E, Qd, I, q, k⟩ =>
  ⟨C, F, E, _, I, q, fun y H1 F1 d w1 z1 r1 q1 => ⟨C, F1, E, _, I.step w1 z1, q1, fun x H2 F2 g w2 z2 r2 ⟨ky, ey, q2⟩ => by
    subst ey
    obtain ⟨a, o, rfl, hg, ho⟩ := inU_get (r2.r z2) (Dd.le w2.fro r1)
    exact ⟨a, o, rfl, hg, _, rfl, k _ H2 F2 (w1.trans w2) z2 (by rw [ho]; exact q2)⟩⟩⟩
theorem pt_notInU (hu : X.A.units + 1 < cLine) (ha : pD X a fa) (hb : pU X b fu) (h1 : behindInMarks .NotIn b = false := by rfl) : pT X (.Compare a [.NotIn] [b] pos) (gB (wInU true fa fu)) := PT.imp (pt_cmp (pc_dnotin hu ha hb) h1) fun σ H Q ⟨C, F, E, Qd, I, q, k⟩ =>
  ⟨C, F, E, _, I, q, fun y H1 F1 d w1 z1 r1 q1 => ⟨C, F1, E, _, I.step w1 z1, q1, fun x H2 F2 g w2 z2 r2 ⟨ky, ey, q2⟩ => by
    subst ey
    obtain ⟨a, o, rfl, hg, ho⟩ := inU_get (r2.r z2) (Dd.le w2.fro r1)
    exact ⟨a, o, rfl, hg, _, rfl, k _ H2 F2 (w1.trans w2) z2 (by rw [ho]; exact q2)⟩⟩⟩
/-! dict(list of pairs) -/
def mergeD (kvs more : Gd) : Gd := more.foldl (fun acc kv => dput acc kv.1 kv.2) kvs
theorem merge_rel {K : PySem.W.Frag} {F : Hp} : ∀ {m : Gd} {n : List (Key × V)} {g : Gd} {kvs : List (Key × V)}, m.map Prod.fst = n.map Prod.fst → DdAll K F (n.map Prod.snd) (m.map Prod.snd) → g.map Prod.fst = kvs.map Prod.fst → DdAll K F (kvs.map Prod.snd) (g.map Prod.snd) →
    (mergeD g m).map Prod.fst = (mergeK kvs n).map Prod.fst ∧ DdAll K F ((mergeK kvs n).map Prod.snd) ((mergeD g m).map Prod.snd)
  | [], [], _, _, _, _, h, r => ⟨h, r⟩
  | [], _ :: _, _, _, h, _, _, _ => by cases h
  | _ :: _, [], _, _, h, _, _, _ => by cases h
  | x :: m, y :: n, g, kvs, h1, r1, h2, r2 => by
    have e := List.cons.inj (show x.1 :: m.map Prod.fst = y.1 :: n.map Prod.fst from h1)
    cases r1 with
    | cons q1 q2 =>
      have := put_rel (k := y.1) q1 h2 r2
      unfold mergeD mergeK
      rw [List.foldl_cons, List.foldl_cons, e.1]
      exact merge_rel e.2 q2 this.1 this.2
def pairD (p : Key × PyData) : PyData := .tuple [keyD p.1, p.2]
def gDictP (d : PyData) (Q : PyData → Prop) : Prop := ∃ g : Gd, d = .list (g.map pairD) ∧ Q (dicD (mergeD [] g))
theorem pairs_all {K : PySem.W.Frag} {H F : Hp} (z : Fz H F) : ∀ {g : Gd} {xs : List V}, DdAll K F xs (g.map pairD) → ∃ (ps : List Addr) (kvs : List (Key × V)), xs = ps.map V.ref ∧ Paired (fun p kv => SqT K H p [kV kv.1, kv.2]) ps kvs ∧ g.map Prod.fst = kvs.map Prod.fst ∧ DdAll K F (kvs.map Prod.snd) (g.map Prod.snd)
  | [], _, h => by cases h; exact ⟨[], [], rfl, .nil, rfl, .nil⟩
  | p :: g, _, h => by
    cases h with
    | cons r rs =>
      obtain ⟨ps, kvs, rfl, hp, h1, h2⟩ := pairs_all z rs
      cases r with
      | tup ht ra =>
        cases ra with
        | cons a1 a2 => cases a2 with
          | cons b1 b2 =>
            cases b2
            rename_i a v1 v2
            have := kV_of a1
            subst this
            exact ⟨_ :: ps, (p.1, v2) :: kvs, rfl, .cons (SqT.of (z.sub.t _ _ ht)) hp, by simp [h1], .cons b1 h2⟩
theorem pd_dictP (hc : X.calm = true) (hg : Gl X "dict") (hm : X.mg "dict" = none) (he : pH X e f) (na : starEach [e] X.env = [(false, eval e X.env)] := by rfl) : pD X (.Call (.Name "dict" p) [e] [] pos) (wUn gDictP f) := PE.imp (pe_callTy (call_dictP hc) hg hm (by decide +kernel) (pa_h1 he na) (by decide) (by decide) na) fun σ H Q ⟨C, F, E, Qd, I, q, k⟩ =>
  ⟨C, F, E, _, I, q, fun v H1 F1 d w1 z1 r1 ⟨g, ed, q1⟩ => by
    subst ed
    have hl : ∃ a xs, v = .ref a ∧ H1 a = some (.lst xs) ∧ DdAll X.K F1 xs (g.map pairD) := r1.list z1
    obtain ⟨a, xs, rfl, ha, ra⟩ := hl
    obtain ⟨ps, kvs, rfl, hp, h1, h2⟩ := pairs_all z1 ra
    refine ⟨a, ps, kvs, rfl, SqL.of ha, hp, fun t ht => ?_⟩
    obtain ⟨m1, m2⟩ := merge_rel (g := []) (kvs := []) h1 h2 rfl .nil
    refine k _ _ (upd F1 t (.dK (mergeK [] kvs))) _ (w1.trans (.newF z1 ht _)) (z1.newF ht _) ?_ q1
    exact DgR.dd ⟨t, _, rfl, .inl upd_same, m1, DdAll.le (.of (same_new (z1.fin t ht) _)) m2⟩⟩
/-! sorted -/
def strsD (xs : List Str) : List PyData := xs.map PyData.str
theorem strs_of {K : PySem.W.Frag} {F : Hp} : ∀ {xs : List Str} {vs : List V}, DdAll K F vs (xs.map PyData.str) → vs = xs.map V.str
  | [], _, h => by cases h; rfl
  | _ :: _, _, h => by
    cases h with
    | cons a r => rw [a.stre, strs_of r]; rfl
theorem dd_strs {K : PySem.W.Frag} {F : Hp} : ∀ xs : List Str, DdAll K F (xs.map V.str) (xs.map PyData.str)
  | [] => .nil
  | x :: xs => .cons (.str x) (dd_strs xs)
def gSortS (d : PyData) (Q : List PyData → Prop) : Prop := ∃ xs : List Str, d = .list (strsD xs) ∧ xs.length < 64 ∧ ∀ ys : List Str, ys.Perm xs → sortedS ys = true → Q (strsD ys)
theorem sortS_f {K : PySem.W.Frag} : CallF K (rSortedS K) gSortS := by
  intro hs H F v d Qd Q z r ⟨xs, ed, hl, g⟩ k
  subst ed
  obtain ⟨a, vs, rfl, ha, ra⟩ := r.list z
  have := strs_of ra
  subst this
  refine ⟨a, xs, rfl, SqL.of ha, hl, fun ys p pm srt hp => ?_⟩
  exact k p _ _ F _ hp (.newO hp _) (z.newO (z.fin p hp) _) (z.fin p hp) upd_same (dd_strs ys) (g ys pm srt)
theorem pf_bltn {T : String} {r : List V → Hp → VK → Prop} {g : PyData → (List PyData → Prop) → Prop} {x : Str} (hc : CallR X (.builtin T) r) (hd : CallF X.K r g) (hg : Gl X x) (hm : X.mg x = none) (hv : bootBuiltins x = some (.builtin T)) (he : pH X e f) (hn : x ≠ "__name__" := by decide) (hdb : (x == ("__debug__" : Str)) = false := by decide)
    (hs : starEach [e] X.env = [(false, eval e X.env)] := by rfl) : pF X (.Call (.Name x p) [e] [] pos) (wUnF g f) := PE.imp (pe_callB hc hg hm hv (pa_h1 he hs) hn hdb hs) (unF_imp hd)
/-- sorted(set(xs)) -/
def gSortSet (d : PyData) (Q : List PyData → Prop) : Prop := ∃ xs : List Str, d = .list (strsD xs) ∧ xs.length ≤ 1000 ∧ (∀ ks : List Str, ks.Nodup → (∀ x, x ∈ ks ↔ x ∈ xs) → ks.length < 64) ∧ ∀ ys : List Str, ys.Nodup → (∀ x, x ∈ ys ↔ x ∈ xs) → sortedS ys = true → Q (strsD ys)
theorem pf_sortSet {p2 pos2 : Pos} (hc : X.calm = true) (hg : Gl X "sorted") (hm : X.mg "sorted" = none) (hg2 : Gl X "set") (hm2 : X.mg "set" = none) (he : pH X e f) (hs : starEach [e] X.env = [(false, eval e X.env)] := by rfl)
    (hs2 : starEach [.Call (.Name "set" p2) [e] [] pos2] X.env = [(false, eval (.Call (.Name "set" p2) [e] [] pos2) X.env)] := by rfl) : pF X (.Call (.Name "sorted" p) [.Call (.Name "set" p2) [e] [] pos2] [] pos) (wUnF gSortSet f) :=
  PE.imp (pe_callB (cr_sortT hc) hg hm (by decide +kernel) (pa_cons (pe_callTy (call_setT hc) hg2 hm2 (by decide +kernel) (pa_h1 he hs) (by decide) (by decide) hs) pa_nil hs2) (by decide) (by decide) hs2) fun σ H Q ⟨C, F, E, Qd, I, q, k⟩ =>
  ⟨C, F, E, _, I, q, fun v H1 F1 d w1 z1 r1 ⟨xs, ed, hl, h64, g⟩ => by
    subst ed
    obtain ⟨a, vs, rfl, ha, ra⟩ := r1.list z1
    have := strs_of ra
    subst this
    refine ⟨a, xs, rfl, SqL.of ha, hl, fun t ks ht nd len mem => ?_⟩
    refine ⟨t, ks, rfl, upd_same, h64 ks nd mem, fun l ys hl' pm srt => ?_⟩
    have w2 : Wd C.hs H1 F1 (upd H1 t (TxO X.w t ks)) F1 := .newO ht _
    have z2 : Fz (upd H1 t (TxO X.w t ks)) F1 := z1.newO (z1.fin t ht) _
    exact k l _ _ F1 _ ((w1.trans w2).back hl') (w1.trans (w2.trans (.newO hl' _))) (z2.newO (z2.fin l hl') _) (z2.fin l hl') upd_same (dd_strs ys) (g ys (pm.nodup_iff.mpr nd) (fun x => pm.mem_iff.trans (mem x)) srt)⟩
end
/-! repr of data with dicts, no list among them -/
mutual
def nlk : PyData → Bool
  | .list _ => false
  | .tuple ds => nlks ds
  | .dict kvs => nlkv kvs
  | _ => true
def nlks : List PyData → Bool
  | [] => true
  | d :: ds => nlk d && nlks ds
def nlkv : List (PyData × PyData) → Bool
  | [] => true
  | (.int _, d) :: r => nlk d && nlkv r
  | (.str _, d) :: r => nlk d && nlkv r
  | _ :: _ => false
end
theorem key_read {h : Heap} {k : Key} {u : Value} (a : keyIs k u = true) : Reads h u (keyD k) [] := by
  rcases keyIs_shape a with ⟨j, t, q, e⟩ | ⟨y, t, q, e⟩
  · subst q; rw [e]; exact .int j t
  · subst q; rw [e]; exact .str y t
theorem keys_read {P : Program} {w : World} {h : Heap} : ∀ {kvs : List (Key × V)} {vs : List (Key × Value)} {es : List DictEntry}, KV kvs vs → Pairs (mixKind P w) es vs → ReadsAll h (es.map (·.key)) (kvs.map fun p => keyD p.1) [] ∧ Vals (kvs.map (·.2)) (es.map (·.val))
  | [], _, _, .nil, .nil => ⟨.nil, .nil⟩
  | kv :: kvs, kw :: vs, e :: es, .cons r rr, .cons a b c => by
    obtain ⟨h1, h2⟩ := keys_read (h := h) rr c
    obtain ⟨r1, r2⟩ := r
    replace a : keyIs kw.1 e.key = true := a
    rw [← r1] at a
    refine ⟨?_, .cons ?_ h2⟩
    · show ReadsAll h (e.key :: _) (keyD kv.1 :: _) ([] ++ [])
      exact .cons (key_read a) h1
    · show RelV kv.2 e.val
      rw [b]; exact r2
theorem nlkv_vals : ∀ ds : List (PyData × PyData), nlkv ds = true → nlks (ds.map Prod.snd) = true
  | [], _ => rfl
  | (k, d) :: r, h => by
    have h2 : (nlk d && nlkv r) = true := by
      cases k <;> first | exact h | cases h
    obtain ⟨a, b⟩ := (Bool.and_eq_true _ _).mp h2
    show (nlk d && nlks (r.map Prod.snd)) = true
    rw [a, nlkv_vals r b]; rfl
section
variable {X : Cx} {pins : List (Addr × Obj)} {σ : L2.St} {H : Hp} {s : Shared}
mutual
theorem Dd.rds (I : Inv X pins σ H s) : ∀ {v : V} {d : PyData}, Dd X.K H v d → nlk d = true → ∀ u : Value, RelV v u → ∃ as, Reads s.heap u d as ∧ sysModules ∉ as
  | _, _, .non, _, _, r => by
    cases r
    exact ⟨_, Reads.none, by simp⟩
  | _, _, .bl b, _, _, r => by
    cases r
    exact ⟨_, Reads.bool b, by simp⟩
  | _, _, .int i, _, _, r => by
    obtain ⟨t, rfl⟩ := r
    exact ⟨_, Reads.int i t, by simp⟩
  | _, _, .str x, _, _, r => by
    obtain ⟨t, rfl⟩ := r
    exact ⟨_, Reads.str x t, by simp⟩
  | _, _, .lst _ _, n, _, _ => by cases n
  | _, _, .tup hs ha, n, _, r => by
    cases r
    obtain ⟨its, rv, ⟨o, ho, hc, m, hd⟩, _⟩ := I.tuple (SqT.of hs)
    obtain ⟨as, hr, hn⟩ := DdAll.rds I ha n its rv
    exact ⟨_, Reads.tuple ho hc hd hr, hn⟩
  | _, _, .dic hr hf hs, n, _, r => by
    cases r
    obtain ⟨_, ns, vs, rk, o, es, ep, ho, hx, hd, _, hpr, _⟩ := (show ObjOk X.prog X.w H s.heap _ (.dK _) from hr.ok I.hok)
    obtain ⟨r1, rv⟩ := keys_read (h := s.heap) rk hpr
    rw [← hf] at r1
    obtain ⟨as, r2, hn⟩ := DdAll.rds I hs (nlkv_vals _ n) _ rv
    refine ⟨_, Reads.dict ho hx.1 hd r1 r2, ?_⟩
    simp only [List.append_nil, List.mem_cons, List.cons_append, List.nil_append, not_or]
    exact ⟨fun z => by rw [← z] at ns; exact absurd ns (by decide), hn⟩
  | _, _, .dit _ _ _, n, _, _ => by cases n
  | _, _, .obj _ _ _, n, _, _ => by cases n
theorem DdAll.rds (I : Inv X pins σ H s) : ∀ {vs : List V} {ds : List PyData}, DdAll X.K H vs ds → nlks ds = true → ∀ us : List Value, Vals vs us → ∃ as, ReadsAll s.heap us ds as ∧ sysModules ∉ as
  | _, _, .nil, _, _, r => by
    cases r
    exact ⟨_, ReadsAll.nil, by simp⟩
  | _, _, .cons h1 h2, n, _, r => by
    obtain ⟨n1, n2⟩ := (Bool.and_eq_true _ _).mp n
    cases r with
    | cons r1 r2 =>
      obtain ⟨as, q1, z1⟩ := Dd.rds I h1 n1 _ r1
      obtain ⟨bs, q2, z2⟩ := DdAll.rds I h2 n2 _ r2
      exact ⟨_, ReadsAll.cons q1 q2, fun z => (List.mem_append.mp z).elim z1 z2⟩
end
end
/-- it can be shown, dicts too -/
def ShwU (d : PyData) : Prop := d.showable = true ∧ d.depth ≤ 32 ∧ d.shown.length ≤ sizeLine
def rReprU (K : PySem.W.Frag) : List V → Hp → VK → Prop := fun xs H Q => ∃ a d, xs = [.ref a] ∧ Dd K H (.ref a) d ∧ nlk d = true ∧ ShwU d ∧ Q (.str d.shown) H
theorem call_reprU {X : Cx} (hg : X.A.guards = some []) (hu : X.A.units + 64 < cLine) : CallR X (.builtin "repr") (rReprU X.K) := by
  intro pins s σ H xs us Q I r h
  obtain ⟨a, d, rfl, hd, hn, ⟨s1, s2, s3⟩, q⟩ := h
  obtain ⟨u, rfl, ru⟩ := vals1 r
  obtain rfl : u = Value.ref a := ru
  obtain ⟨as, rd, ns⟩ := Dd.rds I hd hn _ rfl
  exact repr_of_reads' rd s1 (fun _ => ns) hg (by omega) (fun _ _ e => e) (fun h' u tk hk => ⟨.str d.shown, H, I.kept hk, ⟨u, rfl⟩, q⟩) s3
/-- repr([..]), the list just made -/
def rReprL (K : PySem.W.Frag) : List V → Hp → VK → Prop := fun xs H Q => ∃ a vs ds, xs = [.ref a] ∧ H a = some (.lst vs) ∧ a ≠ sysModules ∧ DdAll K H vs ds ∧ nlks ds = true ∧ ShwU (.list ds) ∧ Q (.str (PyData.list ds).shown) H
theorem call_reprL {X : Cx} (hg : X.A.guards = some []) (hu : X.A.units + 64 < cLine) : CallR X (.builtin "repr") (rReprL X.K) := by
  intro pins s σ H xs us Q I r h
  obtain ⟨a, vs, ds, rfl, ha, na, hd, hn, ⟨s1, s2, s3⟩, q⟩ := h
  obtain ⟨u, rfl, ru⟩ := vals1 r
  obtain rfl : u = Value.ref a := ru
  obtain ⟨its, rv, ⟨o, n, ho, hc, _, hdt⟩, _⟩ := I.list (SqL.of ha)
  obtain ⟨as, hr, ns⟩ := DdAll.rds I hd hn its rv
  exact repr_of_reads' (Reads.list ho hc hdt hr) s1 (fun _ z => (List.mem_cons.mp z).elim (fun e => na e.symm) ns) hg (by omega) (fun _ _ e => e) (fun h' u tk hk => ⟨.str (PyData.list ds).shown, H, I.kept hk, ⟨u, rfl⟩, q⟩) s3
section
variable {X : Cx} {es : List Expr} {e : Expr} {f : FE} {fl : FL} {fu : FU} {p pos : Pos}
def gReprU (g : Gd) (Q : PyData → Prop) : Prop := nlk (dicD g) = true ∧ ShwU (dicD g) ∧ Q (.str (dicD g).shown)
def wReprU (fu : FU) : FE := fun E Q => fu E fun g => gReprU g Q
theorem pd_reprU (hgd : X.A.guards = some []) (hu : X.A.units + 64 < cLine) (he : pU X e fu) (hg : Gl X "repr") (hm : X.mg "repr" = none) (hs : starEach [e] X.env = [(false, eval e X.env)] := by rfl) : pD X (.Call (.Name "repr" p) [e] [] pos) (wReprU fu) :=
  PE.imp (pe_callB (call_reprU hgd hu) hg hm (by decide +kernel) (pa_cons he pa_nil hs) (by decide) (by decide) hs) fun σ H Q ⟨C, F, E, Qd, I, q, k⟩ =>
  ⟨C, F, E, _, I, q, fun v H1 F1 g w1 z1 r1 ⟨h1, h2, q1⟩ => by
    obtain ⟨a, kvs, rfl, hr, hf, hd⟩ := r1.r z1
    exact ⟨a, dicD g, rfl, DgR.dd ⟨a, kvs, rfl, hr, hf, DdAll.le z1.sub hd⟩, h1, h2, k _ H1 F1 _ w1 z1 (.str _) q1⟩⟩
def wReprL (fl : FL) : FE := fun E Q => fl E fun ds => ds.length ≤ sizeLine ∧ nlks ds = true ∧ ShwU (.list ds) ∧ Q (.str (PyData.list ds).shown)
theorem pd_reprL {lp : Pos} (hgd : X.A.guards = some []) (hu : X.A.units + 64 < cLine) (he : pL X es fl) (hg : Gl X "repr") (hm : X.mg "repr" = none) (hs : starEach [.List es lp] X.env = [(false, eval (.List es lp) X.env)] := by rfl) : pD X (.Call (.Name "repr" p) [.List es lp] [] pos) (wReprL fl) :=
  PE.imp (pe_callB (call_reprL hgd hu) hg hm (by decide +kernel) (pa_cons (pe_lstN he) pa_nil hs) (by decide) (by decide) hs) fun σ H Q ⟨C, F, E, Qd, I, q, k⟩ =>
  ⟨C, F, E, _, I, q, fun vs H1 F1 ds w1 z1 r1 ⟨hl, h1, h2, q1⟩ => by
    refine ⟨by rw [r1.len]; exact hl, fun t ht nt => ?_⟩
    have w2 : Wd C.hs H1 F1 (upd H1 t (.lst vs)) F1 := .newO ht _
    have z2 : Fz (upd H1 t (.lst vs)) F1 := z1.newO (z1.fin t ht) _
    exact ⟨t, vs, ds, rfl, upd_same, nt, DdAll.le z2.sub r1, h1, h2, k _ _ F1 _ (w1.trans w2) z2 (.str _) q1⟩⟩
end
/-! small data, dicts too -/
mutual
def okT : PyData → Bool
  | .str x => PyData.strOk x
  | .list ds => okTs ds
  | .tuple ds => okTs ds
  | .dict kvs => okTv kvs
  | _ => true
def okTs : List PyData → Bool
  | [] => true
  | d :: ds => okT d && okTs ds
def okTv : List (PyData × PyData) → Bool
  | [] => true
  | (k, d) :: r => okT k && okT d && okTv r
end
mutual
theorem okcU : ∀ d : PyData, okT d = true → OkC d.shown.cps.toList
  | .none, _ => okc_of "None"
  | .bool true, _ => okc_of "True"
  | .bool false, _ => okc_of "False"
  | .int i, _ => okc_of (toString i)
  | .str x, h => okc_text ((okc_iff x).mp h)
  | .list xs, h => by
    rw [PyData.shown, listText_eq_join]
    exact okc_app (okc_app (okc_of _) (okc_join (okc_of _) (okcUs xs h))) (okc_of _)
  | .tuple xs, h => by
    rw [PyData.shown]
    exact okc_app (okc_app (okc_of _) (okc_join (okc_of _) (okcUs xs h))) (okc_of _)
  | .dict kvs, h => by
    rw [PyData.shown]
    exact okc_app (okc_app (okc_of _) (okc_join (okc_of _) (okcUv kvs h))) (okc_of _)
theorem okcUs : ∀ ds : List PyData, okTs ds = true → ∀ t ∈ PyData.shownAll ds, OkC t.cps.toList
  | [], _, t, h => by cases h
  | d :: ds, k, t, h => by
    obtain ⟨k1, k2⟩ := Bool.and_eq_true_iff.mp (show (okT d && okTs ds) = true from k)
    rcases List.mem_cons.mp h with e | h
    · rw [e]; exact okcU d k1
    · exact okcUs ds k2 t h
theorem okcUv : ∀ ds : List (PyData × PyData), okTv ds = true → ∀ t ∈ PyData.shownKv ds, OkC t.cps.toList
  | [], _, t, h => by cases h
  | (k, d) :: ds, z, t, h => by
    obtain ⟨k1, k2⟩ := Bool.and_eq_true_iff.mp (show (okT k && okT d && okTv ds) = true from z)
    obtain ⟨k0, k1⟩ := Bool.and_eq_true_iff.mp k1
    rcases List.mem_cons.mp h with e | h
    · rw [e]; exact okc_app (okc_app (okcU k k0) (okc_of _)) (okcU d k1)
    · exact okcUv ds k2 t h
end
mutual
theorem okT_lay : ∀ d : PyData, d.canLay0 = true → okT d = true
  | .none, _ => rfl
  | .bool _, _ => rfl
  | .int _, _ => rfl
  | .str x, h => h
  | .list xs, h => okTs_lay xs h
  | .tuple xs, h => okTs_lay xs h
  | .dict _, h => by cases h
theorem okTs_lay : ∀ ds : List PyData, PyData.canLayAll0 ds = true → okTs ds = true
  | [], _ => rfl
  | d :: ds, k => by
    obtain ⟨k1, k2⟩ := Bool.and_eq_true_iff.mp (show (d.canLay0 && PyData.canLayAll0 ds) = true from k)
    show (okT d && okTs ds) = true
    rw [okT_lay d k1, okTs_lay ds k2]; rfl
end
mutual
theorem bulk_le : ∀ d : PyData, noD d = true → d.bulk ≤ d.weight
  | .none, _ => Nat.le_refl _
  | .bool _, _ => Nat.le_refl _
  | .int _, _ => Nat.zero_le _
  | .str _, _ => Nat.le_refl _
  | .list xs, h => bulks_le xs h
  | .tuple xs, h => bulks_le xs h
  | .dict _, h => by cases h
theorem bulks_le : ∀ ds : List PyData, noDs ds = true → PyData.bulkAll ds ≤ PyData.weightAll ds
  | [], _ => Nat.le_refl _
  | d :: ds, k => by
    obtain ⟨k1, k2⟩ := Bool.and_eq_true_iff.mp (show (noD d && noDs ds) = true from k)
    show d.bulk + 1 + PyData.bulkAll ds ≤ d.weight + 1 + PyData.weightAll ds
    have := bulk_le d k1; have := bulks_le ds k2; omega
end
structure SmU (D W : Nat) (d : PyData) : Prop where
  ok : okT d = true
  sh : d.showable = true
  ls : d.leavesShort 13 = true
  dp : d.depth ≤ D
  bk : d.bulk ≤ W
theorem Sml.u {D W : Nat} {d : PyData} (h : Sml D W d) : SmU D W d := ⟨okT_lay d h.lay, h.sh, PyData.leavesShort_of_canLay0 13 d h.lay h.si, h.dp, Nat.le_trans (bulk_le d h.nd) h.wt⟩
theorem SmU.shw {D W : Nat} {d : PyData} (h : SmU D W d) (a : D ≤ 32 := by decide) (b : W ≤ 2 ^ 20 := by decide) : ShwU d := ⟨h.sh, Nat.le_trans h.dp a, PyData.shown_fits_bulk (B := 13) (by decide) (by decide) h.ls (Nat.le_trans h.bk b)⟩
theorem SmU.str {D W : Nat} {d : PyData} (h : SmU D W d) : SeqAt.shaped (.str d.shown) = true := shaped_str (okcU d h.ok)
theorem sameU_textN {D W : Nat} {d : PyData} {k : PyData → Prop} (h : SmU D W d) (q : k (.bool false)) : gNe (.str d.shown) (.str d.shown) k := ⟨h.str, h.str, by rw [eqv_same h.str]; exact q⟩
theorem SmU.mono {D W D' W' : Nat} {d : PyData} (h : SmU D W d) (a : D ≤ D') (b : W ≤ W') : SmU D' W' d := ⟨h.ok, h.sh, h.ls, Nat.le_trans h.dp a, Nat.le_trans h.bk b⟩
theorem smu_lst3 {D W : Nat} {a b c : PyData} (ha : SmU D W a) (hb : SmU D W b) (hc : SmU D W c) : SmU (D + 1) (3 * W + 3) (.list [a, b, c]) := by
  refine ⟨?_, ?_, ?_, ?_, ?_⟩
  · show (okT a && (okT b && (okT c && true))) = true
    rw [ha.ok, hb.ok, hc.ok]; rfl
  · show (a.showable && (b.showable && (c.showable && true))) = true
    rw [ha.sh, hb.sh, hc.sh]; rfl
  · show (a.leavesShort 13 && (b.leavesShort 13 && (c.leavesShort 13 && true))) = true
    rw [ha.ls, hb.ls, hc.ls]; rfl
  · show max a.depth (max b.depth (max c.depth 0)) + 1 ≤ D + 1
    have := ha.dp; have := hb.dp; have := hc.dp; omega
  · show a.bulk + 1 + (b.bulk + 1 + (c.bulk + 1 + 0)) ≤ _
    have := ha.bk; have := hb.bk; have := hc.bk; omega
theorem smu_dic {D W : Nat} : ∀ {g : Gd}, (∀ p ∈ g, ∃ n : Str, p.1 = .inr n ∧ OkC n.cps.toList ∧ n.cps.size ≤ 10 ∧ SmU D W p.2) → SmU (D + 1) ((W + 12) * g.length) (dicD g) := by
  intro g h
  have key : okTv (g.map fun p => (keyD p.1, p.2)) = true ∧ PyData.showableKv (g.map fun p => (keyD p.1, p.2)) = true ∧ PyData.leavesShortKv 13 (g.map fun p => (keyD p.1, p.2)) = true ∧ PyData.depthKv (g.map fun p => (keyD p.1, p.2)) ≤ D ∧ PyData.bulkKv (g.map fun p => (keyD p.1, p.2)) ≤ (W + 12) * g.length := by
    induction g with
    | nil => exact ⟨rfl, rfl, rfl, Nat.zero_le _, Nat.zero_le _⟩
    | cons p g ih =>
      obtain ⟨i1, i2, i3, i4, i5⟩ := ih fun q hq => h q (List.mem_cons_of_mem _ hq)
      obtain ⟨n, e, hn, hs, hp⟩ := h p (List.mem_cons_self ..)
      obtain ⟨k, v⟩ := p
      cases e
      refine ⟨?_, ?_, ?_, ?_, ?_⟩
      · show (PyData.strOk n && okT v && okTv _) = true
        rw [(okc_iff n).mpr hn, hp.ok, i1]; rfl
      · show (true && v.showable && PyData.showableKv _) = true
        rw [hp.sh, i2]; rfl
      · show ((n.cps.toList.all fun c => decide (c < 16 ^ 8)) && v.leavesShort 13 && PyData.leavesShortKv 13 _) = true
        rw [hp.ls, i3, List.all_eq_true.mpr fun c hc => decide_eq_true (Nat.lt_of_lt_of_le (hn c hc) (by decide))]; rfl
      · show max (max 0 v.depth) (PyData.depthKv _) ≤ D
        have : v.depth ≤ D := hp.dp; omega
      · show n.cps.size + v.bulk + 2 + PyData.bulkKv _ ≤ (W + 12) * (g.length + 1)
        have : v.bulk ≤ W := hp.bk
        rw [Nat.mul_add]; omega
  exact ⟨key.1, key.2.1, key.2.2.1, Nat.succ_le_succ key.2.2.2.1, key.2.2.2.2⟩
end Dl

namespace Vk34
open PySem PySem.Spec PyProof.Rows L2 Vx
def top (i : Nat) : Stmt := PySem.Challenge.pw_maskedlist_k34_values_of_polynomials.main.body.getD i (.Pass ⟨0, 0, 0, 0⟩)
def kg_evaluate_polynomial {α : Type} : List α → List α → List α
  | [], [x0, x1, x2, x3] => [x3, x2, x1, x0]
  | _, _ => []

theorem kp_evaluate_polynomial {α β : Type} (R : α → β → Prop) (as : List α) (bs : List β) (h : Paired R as bs) : Paired R (kg_evaluate_polynomial [] as) (kg_evaluate_polynomial [] bs) := by
  rcases h with _ | ⟨r0, _ | ⟨r1, _ | ⟨r2, _ | ⟨r3, _ | ⟨r4, _⟩⟩⟩⟩⟩ <;> first | exact .cons r3 (.cons r2 (.cons r1 (.cons r0 (.nil)))) | exact .nil
section
variable {P : Program} {w : World} {K : PySem.W.Frag} {mg : Str → Option Value} {base : Heap} {C_MissingVariable I_MissingVariable : Addr}
def sp_law_pen (K : PySem.W.Frag) : Sp := Dl.sp_law_penD K

abbrev s_law_pen : Stmt := top 10
theorem sc_law_pen : FnScope ["script"] ["script"] (defScope s_law_pen) := ⟨rfl, rfl, rfl, by decide +kernel, rfl, by decide +kernel, by decide +kernel⟩
theorem ok_law_pen {f : Addr} {fd : FuncData} (F : Fun K "_law_pen" "_law_pen" s_law_pen f fd) (m_list : mg "list" = none) : FnG P w K mg base CX0 1 f fd ["script"] (sp_law_pen K) := by
  refine okG F sc_law_pen (fun vs H Q E h => ?_) (fun cdv A o s H vs Q E hr h => ?_)
  · obtain ⟨a, ns, rfl, _⟩ := h
    rfl
  obtain ⟨a, ns, rfl, hS, q⟩ := h
  refine ⟨_, (pss_one (ps_ret (pe_lst (pa_cons (pe_callTy call_list_of (by rfl) m_list (by decide +kernel) (pa_cons (pe_slice sl_list (pv 0) po_none (po_some pe_int)) pa_nil)) (pa_cons pe_int (pa_cons pe_int pa_nil)))))), ?_⟩
  obtain ⟨ms, em⟩ := cutV_map ns none (some 63)
  refine ⟨_, rfl, 63, rfl, a, _, rfl, hS, fun p hp => ?_⟩
  refine ⟨p, _, rfl, .inl (SqL.of upd_same), fun l hl => ?_⟩
  refine ⟨(by show 3 ≤ sizeLine; decide), fun d hd => ?_⟩
  have s1 := same_new hp (.lst (cutV (ns.map V.int) none (some 63)))
  have s2 := same_new hl (.lst (cutV (ns.map V.int) none (some 63)))
  have s3 := same_new hd (.lst [V.ref l, V.int 0, V.int 0])
  refine q _ d l ms (s1.trans (s2.trans s3)) (s1.free (s2.free hd)) (s1.free hl) (ne_of_none upd_same hd) upd_same ?_
  rw [← em]
  exact s3 _ _ upd_same

def sp_law_fresh (K : PySem.W.Frag) : Sp := fun vs H Q _ => ∃ p, vs = [.ref p] ∧ Pen K H p ∧ ∀ H' (r : Int), Dr p H H' → Q (.int r) H'
theorem fresh_bound (a p : Int) (h : p = 2305843009213693951) : 0 ≤ a % p ∧ a % p < p := by
  subst h
  exact ⟨Int.emod_nonneg _ (by decide), Int.emod_lt_of_pos _ (by decide)⟩

abbrev s_law_fresh : Stmt := top 11
theorem sc_law_fresh : FnScope ["pen", "position", "cell", "prime", "state", "mixed", "step"] ["pen"] (defScope s_law_fresh) := ⟨rfl, rfl, rfl, by decide +kernel, rfl, by decide +kernel, by decide +kernel⟩
theorem ok_law_fresh {f : Addr} {fd : FuncData} (F : Fun K "_law_fresh" "_law_fresh" s_law_fresh f fd) (m_range : mg "range" = none) (m_len : mg "len" = none) : FnG P w K mg base CX0 1 f fd ["pen"] (sp_law_fresh K) := by
  refine okG F sc_law_fresh (fun vs H Q E h => ?_) (fun cdv A o s H vs Q E hr h => ?_)
  · obtain ⟨a, rfl, _⟩ := h
    rfl
  obtain ⟨p, rfl, ⟨c, ns, i, m, hP, hC, ne⟩, q⟩ := h
  refine ⟨_, (pss_cons (ps_set (i := 1) sc_law_fresh.nd rfl (Or.inl rfl) (pe_ix ix_list (pv 0) pe_int (fun _ _ => rfl)))
      (pss_cons (ps_asg (pe_op op_add (pv 1) pe_int) (pg_sub (pv 0) pe_int set_list))
      (pss_cons (ps_set (i := 2) sc_law_fresh.nd rfl (Or.inl rfl) pe_int)
      (Evl.pss_cut (ps_if (pt_cmpR (op_neD hr.r.units) (pe_ix ix_list (pv 0) pe_int (fun _ _ => rfl)) (pe_lst pa_nil) (nomark _)) (pss_one (ps_set (i := 2) sc_law_fresh.nd rfl (Or.inl rfl) (pe_ix ix_list (pe_ix ix_list (pv 0) pe_int (fun _ _ => rfl)) (pe_op op_mod (pv 1) (pe_callB call_len_seq (by rfl) m_len (by decide +kernel) (pa_cons (pe_ix ix_list (pv 0) pe_int (fun _ _ => rfl)) pa_nil))) (fun _ _ => rfl)))) pss_nil)
      (Evl.pss_cut (ps_if (PW.pt (pw_and (pt_cmpR op_lt (pv 1) (pe_callB call_len_seq (by rfl) m_len (by decide +kernel) (pa_cons (pe_ix ix_list (pv 0) pe_int (fun _ _ => rfl)) pa_nil)) (nomark _)) (pw_and1 (pt_cmpR op_ge (pv 2) (pe_op op_pow pe_int pe_int) (nomark _))))) (pss_one (ps_ret (pe_op op_sub (pv 2) (pe_op op_pow pe_int pe_int)))) pss_nil)
      (pss_cons (ps_set (i := 3) sc_law_fresh.nd rfl (Or.inl rfl) pe_int)
      (pss_cons (ps_set (i := 4) sc_law_fresh.nd rfl (Or.inl rfl) (pe_op op_mod (pe_op op_add (pe_op op_add (pe_op op_mul (pv 2) pe_int) (pe_op op_mul pe_int (pv 1))) pe_int) (pv 3)))
      (pss_cons (ps_set (i := 5) sc_law_fresh.nd rfl (Or.inl rfl) (pv 4))
      (pss_cons (ps_for PassesOwn.never rfl (pi_range1 rfl m_range (pa_cons pe_int pa_nil)) (pg_name (i := 6) sc_law_fresh.nd rfl (Or.inl rfl)) (pss_cons (ps_set (i := 4) sc_law_fresh.nd rfl (Or.inl rfl) (pe_op op_add (pe_op op_mul (pv 4) (pv 4)) (pe_op op_mul (pe_op op_mul pe_int (pe_op op_add (pv 6) pe_int)) (pe_op op_add (pv 1) pe_int))))
      (pss_cons (ps_set (i := 4) sc_law_fresh.nd rfl (Or.inl rfl) (pe_op op_mod (pe_op op_add (pv 4) (pv 2)) (pv 3)))
      (pss_one (ps_set (i := 5) sc_law_fresh.nd rfl (Or.inl rfl) (pe_op op_add (pe_op op_mul (pv 5) (pv 3)) (pv 4)))))))
      (pss_one (ps_ret (pv 5)))))))))))), ?_⟩
  have P0 : PenAt K H p c ns i m := ⟨hP, hC, ne⟩
  have P1 := P0.put (i + 1) m
  refine ⟨_, rfl, p, _, 1, _, rfl, rfl, SqL.of hP, rfl, ?_⟩
  refine ⟨_, rfl, _, _, rfl, rfl, ?_⟩
  refine ⟨_, rfl, p, _, 1, 1, rfl, rfl, hP, rfl, ?_⟩
  have b1 : But p H (upd H p (.lst [.ref c, .int (i + 1), .int m])) := But.upd
  -- cell = 0; if pen[0] != []
  refine ⟨fun σ H2 => ∃ z : Int, σ = [some (.ref p), some (.int i), some (.int z), none, none, none, none] ∧ But p H H2 ∧ PenAt K H2 p c ns (i + 1) m, ?_, ?_⟩
  · refine ⟨_, rfl, p, _, 0, _, rfl, rfl, SqL.of P1.1, rfl, Nat.zero_le _, fun e0 he => ?_⟩
    have s1 := same_new he (.lst [])
    have P2 : PenAt K (upd (upd H p (.lst [.ref c, .int (i + 1), .int m])) e0 (.lst [])) p c ns (i + 1) m := ⟨s1 _ _ P1.1, s1.seq P1.2.1, ne⟩
    have b2 : But p H (upd (upd H p (.lst [.ref c, .int (i + 1), .int m])) e0 (.lst [])) := b1.trans (.new he _)
    refine ⟨.list (ns.map .int), .list [], .lst P2.2.1 (dp_ints K _ ns), .lst (SqL.of upd_same) .nil, shaped_ints ns, rfl, _, rfl, ?_⟩
    refine ite2 (fun hne => ?_) (fun _ => ?_)
    · have hn : ns ≠ [] := fun e => by
        subst e
        exact absurd hne (by decide)
      have hl : 0 < ((ns.map V.int).length : Int) := by
        rw [List.length_map]
        have := List.length_pos_iff.mpr hn
        omega
      have hm0 := Int.emod_nonneg i (show ((ns.map V.int).length : Int) ≠ 0 by omega)
      have hm1 := Int.emod_lt_of_pos i hl
      obtain ⟨v, hv⟩ := at_map (ns := ns) hm0 (by rw [List.length_map] at hm1 ⊢; exact hm1)
      refine ⟨_, rfl, p, _, 0, _, rfl, rfl, SqL.of P2.1, rfl, _, rfl, _, rfl, p, _, 0, _, rfl, rfl, SqL.of P2.1, rfl, c, _, rfl, .inl P2.2.1, _, _, rfl, rfl, hl, ?_⟩
      exact ⟨c, _, _, _, rfl, rfl, P2.2.1, hv, v, rfl, b2, P2⟩
    · exact ⟨0, rfl, b2, P2⟩
  · rintro σ H2 ⟨z, rfl, b2, P2⟩
    have fin : ∀ r : Int, Q (.int r) H2 := fun r => q H2 r (.put b2 P0 P2.1)
    -- if position < len(pen[0]) and cell >= 10 ** 18: return ..
    refine ⟨fun σ' H' => σ' = [some (.ref p), some (.int i), some (.int z), none, none, none, none] ∧ H' = H2, ?_, ?_⟩
    · refine ⟨_, rfl, _, rfl, p, _, 0, _, rfl, rfl, SqL.of P2.1, rfl, c, _, rfl, .inl P2.2.1, _, _, rfl, rfl, _, rfl, ?_⟩
      refine ite2 (fun _ => ?_) (fun _ => iteF ⟨rfl, rfl⟩)
      refine ⟨_, rfl, _, _, rfl, rfl, ⟨by decide, by decide, by decide⟩, _, _, rfl, rfl, _, rfl, ?_⟩
      refine ite2 (fun _ => ?_) (fun _ => ⟨rfl, rfl⟩)
      exact ⟨_, rfl, _, _, rfl, rfl, ⟨by decide, by decide, by decide⟩, _, _, rfl, rfl, fin _⟩
    rintro _ H3 ⟨rfl, rfl⟩
    -- prime, state, mixed
    refine ⟨_, rfl, _, _, rfl, rfl, .inr ⟨by decide, by decide⟩, _, rfl, _, _, rfl, rfl, .inl ⟨by decide, by decide⟩, _, _, rfl, rfl, _, _, rfl, rfl, _, rfl, _, _, rfl, rfl, (by show (0 : Int) < 2305843009213693951; decide), ?_⟩
    refine ⟨_, rfl, ?_⟩
    refine ⟨6, rfl, by decide, by decide, for_range (n := 6) (fun _ σ' H' => H' = H3 ∧ ∃ (st mx : Int) (sp : Option V), 0 ≤ st ∧ st < 2305843009213693951 ∧ σ' = [some (.ref p), some (.int i), some (.int z), some (.int 2305843009213693951), some (.int st), some (.int mx), sp]) ?_ ?_ ?_⟩
    · obtain ⟨h0, h1⟩ := fresh_bound (z * 48271 + 40692 * i + 31) _ rfl
      exact ⟨rfl, _, _, _, h0, h1, rfl⟩
    · rintro j σ' H' hj ⟨rfl, st, mx, sp, h0, h1, rfl⟩
      refine ⟨_, rfl, _, rfl, _, _, rfl, rfl, .inl ⟨by omega, by omega⟩, _, rfl, _, _, rfl, rfl, _, _, rfl, rfl, .inl ⟨by decide, by decide⟩, _, rfl, _, _, rfl, rfl, _, _, rfl, rfl, .inl ⟨by omega, by omega⟩, _, _, rfl, rfl, ?_⟩
      refine ⟨_, rfl, _, rfl, _, _, rfl, rfl, _, rfl, _, _, rfl, rfl, (by show (0 : Int) < 2305843009213693951; decide), ?_⟩
      refine ⟨_, rfl, _, rfl, _, _, rfl, rfl, .inr ⟨by decide, by decide⟩, _, rfl, _, _, rfl, rfl, ?_⟩
      obtain ⟨h2, h3⟩ := fresh_bound (st * st + 69621 * (0 + (j : Int) + 1) * (i + 1) + z) _ rfl
      exact ⟨rfl, _, _, _, h2, h3, rfl⟩
    · rintro σ' H' ⟨rfl, st, mx, sp, h0, h1, rfl⟩
      exact ⟨_, rfl, fin _⟩


abbrev S_law_draw : Dl.DSp := Dl.S_draw

abbrev s_law_draw : Stmt := top 12
theorem sc_law_draw : FnScope ["pen", "bound", "digit"] ["pen", "bound"] (defScope s_law_draw) := ⟨rfl, rfl, rfl, by decide +kernel, rfl, by decide +kernel, by decide +kernel⟩
theorem ok_law_draw {f : Addr} {fd : FuncData} (F : Fun K "_law_draw" "_law_draw" s_law_draw f fd) (c__law_fresh : Cal P w K mg base "_law_fresh" 1 ["pen"] (sp_law_fresh K)) : FnG P w K mg base CX0 2 f fd ["pen", "bound"] (Dl.spD K S_law_draw) := by
  obtain ⟨f__law_fresh, fd__law_fresh, G__law_fresh, m__law_fresh, k__law_fresh, b__law_fresh⟩ := c__law_fresh.ex
  refine Dl.draw_conv ?_
  refine okG F sc_law_draw (fun vs H Q E h => ?_) (fun cdv A o s H vs Q E hr h => ?_)
  · obtain ⟨a, b, rfl, _⟩ := h
    rfl
  obtain ⟨p, b, rfl, hPen, hb, hb2, q⟩ := h
  refine ⟨_, (Evl.pss_cut (ps_if (pt_cmpR op_lt (pe_ix ix_list (pv 0) pe_int (fun _ _ => rfl)) (pv 1) (nomark _)) (pss_one (ps_asg (ge_call G__law_fresh (hr.mono (by first | decide | omega)) (by rfl) m__law_fresh k__law_fresh b__law_fresh .nil pass0 (pa_cons (pv 0) pa_nil)) (pg_sub (pv 0) pe_int set_list))) pss_nil)
      (pss_cons (ps_set (i := 2) sc_law_draw.nd rfl (Or.inl rfl) (pe_op op_mod (pe_ix ix_list (pv 0) pe_int (fun _ _ => rfl)) (pv 1)))
      (pss_cons (ps_asg (pe_op op_fdivW (pe_ix ix_list (pv 0) pe_int (fun _ _ => rfl)) (pv 1)) (pg_sub (pv 0) pe_int set_list))
      (pss_one (ps_ret (pv 2)))))), ?_⟩
  refine ⟨fun σ H2 => σ = [some (.ref p), some (.int b), none] ∧ Dr p H H2, ?_, ?_⟩
  · obtain ⟨c, ns, i, m, hP, hC, ne⟩ := id hPen
    refine ⟨_, rfl, p, _, 2, _, rfl, rfl, SqL.of hP, rfl, _, rfl, _, _, rfl, rfl, _, rfl, ?_⟩
    refine ite2 (fun _ => ?_) (fun _ => ⟨rfl, .refl _ _⟩)
    refine ⟨_, rfl, p, rfl, hPen, fun H' r k1 => ?_⟩
    obtain ⟨c', ns', i', m', P2⟩ := k1.pen hPen
    refine ⟨_, rfl, p, _, 2, 2, rfl, rfl, P2.1, rfl, rfl, k1.trans (.put .upd P2 (P2.put i' r).1)⟩
  · rintro _ H2 ⟨rfl, b1⟩
    obtain ⟨c, ns, i, m, P2⟩ := b1.pen hPen
    refine ⟨_, rfl, p, _, 2, _, rfl, rfl, SqL.of P2.1, rfl, _, rfl, _, _, rfl, rfl, hb, ?_⟩
    refine ⟨_, rfl, p, _, 2, _, rfl, rfl, SqL.of P2.1, rfl, _, rfl, _, _, rfl, rfl, wide_div hb hb2 (by decide) (by decide), ?_⟩
    refine ⟨_, rfl, p, _, 2, 2, rfl, rfl, P2.1, rfl, ?_⟩
    exact ⟨_, rfl, q _ _ (b1.trans (.put .upd P2 (P2.put i _).1)) (Int.emod_nonneg _ (by omega)) (Int.emod_lt_of_pos _ hb)⟩


def S_law_modulus : Dl.DSp := Dl.mkS (fun (_ : Unit) => [.pen]) fun _ Q => ∀ q : Int, 2 ≤ q → q ≤ 1000 → Q (.d (.int q))

abbrev s_law_modulus : Stmt := top 13
theorem sc_law_modulus : FnScope ["pen"] ["pen"] (defScope s_law_modulus) := ⟨rfl, rfl, rfl, by decide +kernel, rfl, by decide +kernel, by decide +kernel⟩
open Dl in
theorem ok_law_modulus {f : Addr} {fd : FuncData} (F : Fun K "_law_modulus" "_law_modulus" s_law_modulus f fd) (c__law_draw : Cal P w K mg base "_law_draw" 2 ["pen", "bound"] (Dl.spD K S_law_draw)) : FnG P w K mg base CX0 3 f fd ["pen"] (Dl.spD K S_law_modulus) := by
  obtain ⟨f__law_draw, fd__law_draw, G__law_draw, m__law_draw, k__law_draw, b__law_draw⟩ := c__law_draw.ex
  refine okD F sc_law_modulus (fun ss Q h => by obtain ⟨x, rfl, _⟩ := h; rfl) (fun cdv A o s H E hr => (qs_one (q_ret (pd_ix ix_seq ix_d (ph_of (pd_new (pf_lst (pl_cons pd_int (pl_cons pd_int (pl_cons pd_int (pl_cons pd_int (pl_cons pd_int (pl_cons pd_int (pl_cons pd_int (pl_cons pd_int (pl_cons pd_int (pl_cons (pd_op op_addA add_d (ph_of pd_int) (ph_of (pd_call G__law_draw (hr.mono (by first | decide | omega)) (by rfl) m__law_draw k__law_draw b__law_draw (pa_consD (pv_var (pv 0)) (pa_consD (pv_d pd_int) pa_nilD))))) pl_nil))))))))))))) (ph_of (pd_call G__law_draw (hr.mono (by first | decide | omega)) (by rfl) m__law_draw k__law_draw b__law_draw (pa_consD (pv_var (pv 0)) (pa_consD (pv_d pd_int) pa_nilD)))) (fun _ _ => rfl))))) (fun ss Q h => ?_)
  obtain ⟨_, rfl, done⟩ := h
  try simp only [Dl.sSeq, Dl.sCut, Dl.sNext, Dl.sNever, Dl.sIf, Dl.sExpr, Dl.sRet, Dl.sRetF, Dl.sRetO, Dl.sAsg, Dl.sSet, Dl.sSetF, Dl.sFrz, Dl.sMove, Dl.sAug, Dl.sApp, Dl.sPut, Dl.sFor, Dl.sPar, Dl.wVar, Dl.wVarH, Dl.wC, Dl.wOp, Dl.wOpF, Dl.gB, Dl.wAnd, Dl.wOr, Dl.wNot, Dl.wAndV, Dl.wOrV, Dl.wNotV, Dl.wIf, Dl.wChain, Dl.vD, Dl.vVar, Dl.aNil, Dl.aCons, Dl.lNil, Dl.lCons, Dl.lStar, Dl.wTup, Dl.wLst, Dl.dName, Dl.dNil, Dl.dCons, Dl.dTup, Dl.wUn, Dl.wUnF, Dl.wIsi, Dl.isD, Dl.w2I, Dl.wCall, Dl.wCallF, Dl.wCallK, Dl.rD, Dl.rF, Dl.mkS, Dl.iSeq, Dl.iTupl, Dl.iAny, Dl.iRg1, Dl.iRg2, Dl.iRev, Dl.rg1, Dl.rg2, Dl.iEn, Dl.iZp, Dl.iStrD, Dl.wLc, Dl.wipeE, Dl.wYes, Dl.wSl, Dl.wSlF, Dl.oNone, Dl.oSome, Dl.gSl, Dl.gAdd, Dl.gCat, Dl.gRep, Dl.gSub, Dl.gMul, Dl.gMod, Dl.gDiv, Dl.gPow, Dl.gLt, Dl.gLe, Dl.gGt, Dl.gGe, Dl.gEq, Dl.gNe, Dl.gIsN, Dl.gNotN, Dl.isN, Dl.gIx, Dl.gLen, Dl.gTupOf, Dl.gListOf, Dl.gSum, Dl.gRep1, Dl.gInt, Dl.gAll, Dl.gNeg, Dl.xF, Dl.wZip2, Dl.wZipS, Dl.sAugS, Dl.sExt, Dl.sNewU, Dl.sPutU, Dl.wTupU, Dl.gRev, Dl.gIn, Dl.gNotIn, Dl.wLenS, Dl.uVar, Dl.uD, Dl.wGetU, Dl.wInU, Dl.gDictP, Dl.gSortS, Dl.gSortSet, Dl.wReprU, Dl.wReprL, Dl.gReprU, Dl.sRaise, Dl.mkD1, Dl.mkD2, Dl.sCallX, Dl.sRetX, Dl.sSetX, List.map_cons, List.map_nil, List.length_cons, List.length_nil, List.replicate_succ, List.replicate_zero, List.cons_append, List.nil_append, List.set_cons_zero, List.set_cons_succ, List.getElem?_cons_zero, List.getElem?_cons_succ, if_true, if_false, Bool.false_eq_true, Bool.not_true, Bool.not_false, reduceIte, Nat.reduceAdd, Nat.reduceSub]
  refine ⟨999, rfl, by decide, by decide, fun r h0 h1 => ?_⟩
  try simp only [Dl.sSeq, Dl.sCut, Dl.sNext, Dl.sNever, Dl.sIf, Dl.sExpr, Dl.sRet, Dl.sRetF, Dl.sRetO, Dl.sAsg, Dl.sSet, Dl.sSetF, Dl.sFrz, Dl.sMove, Dl.sAug, Dl.sApp, Dl.sPut, Dl.sFor, Dl.sPar, Dl.wVar, Dl.wVarH, Dl.wC, Dl.wOp, Dl.wOpF, Dl.gB, Dl.wAnd, Dl.wOr, Dl.wNot, Dl.wAndV, Dl.wOrV, Dl.wNotV, Dl.wIf, Dl.wChain, Dl.vD, Dl.vVar, Dl.aNil, Dl.aCons, Dl.lNil, Dl.lCons, Dl.lStar, Dl.wTup, Dl.wLst, Dl.dName, Dl.dNil, Dl.dCons, Dl.dTup, Dl.wUn, Dl.wUnF, Dl.wIsi, Dl.isD, Dl.w2I, Dl.wCall, Dl.wCallF, Dl.wCallK, Dl.rD, Dl.rF, Dl.mkS, Dl.iSeq, Dl.iTupl, Dl.iAny, Dl.iRg1, Dl.iRg2, Dl.iRev, Dl.rg1, Dl.rg2, Dl.iEn, Dl.iZp, Dl.iStrD, Dl.wLc, Dl.wipeE, Dl.wYes, Dl.wSl, Dl.wSlF, Dl.oNone, Dl.oSome, Dl.gSl, Dl.gAdd, Dl.gCat, Dl.gRep, Dl.gSub, Dl.gMul, Dl.gMod, Dl.gDiv, Dl.gPow, Dl.gLt, Dl.gLe, Dl.gGt, Dl.gGe, Dl.gEq, Dl.gNe, Dl.gIsN, Dl.gNotN, Dl.isN, Dl.gIx, Dl.gLen, Dl.gTupOf, Dl.gListOf, Dl.gSum, Dl.gRep1, Dl.gInt, Dl.gAll, Dl.gNeg, Dl.xF, Dl.wZip2, Dl.wZipS, Dl.sAugS, Dl.sExt, Dl.sNewU, Dl.sPutU, Dl.wTupU, Dl.gRev, Dl.gIn, Dl.gNotIn, Dl.wLenS, Dl.uVar, Dl.uD, Dl.wGetU, Dl.wInU, Dl.gDictP, Dl.gSortS, Dl.gSortSet, Dl.wReprU, Dl.wReprL, Dl.gReprU, Dl.sRaise, Dl.mkD1, Dl.mkD2, Dl.sCallX, Dl.sRetX, Dl.sSetX, List.map_cons, List.map_nil, List.length_cons, List.length_nil, List.replicate_succ, List.replicate_zero, List.cons_append, List.nil_append, List.set_cons_zero, List.set_cons_succ, List.getElem?_cons_zero, List.getElem?_cons_succ, if_true, if_false, Bool.false_eq_true, Bool.not_true, Bool.not_false, reduceIte, Nat.reduceAdd, Nat.reduceSub]
  refine ⟨by decide, 10, rfl, by decide, by decide, fun k k0 k1 => ?_⟩
  try simp only [Dl.sSeq, Dl.sCut, Dl.sNext, Dl.sNever, Dl.sIf, Dl.sExpr, Dl.sRet, Dl.sRetF, Dl.sRetO, Dl.sAsg, Dl.sSet, Dl.sSetF, Dl.sFrz, Dl.sMove, Dl.sAug, Dl.sApp, Dl.sPut, Dl.sFor, Dl.sPar, Dl.wVar, Dl.wVarH, Dl.wC, Dl.wOp, Dl.wOpF, Dl.gB, Dl.wAnd, Dl.wOr, Dl.wNot, Dl.wAndV, Dl.wOrV, Dl.wNotV, Dl.wIf, Dl.wChain, Dl.vD, Dl.vVar, Dl.aNil, Dl.aCons, Dl.lNil, Dl.lCons, Dl.lStar, Dl.wTup, Dl.wLst, Dl.dName, Dl.dNil, Dl.dCons, Dl.dTup, Dl.wUn, Dl.wUnF, Dl.wIsi, Dl.isD, Dl.w2I, Dl.wCall, Dl.wCallF, Dl.wCallK, Dl.rD, Dl.rF, Dl.mkS, Dl.iSeq, Dl.iTupl, Dl.iAny, Dl.iRg1, Dl.iRg2, Dl.iRev, Dl.rg1, Dl.rg2, Dl.iEn, Dl.iZp, Dl.iStrD, Dl.wLc, Dl.wipeE, Dl.wYes, Dl.wSl, Dl.wSlF, Dl.oNone, Dl.oSome, Dl.gSl, Dl.gAdd, Dl.gCat, Dl.gRep, Dl.gSub, Dl.gMul, Dl.gMod, Dl.gDiv, Dl.gPow, Dl.gLt, Dl.gLe, Dl.gGt, Dl.gGe, Dl.gEq, Dl.gNe, Dl.gIsN, Dl.gNotN, Dl.isN, Dl.gIx, Dl.gLen, Dl.gTupOf, Dl.gListOf, Dl.gSum, Dl.gRep1, Dl.gInt, Dl.gAll, Dl.gNeg, Dl.xF, Dl.wZip2, Dl.wZipS, Dl.sAugS, Dl.sExt, Dl.sNewU, Dl.sPutU, Dl.wTupU, Dl.gRev, Dl.gIn, Dl.gNotIn, Dl.wLenS, Dl.uVar, Dl.uD, Dl.wGetU, Dl.wInU, Dl.gDictP, Dl.gSortS, Dl.gSortSet, Dl.wReprU, Dl.wReprL, Dl.gReprU, Dl.sRaise, Dl.mkD1, Dl.mkD2, Dl.sCallX, Dl.sRetX, Dl.sSetX, List.map_cons, List.map_nil, List.length_cons, List.length_nil, List.replicate_succ, List.replicate_zero, List.cons_append, List.nil_append, List.set_cons_zero, List.set_cons_succ, List.getElem?_cons_zero, List.getElem?_cons_succ, if_true, if_false, Bool.false_eq_true, Bool.not_true, Bool.not_false, reduceIte, Nat.reduceAdd, Nat.reduceSub]
  have c : k = 0 ∨ k = 1 ∨ k = 2 ∨ k = 3 ∨ k = 4 ∨ k = 5 ∨ k = 6 ∨ k = 7 ∨ k = 8 ∨ k = 9 := by omega
  rcases c with rfl | rfl | rfl | rfl | rfl | rfl | rfl | rfl | rfl | rfl <;> exact ⟨_, rfl, done _ (by omega) (by omega)⟩

def S_law_residues : Dl.DSp := Dl.mkS (fun (x : Int × Nat) => [.pen, .d (.int x.1), .d (.int x.2)]) fun (q, m) Q => 0 < q ∧ q ≤ 1000000 ∧ m ≤ 1000 ∧ ∀ xs : List Int, xs.length = m → (∀ x ∈ xs, 0 ≤ x ∧ x < q) → Q (.d (rowD xs))

abbrev s_law_residues : Stmt := top 20
theorem sc_law_residues : FnScope ["pen", "q", "length", "k"] ["pen", "q", "length"] (defScope s_law_residues) := ⟨rfl, rfl, rfl, by decide +kernel, rfl, by decide +kernel, by decide +kernel⟩
open Dl in
theorem ok_law_residues {f : Addr} {fd : FuncData} (F : Fun K "_law_residues" "_law_residues" s_law_residues f fd) (m_tuple : mg "tuple" = none) (m_range : mg "range" = none) (c__law_draw : Cal P w K mg base "_law_draw" 2 ["pen", "bound"] (Dl.spD K S_law_draw)) : FnG P w K mg base CX0 3 f fd ["pen", "q", "length"] (Dl.spD K S_law_residues) := by
  obtain ⟨f__law_draw, fd__law_draw, G__law_draw, m__law_draw, k__law_draw, b__law_draw⟩ := c__law_draw.ex
  refine okD F sc_law_residues (fun ss Q h => by obtain ⟨x, rfl, _⟩ := h; rfl) (fun cdv A o s H E hr => (qs_one (q_ret (pd_type (call_tuple_ofK K) tupOf_d (by rfl) m_tuple (by decide +kernel) (ph_of (pd_new (pf_lc (own := [("k", 3)]) (by rfl) sc_law_residues.nd (qi_range1 rfl m_range (pd_var (pv 2))) (blkOk_by (own := [("k", 3)]) (by kernel_rfl)) (fun _ _ _ _ _ => (qg_name (i := 3) sc_law_residues.nd rfl (Or.inl rfl))) (fun _ _ _ _ _ => qts_nil) (fun _ _ _ _ _ => (pd_call G__law_draw (hr.mono (by first | decide | omega)) (by rfl) m__law_draw k__law_draw b__law_draw (pa_consD (pv_var (pv 0)) (pa_consD (pv_var (pv 1)) pa_nilD))))))))))) (fun ss Q h => ?_)
  obtain ⟨⟨q, m⟩, rfl, hq, hq2, hm, done⟩ := h
  try simp only [Dl.sSeq, Dl.sCut, Dl.sNext, Dl.sNever, Dl.sIf, Dl.sExpr, Dl.sRet, Dl.sRetF, Dl.sRetO, Dl.sAsg, Dl.sSet, Dl.sSetF, Dl.sFrz, Dl.sMove, Dl.sAug, Dl.sApp, Dl.sPut, Dl.sFor, Dl.sPar, Dl.wVar, Dl.wVarH, Dl.wC, Dl.wOp, Dl.wOpF, Dl.gB, Dl.wAnd, Dl.wOr, Dl.wNot, Dl.wAndV, Dl.wOrV, Dl.wNotV, Dl.wIf, Dl.wChain, Dl.vD, Dl.vVar, Dl.aNil, Dl.aCons, Dl.lNil, Dl.lCons, Dl.lStar, Dl.wTup, Dl.wLst, Dl.dName, Dl.dNil, Dl.dCons, Dl.dTup, Dl.wUn, Dl.wUnF, Dl.wIsi, Dl.isD, Dl.w2I, Dl.wCall, Dl.wCallF, Dl.wCallK, Dl.rD, Dl.rF, Dl.mkS, Dl.iSeq, Dl.iTupl, Dl.iAny, Dl.iRg1, Dl.iRg2, Dl.iRev, Dl.rg1, Dl.rg2, Dl.iEn, Dl.iZp, Dl.iStrD, Dl.wLc, Dl.wipeE, Dl.wYes, Dl.wSl, Dl.wSlF, Dl.oNone, Dl.oSome, Dl.gSl, Dl.gAdd, Dl.gCat, Dl.gRep, Dl.gSub, Dl.gMul, Dl.gMod, Dl.gDiv, Dl.gPow, Dl.gLt, Dl.gLe, Dl.gGt, Dl.gGe, Dl.gEq, Dl.gNe, Dl.gIsN, Dl.gNotN, Dl.isN, Dl.gIx, Dl.gLen, Dl.gTupOf, Dl.gListOf, Dl.gSum, Dl.gRep1, Dl.gInt, Dl.gAll, Dl.gNeg, Dl.xF, Dl.wZip2, Dl.wZipS, Dl.sAugS, Dl.sExt, Dl.sNewU, Dl.sPutU, Dl.wTupU, Dl.gRev, Dl.gIn, Dl.gNotIn, Dl.wLenS, Dl.uVar, Dl.uD, Dl.wGetU, Dl.wInU, Dl.gDictP, Dl.gSortS, Dl.gSortSet, Dl.wReprU, Dl.wReprL, Dl.gReprU, Dl.sRaise, Dl.mkD1, Dl.mkD2, Dl.sCallX, Dl.sRetX, Dl.sSetX, List.map_cons, List.map_nil, List.length_cons, List.length_nil, List.replicate_succ, List.replicate_zero, List.cons_append, List.nil_append, List.set_cons_zero, List.set_cons_succ, List.getElem?_cons_zero, List.getElem?_cons_succ, if_true, if_false, Bool.false_eq_true, Bool.not_true, Bool.not_false, reduceIte, Nat.reduceAdd, Nat.reduceSub]
  simp only [Int.toNat_natCast]
  refine ⟨sm_n (by omega), lc_sz (by omega), ?_⟩
  refine lcW_rngA (fun _ r => ∃ x : Int, r = .int x ∧ 0 ≤ x ∧ x < q) (fun i ok skip hi h => ?_) fun rs hl hr => ?_
  · try simp only [Dl.sSeq, Dl.sCut, Dl.sNext, Dl.sNever, Dl.sIf, Dl.sExpr, Dl.sRet, Dl.sRetF, Dl.sRetO, Dl.sAsg, Dl.sSet, Dl.sSetF, Dl.sFrz, Dl.sMove, Dl.sAug, Dl.sApp, Dl.sPut, Dl.sFor, Dl.sPar, Dl.wVar, Dl.wVarH, Dl.wC, Dl.wOp, Dl.wOpF, Dl.gB, Dl.wAnd, Dl.wOr, Dl.wNot, Dl.wAndV, Dl.wOrV, Dl.wNotV, Dl.wIf, Dl.wChain, Dl.vD, Dl.vVar, Dl.aNil, Dl.aCons, Dl.lNil, Dl.lCons, Dl.lStar, Dl.wTup, Dl.wLst, Dl.dName, Dl.dNil, Dl.dCons, Dl.dTup, Dl.wUn, Dl.wUnF, Dl.wIsi, Dl.isD, Dl.w2I, Dl.wCall, Dl.wCallF, Dl.wCallK, Dl.rD, Dl.rF, Dl.mkS, Dl.iSeq, Dl.iTupl, Dl.iAny, Dl.iRg1, Dl.iRg2, Dl.iRev, Dl.rg1, Dl.rg2, Dl.iEn, Dl.iZp, Dl.iStrD, Dl.wLc, Dl.wipeE, Dl.wYes, Dl.wSl, Dl.wSlF, Dl.oNone, Dl.oSome, Dl.gSl, Dl.gAdd, Dl.gCat, Dl.gRep, Dl.gSub, Dl.gMul, Dl.gMod, Dl.gDiv, Dl.gPow, Dl.gLt, Dl.gLe, Dl.gGt, Dl.gGe, Dl.gEq, Dl.gNe, Dl.gIsN, Dl.gNotN, Dl.isN, Dl.gIx, Dl.gLen, Dl.gTupOf, Dl.gListOf, Dl.gSum, Dl.gRep1, Dl.gInt, Dl.gAll, Dl.gNeg, Dl.xF, Dl.wZip2, Dl.wZipS, Dl.sAugS, Dl.sExt, Dl.sNewU, Dl.sPutU, Dl.wTupU, Dl.gRev, Dl.gIn, Dl.gNotIn, Dl.wLenS, Dl.uVar, Dl.uD, Dl.wGetU, Dl.wInU, Dl.gDictP, Dl.gSortS, Dl.gSortSet, Dl.wReprU, Dl.wReprL, Dl.gReprU, Dl.sRaise, Dl.mkD1, Dl.mkD2, Dl.sCallX, Dl.sRetX, Dl.sSetX, List.map_cons, List.map_nil, List.length_cons, List.length_nil, List.replicate_succ, List.replicate_zero, List.cons_append, List.nil_append, List.set_cons_zero, List.set_cons_succ, List.getElem?_cons_zero, List.getElem?_cons_succ, if_true, if_false, Bool.false_eq_true, Bool.not_true, Bool.not_false, reduceIte, Nat.reduceAdd, Nat.reduceSub]
    refine ⟨q, rfl, hq, Nat.lt_of_lt_of_le (show q.natAbs < 1000001 by omega) (by decide), fun r h0 h1 => ?_⟩
    exact h _ ⟨r, rfl, h0, h1⟩
  · obtain ⟨xs, rfl, hx⟩ := ints_of hr
    exact done xs (by simpa using hl) hx

end
end Vk34

namespace Vk34
open PySem PySem.Spec PyProof.Rows L2 Vx
section
variable {P : Program} {w : World} {K : PySem.W.Frag} {mg : Str → Option Value} {base : Heap} {C_MissingVariable I_MissingVariable : Addr}
abbrev Cell := Str × Key
open Dl in
def ckey (c : Cell) : List Key := [.inr c.1, c.2]
open Dl in
def cellD (c : Cell) : PyData := .tuple ((ckey c).map keyD)
abbrev Term := Int × List Cell
def termD (t : Term) : PyData := .tuple [.int t.1, .tuple (t.2.map cellD)]
def polyD (p : List Term) : PyData := .tuple (p.map termD)
theorem ckey_inj {a b : Cell} (h : ckey a = ckey b) : a = b := by
  obtain ⟨a1, a2⟩ := a
  obtain ⟨b1, b2⟩ := b
  unfold ckey at h
  simp only [List.cons.injEq, and_true] at h
  obtain ⟨h1, h2⟩ := h
  cases h1; cases h2; rfl
theorem eqv_cell (a b : Cell) : PyData.eqv (cellD a) (cellD b) = decide (a = b) := by
  show PyData.eqvAll ((ckey a).map Dl.keyD) ((ckey b).map Dl.keyD) = _
  rw [Dl.eqv_keys]
  exact decide_eq_decide.mpr ⟨ckey_inj, fun h => by rw [h]⟩
noncomputable instance cellDec (c : Cell) (fs : List Cell) : Decidable (c ∈ fs) := Classical.propDecidable _
theorem any_cell (c : Cell) (fs : List Cell) : ((fs.map cellD).any fun z => PyData.eqv z (cellD c)) = decide (c ∈ fs) := by
  rw [List.any_map, Bool.eq_iff_iff]
  simp only [List.any_eq_true, Function.comp, decide_eq_true_eq, eqv_cell]
  exact ⟨fun ⟨x, h, e⟩ => e ▸ h, fun h => ⟨c, h, rfl⟩⟩
noncomputable def addC (fs : List Cell) (c : Cell) : List Cell := if c ∈ fs then fs else fs ++ [c]
noncomputable def firstsOf (cs : List Cell) : List Cell := cs.foldl addC []
def cellsP (p : List Term) : List Cell := p.flatMap (·.2)
theorem addC_len (fs : List Cell) (c : Cell) : (addC fs c).length ≤ fs.length + 1 := by
  unfold addC; split <;> simp
theorem firsts_len (cs : List Cell) : (firstsOf cs).length ≤ cs.length := by
  have : ∀ (cs fs : List Cell), (cs.foldl addC fs).length ≤ fs.length + cs.length := by
    intro cs
    induction cs with
    | nil => intro fs; simp
    | cons c cs ih =>
      intro fs
      have := ih (addC fs c)
      have := addC_len fs c
      simp only [List.foldl_cons, List.length_cons]; omega
  simpa [firstsOf] using this cs []
theorem firsts_snoc (cs : List Cell) (c : Cell) : firstsOf (cs ++ [c]) = addC (firstsOf cs) c := by
  unfold firstsOf; rw [List.foldl_append]; rfl
theorem firsts_mem {cs : List Cell} : ∀ c, c ∈ firstsOf cs → c ∈ cs := by
  have : ∀ (cs fs : List Cell) c, c ∈ cs.foldl addC fs → c ∈ fs ∨ c ∈ cs := by
    intro cs
    induction cs with
    | nil => intro fs c h; exact .inl h
    | cons a cs ih =>
      intro fs c h
      rcases ih _ c h with h | h
      · unfold addC at h
        split at h
        · exact .inl h
        · rcases List.mem_append.mp h with h | h
          · exact .inl h
          · exact .inr (by rw [List.mem_singleton.mp h]; exact List.mem_cons_self ..)
      · exact .inr (List.mem_cons_of_mem _ h)
  intro c h
  exact (this cs [] c h).elim (fun h => by cases h) id
theorem at_end {ds : List PyData} {d : PyData} : atI (ds ++ [d]) (-1) = some d := by
  unfold atI ixN
  rw [if_neg (by decide), if_pos (by simp; omega)]
  show (ds ++ [d])[((-1 : Int) + ((ds ++ [d]).length : Int)).toNat]? = some d
  rw [show ((-1 : Int) + ((ds ++ [d]).length : Int)).toNat = ds.length by simp; omega]
  simp
theorem poly_snoc (p : List Term) (t : Term) : p.map termD ++ [PyData.tuple [.int t.1, .tuple (t.2.map cellD)]] = (p ++ [t]).map termD := by rw [List.map_append]; rfl


def names6 : List Str := ["x", "xa", "xb", "abcdef", "abcdeg", "coin"]
def NameOk (n : Str) : Prop := n ∈ names6
theorem name_okc {n : Str} (h : NameOk n) : Dl.OkC n.cps.toList := by
  have : names6.all (fun n => n.cps.toList.all fun c => decide (c < 0x110000)) = true := by decide +kernel
  have h2 := List.all_eq_true.mp this n h
  intro c hc
  exact of_decide_eq_true (List.all_eq_true.mp h2 c hc)
theorem name_sz {n : Str} (h : NameOk n) : n.cps.size ≤ 6 := by
  have : names6.all (fun n => decide (n.cps.size ≤ 6)) = true := by decide +kernel
  exact of_decide_eq_true (List.all_eq_true.mp this n h)
def S_law_name : Dl.DSp := Dl.mkS (fun (_ : Unit) => [.pen]) fun _ Q => ∀ n : Str, NameOk n → Q (.d (.str n))

abbrev s_law_name : Stmt := top 14
theorem sc_law_name : FnScope ["pen"] ["pen"] (defScope s_law_name) := ⟨rfl, rfl, rfl, by decide +kernel, rfl, by decide +kernel, by decide +kernel⟩
open Dl in
theorem ok_law_name {f : Addr} {fd : FuncData} (F : Fun K "_law_name" "_law_name" s_law_name f fd) (c__law_draw : Cal P w K mg base "_law_draw" 2 ["pen", "bound"] (Dl.spD K S_law_draw)) : FnG P w K mg base CX0 3 f fd ["pen"] (Dl.spD K S_law_name) := by
  obtain ⟨f__law_draw, fd__law_draw, G__law_draw, m__law_draw, k__law_draw, b__law_draw⟩ := c__law_draw.ex
  refine okD F sc_law_name (fun ss Q h => by obtain ⟨x, rfl, _⟩ := h; rfl) (fun cdv A o s H E hr => (qs_one (q_ret (pd_ix ix_seq ix_d (ph_of (pd_new (pf_lst (pl_cons pd_str (pl_cons pd_str (pl_cons pd_str (pl_cons pd_str (pl_cons pd_str (pl_cons pd_str pl_nil))))))))) (ph_of (pd_call G__law_draw (hr.mono (by first | decide | omega)) (by rfl) m__law_draw k__law_draw b__law_draw (pa_consD (pv_var (pv 0)) (pa_consD (pv_d pd_int) pa_nilD)))) (fun _ _ => rfl))))) (fun ss Q h => ?_)
  obtain ⟨_, rfl, done⟩ := h
  try simp only [Dl.sSeq, Dl.sCut, Dl.sNext, Dl.sNever, Dl.sIf, Dl.sExpr, Dl.sRet, Dl.sRetF, Dl.sRetO, Dl.sAsg, Dl.sSet, Dl.sSetF, Dl.sFrz, Dl.sMove, Dl.sAug, Dl.sApp, Dl.sPut, Dl.sFor, Dl.sPar, Dl.wVar, Dl.wVarH, Dl.wC, Dl.wOp, Dl.wOpF, Dl.gB, Dl.wAnd, Dl.wOr, Dl.wNot, Dl.wAndV, Dl.wOrV, Dl.wNotV, Dl.wIf, Dl.wChain, Dl.vD, Dl.vVar, Dl.aNil, Dl.aCons, Dl.lNil, Dl.lCons, Dl.lStar, Dl.wTup, Dl.wLst, Dl.dName, Dl.dNil, Dl.dCons, Dl.dTup, Dl.wUn, Dl.wUnF, Dl.wIsi, Dl.isD, Dl.w2I, Dl.wCall, Dl.wCallF, Dl.wCallK, Dl.rD, Dl.rF, Dl.mkS, Dl.iSeq, Dl.iTupl, Dl.iAny, Dl.iRg1, Dl.iRg2, Dl.iRev, Dl.rg1, Dl.rg2, Dl.iEn, Dl.iZp, Dl.iStrD, Dl.wLc, Dl.wipeE, Dl.wYes, Dl.wSl, Dl.wSlF, Dl.oNone, Dl.oSome, Dl.gSl, Dl.gAdd, Dl.gCat, Dl.gRep, Dl.gSub, Dl.gMul, Dl.gMod, Dl.gDiv, Dl.gPow, Dl.gLt, Dl.gLe, Dl.gGt, Dl.gGe, Dl.gEq, Dl.gNe, Dl.gIsN, Dl.gNotN, Dl.isN, Dl.gIx, Dl.gLen, Dl.gTupOf, Dl.gListOf, Dl.gSum, Dl.gRep1, Dl.gInt, Dl.gAll, Dl.gNeg, Dl.xF, Dl.wZip2, Dl.wZipS, Dl.sAugS, Dl.sExt, Dl.sNewU, Dl.sPutU, Dl.wTupU, Dl.gRev, Dl.gIn, Dl.gNotIn, Dl.wLenS, Dl.uVar, Dl.uD, Dl.wGetU, Dl.wInU, Dl.gDictP, Dl.gSortS, Dl.gSortSet, Dl.wReprU, Dl.wReprL, Dl.gReprU, Dl.sRaise, Dl.mkD1, Dl.mkD2, Dl.sCallX, Dl.sRetX, Dl.sSetX, List.map_cons, List.map_nil, List.length_cons, List.length_nil, List.replicate_succ, List.replicate_zero, List.cons_append, List.nil_append, List.set_cons_zero, List.set_cons_succ, List.getElem?_cons_zero, List.getElem?_cons_succ, if_true, if_false, Bool.false_eq_true, Bool.not_true, Bool.not_false, reduceIte, Nat.reduceAdd, Nat.reduceSub]
  refine ⟨by decide, 6, rfl, by decide, by decide, fun k k0 k1 => ?_⟩
  try simp only [Dl.sSeq, Dl.sCut, Dl.sNext, Dl.sNever, Dl.sIf, Dl.sExpr, Dl.sRet, Dl.sRetF, Dl.sRetO, Dl.sAsg, Dl.sSet, Dl.sSetF, Dl.sFrz, Dl.sMove, Dl.sAug, Dl.sApp, Dl.sPut, Dl.sFor, Dl.sPar, Dl.wVar, Dl.wVarH, Dl.wC, Dl.wOp, Dl.wOpF, Dl.gB, Dl.wAnd, Dl.wOr, Dl.wNot, Dl.wAndV, Dl.wOrV, Dl.wNotV, Dl.wIf, Dl.wChain, Dl.vD, Dl.vVar, Dl.aNil, Dl.aCons, Dl.lNil, Dl.lCons, Dl.lStar, Dl.wTup, Dl.wLst, Dl.dName, Dl.dNil, Dl.dCons, Dl.dTup, Dl.wUn, Dl.wUnF, Dl.wIsi, Dl.isD, Dl.w2I, Dl.wCall, Dl.wCallF, Dl.wCallK, Dl.rD, Dl.rF, Dl.mkS, Dl.iSeq, Dl.iTupl, Dl.iAny, Dl.iRg1, Dl.iRg2, Dl.iRev, Dl.rg1, Dl.rg2, Dl.iEn, Dl.iZp, Dl.iStrD, Dl.wLc, Dl.wipeE, Dl.wYes, Dl.wSl, Dl.wSlF, Dl.oNone, Dl.oSome, Dl.gSl, Dl.gAdd, Dl.gCat, Dl.gRep, Dl.gSub, Dl.gMul, Dl.gMod, Dl.gDiv, Dl.gPow, Dl.gLt, Dl.gLe, Dl.gGt, Dl.gGe, Dl.gEq, Dl.gNe, Dl.gIsN, Dl.gNotN, Dl.isN, Dl.gIx, Dl.gLen, Dl.gTupOf, Dl.gListOf, Dl.gSum, Dl.gRep1, Dl.gInt, Dl.gAll, Dl.gNeg, Dl.xF, Dl.wZip2, Dl.wZipS, Dl.sAugS, Dl.sExt, Dl.sNewU, Dl.sPutU, Dl.wTupU, Dl.gRev, Dl.gIn, Dl.gNotIn, Dl.wLenS, Dl.uVar, Dl.uD, Dl.wGetU, Dl.wInU, Dl.gDictP, Dl.gSortS, Dl.gSortSet, Dl.wReprU, Dl.wReprL, Dl.gReprU, Dl.sRaise, Dl.mkD1, Dl.mkD2, Dl.sCallX, Dl.sRetX, Dl.sSetX, List.map_cons, List.map_nil, List.length_cons, List.length_nil, List.replicate_succ, List.replicate_zero, List.cons_append, List.nil_append, List.set_cons_zero, List.set_cons_succ, List.getElem?_cons_zero, List.getElem?_cons_succ, if_true, if_false, Bool.false_eq_true, Bool.not_true, Bool.not_false, reduceIte, Nat.reduceAdd, Nat.reduceSub]
  have c : k = 0 ∨ k = 1 ∨ k = 2 ∨ k = 3 ∨ k = 4 ∨ k = 5 := by omega
  rcases c with rfl | rfl | rfl | rfl | rfl | rfl <;> exact ⟨_, rfl, done _ (by unfold NameOk names6; simp)⟩


def CellOk (L : Int) (c : Cell) : Prop := (c.1 = "input" ∧ ∃ n, c.2 = .inr n ∧ NameOk n) ∨ (c.1 = "coin" ∧ ∃ i : Int, c.2 = .inl i ∧ 0 ≤ i ∧ i < L)
def TermOk (q L : Int) (t : Term) : Prop := 1 ≤ t.1 ∧ t.1 < q ∧ t.2.length ≤ 4 ∧ ∀ c ∈ t.2, CellOk L c
def PolyOk (q L : Int) (p : List Term) : Prop := ∀ t ∈ p, TermOk q L t
theorem sml_cell {L : Int} {c : Cell} (hL : L ≤ 100) (h : CellOk L c) : Dl.Sml 1 40 (cellD c) := by
  obtain ⟨a, k⟩ := c
  rcases h with ⟨rfl, n, rfl, hn⟩ | ⟨rfl, i, rfl, h0, h1⟩
  · exact (Dl.smla_cons (Dl.sml_str (w := 6) (Dl.okc_of _) (by decide)) (Dl.smla_cons (Dl.sml_str (name_okc hn) (name_sz hn)) Dl.smla_nil)).tup.mono (by decide) (by decide)
  · exact (Dl.smla_cons (Dl.sml_str (w := 6) (Dl.okc_of _) (by decide)) (Dl.smla_cons (Dl.sml_int h0 (by omega)) Dl.smla_nil)).tup.mono (by decide) (by decide)
theorem smla_cells {L : Int} {cs : List Cell} (hL : L ≤ 100) (h : ∀ c ∈ cs, CellOk L c) : Dl.SmlA 1 (41 * cs.length) (cs.map cellD) := by
  have := Dl.smla_of (D := 1) (W := 40) (ds := cs.map cellD) fun d hd => by
    obtain ⟨c, hc, rfl⟩ := List.mem_map.mp hd
    exact sml_cell hL (h c hc)
  rwa [List.length_map] at this
theorem sml_term {q L : Int} {t : Term} (hq : q ≤ 1000) (hL : L ≤ 100) (h : TermOk q L t) : Dl.Sml 3 200 (termD t) :=
  (Dl.smla_cons (Dl.sml_int (by have := h.1; omega) (by have := h.2.1; omega)) (Dl.smla_cons ((smla_cells hL h.2.2.2).tup) Dl.smla_nil)).tup.mono (by decide) (by have := h.2.2.1; omega)
theorem sml_poly {q L : Int} {p : List Term} (hq : q ≤ 1000) (hL : L ≤ 100) (h : PolyOk q L p) : Dl.Sml 4 (201 * p.length) (polyD p) := by
  have := Dl.smla_of (D := 3) (W := 200) (ds := p.map termD) fun d hd => by
    obtain ⟨t, ht, rfl⟩ := List.mem_map.mp hd
    exact sml_term hq hL (h t ht)
  rw [List.length_map] at this
  exact this.tup
def S_law_cell : Dl.DSp := Dl.mkS (fun (L : Int) => [.pen, .d (.int L)]) fun L Q => 0 ≤ L ∧ L ≤ 100 ∧ ∀ c : Cell, CellOk L c → Q (.d (cellD c))

abbrev s_law_cell : Stmt := top 15
theorem sc_law_cell : FnScope ["pen", "length"] ["pen", "length"] (defScope s_law_cell) := ⟨rfl, rfl, rfl, by decide +kernel, rfl, by decide +kernel, by decide +kernel⟩
open Dl in
theorem ok_law_cell {f : Addr} {fd : FuncData} (F : Fun K "_law_cell" "_law_cell" s_law_cell f fd) (c__law_draw : Cal P w K mg base "_law_draw" 2 ["pen", "bound"] (Dl.spD K S_law_draw)) (c__law_name : Cal P w K mg base "_law_name" 3 ["pen"] (Dl.spD K S_law_name)) : FnG P w K mg base CX0 4 f fd ["pen", "length"] (Dl.spD K S_law_cell) := by
  obtain ⟨f__law_draw, fd__law_draw, G__law_draw, m__law_draw, k__law_draw, b__law_draw⟩ := c__law_draw.ex
  obtain ⟨f__law_name, fd__law_name, G__law_name, m__law_name, k__law_name, b__law_name⟩ := c__law_name.ex
  refine okD F sc_law_cell (fun ss Q h => by obtain ⟨x, rfl, _⟩ := h; rfl) (fun cdv A o s H E hr => (qs_cons (q_if (pt_ofW (pw_orD (pt_cmpD (op_eqD hr.r.units) eq_d (ph_var (pv 1)) (ph_of pd_int) (nomark _)) (pw_or1D (pt_cmpD (op_eqD hr.r.units) eq_d (ph_of (pd_call G__law_draw (hr.mono (by first | decide | omega)) (by rfl) m__law_draw k__law_draw b__law_draw (pa_consD (pv_var (pv 0)) (pa_consD (pv_d pd_int) pa_nilD)))) (ph_of pd_int) (nomark _))))) (qs_one (q_ret (pd_tup (pl_cons pd_str (pl_cons (pd_call G__law_name (hr.mono (by first | decide | omega)) (by rfl) m__law_name k__law_name b__law_name (pa_consD (pv_var (pv 0)) pa_nilD)) pl_nil))))) qs_nil)
      (qs_one (q_ret (pd_tup (pl_cons pd_str (pl_cons (pd_call G__law_draw (hr.mono (by first | decide | omega)) (by rfl) m__law_draw k__law_draw b__law_draw (pa_consD (pv_var (pv 0)) (pa_consD (pv_var (pv 1)) pa_nilD))) pl_nil))))))) (fun ss Q h => ?_)
  obtain ⟨L, rfl, h0, h1, done⟩ := h
  have fin1 : ∀ n, NameOk n → Q (.d (.tuple [.str "input", .str n])) := fun n hn => done ("input", .inr n) (.inl ⟨rfl, n, rfl, hn⟩)
  have fin2 : ∀ i : Int, 0 ≤ i → i < L → Q (.d (.tuple [.str "coin", .int i])) := fun i hi hi2 => done ("coin", .inl i) (.inr ⟨rfl, i, rfl, hi, hi2⟩)
  try simp only [Dl.sSeq, Dl.sCut, Dl.sNext, Dl.sNever, Dl.sIf, Dl.sExpr, Dl.sRet, Dl.sRetF, Dl.sRetO, Dl.sAsg, Dl.sSet, Dl.sSetF, Dl.sFrz, Dl.sMove, Dl.sAug, Dl.sApp, Dl.sPut, Dl.sFor, Dl.sPar, Dl.wVar, Dl.wVarH, Dl.wC, Dl.wOp, Dl.wOpF, Dl.gB, Dl.wAnd, Dl.wOr, Dl.wNot, Dl.wAndV, Dl.wOrV, Dl.wNotV, Dl.wIf, Dl.wChain, Dl.vD, Dl.vVar, Dl.aNil, Dl.aCons, Dl.lNil, Dl.lCons, Dl.lStar, Dl.wTup, Dl.wLst, Dl.dName, Dl.dNil, Dl.dCons, Dl.dTup, Dl.wUn, Dl.wUnF, Dl.wIsi, Dl.isD, Dl.w2I, Dl.wCall, Dl.wCallF, Dl.wCallK, Dl.rD, Dl.rF, Dl.mkS, Dl.iSeq, Dl.iTupl, Dl.iAny, Dl.iRg1, Dl.iRg2, Dl.iRev, Dl.rg1, Dl.rg2, Dl.iEn, Dl.iZp, Dl.iStrD, Dl.wLc, Dl.wipeE, Dl.wYes, Dl.wSl, Dl.wSlF, Dl.oNone, Dl.oSome, Dl.gSl, Dl.gAdd, Dl.gCat, Dl.gRep, Dl.gSub, Dl.gMul, Dl.gMod, Dl.gDiv, Dl.gPow, Dl.gLt, Dl.gLe, Dl.gGt, Dl.gGe, Dl.gEq, Dl.gNe, Dl.gIsN, Dl.gNotN, Dl.isN, Dl.gIx, Dl.gLen, Dl.gTupOf, Dl.gListOf, Dl.gSum, Dl.gRep1, Dl.gInt, Dl.gAll, Dl.gNeg, Dl.xF, Dl.wZip2, Dl.wZipS, Dl.sAugS, Dl.sExt, Dl.sNewU, Dl.sPutU, Dl.wTupU, Dl.gRev, Dl.gIn, Dl.gNotIn, Dl.wLenS, Dl.uVar, Dl.uD, Dl.wGetU, Dl.wInU, Dl.gDictP, Dl.gSortS, Dl.gSortSet, Dl.wReprU, Dl.wReprL, Dl.gReprU, Dl.sRaise, Dl.mkD1, Dl.mkD2, Dl.sCallX, Dl.sRetX, Dl.sSetX, List.map_cons, List.map_nil, List.length_cons, List.length_nil, List.replicate_succ, List.replicate_zero, List.cons_append, List.nil_append, List.set_cons_zero, List.set_cons_succ, List.getElem?_cons_zero, List.getElem?_cons_succ, if_true, if_false, Bool.false_eq_true, Bool.not_true, Bool.not_false, reduceIte, Nat.reduceAdd, Nat.reduceSub]
  refine ⟨rfl, rfl, ?_⟩
  have e0 : PyData.eqv (.int L) (.int 0) = (L == 0) := rfl
  rw [e0]
  by_cases c : L = 0
  · subst c
    try simp only [Dl.sSeq, Dl.sCut, Dl.sNext, Dl.sNever, Dl.sIf, Dl.sExpr, Dl.sRet, Dl.sRetF, Dl.sRetO, Dl.sAsg, Dl.sSet, Dl.sSetF, Dl.sFrz, Dl.sMove, Dl.sAug, Dl.sApp, Dl.sPut, Dl.sFor, Dl.sPar, Dl.wVar, Dl.wVarH, Dl.wC, Dl.wOp, Dl.wOpF, Dl.gB, Dl.wAnd, Dl.wOr, Dl.wNot, Dl.wAndV, Dl.wOrV, Dl.wNotV, Dl.wIf, Dl.wChain, Dl.vD, Dl.vVar, Dl.aNil, Dl.aCons, Dl.lNil, Dl.lCons, Dl.lStar, Dl.wTup, Dl.wLst, Dl.dName, Dl.dNil, Dl.dCons, Dl.dTup, Dl.wUn, Dl.wUnF, Dl.wIsi, Dl.isD, Dl.w2I, Dl.wCall, Dl.wCallF, Dl.wCallK, Dl.rD, Dl.rF, Dl.mkS, Dl.iSeq, Dl.iTupl, Dl.iAny, Dl.iRg1, Dl.iRg2, Dl.iRev, Dl.rg1, Dl.rg2, Dl.iEn, Dl.iZp, Dl.iStrD, Dl.wLc, Dl.wipeE, Dl.wYes, Dl.wSl, Dl.wSlF, Dl.oNone, Dl.oSome, Dl.gSl, Dl.gAdd, Dl.gCat, Dl.gRep, Dl.gSub, Dl.gMul, Dl.gMod, Dl.gDiv, Dl.gPow, Dl.gLt, Dl.gLe, Dl.gGt, Dl.gGe, Dl.gEq, Dl.gNe, Dl.gIsN, Dl.gNotN, Dl.isN, Dl.gIx, Dl.gLen, Dl.gTupOf, Dl.gListOf, Dl.gSum, Dl.gRep1, Dl.gInt, Dl.gAll, Dl.gNeg, Dl.xF, Dl.wZip2, Dl.wZipS, Dl.sAugS, Dl.sExt, Dl.sNewU, Dl.sPutU, Dl.wTupU, Dl.gRev, Dl.gIn, Dl.gNotIn, Dl.wLenS, Dl.uVar, Dl.uD, Dl.wGetU, Dl.wInU, Dl.gDictP, Dl.gSortS, Dl.gSortSet, Dl.wReprU, Dl.wReprL, Dl.gReprU, Dl.sRaise, Dl.mkD1, Dl.mkD2, Dl.sCallX, Dl.sRetX, Dl.sSetX, List.map_cons, List.map_nil, List.length_cons, List.length_nil, List.replicate_succ, List.replicate_zero, List.cons_append, List.nil_append, List.set_cons_zero, List.set_cons_succ, List.getElem?_cons_zero, List.getElem?_cons_succ, if_true, if_false, Bool.false_eq_true, Bool.not_true, Bool.not_false, reduceIte, Nat.reduceAdd, Nat.reduceSub]
    refine ⟨(), rfl, fun n hn => ?_⟩
    try simp only [Dl.sSeq, Dl.sCut, Dl.sNext, Dl.sNever, Dl.sIf, Dl.sExpr, Dl.sRet, Dl.sRetF, Dl.sRetO, Dl.sAsg, Dl.sSet, Dl.sSetF, Dl.sFrz, Dl.sMove, Dl.sAug, Dl.sApp, Dl.sPut, Dl.sFor, Dl.sPar, Dl.wVar, Dl.wVarH, Dl.wC, Dl.wOp, Dl.wOpF, Dl.gB, Dl.wAnd, Dl.wOr, Dl.wNot, Dl.wAndV, Dl.wOrV, Dl.wNotV, Dl.wIf, Dl.wChain, Dl.vD, Dl.vVar, Dl.aNil, Dl.aCons, Dl.lNil, Dl.lCons, Dl.lStar, Dl.wTup, Dl.wLst, Dl.dName, Dl.dNil, Dl.dCons, Dl.dTup, Dl.wUn, Dl.wUnF, Dl.wIsi, Dl.isD, Dl.w2I, Dl.wCall, Dl.wCallF, Dl.wCallK, Dl.rD, Dl.rF, Dl.mkS, Dl.iSeq, Dl.iTupl, Dl.iAny, Dl.iRg1, Dl.iRg2, Dl.iRev, Dl.rg1, Dl.rg2, Dl.iEn, Dl.iZp, Dl.iStrD, Dl.wLc, Dl.wipeE, Dl.wYes, Dl.wSl, Dl.wSlF, Dl.oNone, Dl.oSome, Dl.gSl, Dl.gAdd, Dl.gCat, Dl.gRep, Dl.gSub, Dl.gMul, Dl.gMod, Dl.gDiv, Dl.gPow, Dl.gLt, Dl.gLe, Dl.gGt, Dl.gGe, Dl.gEq, Dl.gNe, Dl.gIsN, Dl.gNotN, Dl.isN, Dl.gIx, Dl.gLen, Dl.gTupOf, Dl.gListOf, Dl.gSum, Dl.gRep1, Dl.gInt, Dl.gAll, Dl.gNeg, Dl.xF, Dl.wZip2, Dl.wZipS, Dl.sAugS, Dl.sExt, Dl.sNewU, Dl.sPutU, Dl.wTupU, Dl.gRev, Dl.gIn, Dl.gNotIn, Dl.wLenS, Dl.uVar, Dl.uD, Dl.wGetU, Dl.wInU, Dl.gDictP, Dl.gSortS, Dl.gSortSet, Dl.wReprU, Dl.wReprL, Dl.gReprU, Dl.sRaise, Dl.mkD1, Dl.mkD2, Dl.sCallX, Dl.sRetX, Dl.sSetX, List.map_cons, List.map_nil, List.length_cons, List.length_nil, List.replicate_succ, List.replicate_zero, List.cons_append, List.nil_append, List.set_cons_zero, List.set_cons_succ, List.getElem?_cons_zero, List.getElem?_cons_succ, if_true, if_false, Bool.false_eq_true, Bool.not_true, Bool.not_false, reduceIte, Nat.reduceAdd, Nat.reduceSub]
    exact ⟨by decide, fin1 n hn⟩
  · rw [show (L == 0) = false from beq_eq_false_iff_ne.mpr c]
    try simp only [Dl.sSeq, Dl.sCut, Dl.sNext, Dl.sNever, Dl.sIf, Dl.sExpr, Dl.sRet, Dl.sRetF, Dl.sRetO, Dl.sAsg, Dl.sSet, Dl.sSetF, Dl.sFrz, Dl.sMove, Dl.sAug, Dl.sApp, Dl.sPut, Dl.sFor, Dl.sPar, Dl.wVar, Dl.wVarH, Dl.wC, Dl.wOp, Dl.wOpF, Dl.gB, Dl.wAnd, Dl.wOr, Dl.wNot, Dl.wAndV, Dl.wOrV, Dl.wNotV, Dl.wIf, Dl.wChain, Dl.vD, Dl.vVar, Dl.aNil, Dl.aCons, Dl.lNil, Dl.lCons, Dl.lStar, Dl.wTup, Dl.wLst, Dl.dName, Dl.dNil, Dl.dCons, Dl.dTup, Dl.wUn, Dl.wUnF, Dl.wIsi, Dl.isD, Dl.w2I, Dl.wCall, Dl.wCallF, Dl.wCallK, Dl.rD, Dl.rF, Dl.mkS, Dl.iSeq, Dl.iTupl, Dl.iAny, Dl.iRg1, Dl.iRg2, Dl.iRev, Dl.rg1, Dl.rg2, Dl.iEn, Dl.iZp, Dl.iStrD, Dl.wLc, Dl.wipeE, Dl.wYes, Dl.wSl, Dl.wSlF, Dl.oNone, Dl.oSome, Dl.gSl, Dl.gAdd, Dl.gCat, Dl.gRep, Dl.gSub, Dl.gMul, Dl.gMod, Dl.gDiv, Dl.gPow, Dl.gLt, Dl.gLe, Dl.gGt, Dl.gGe, Dl.gEq, Dl.gNe, Dl.gIsN, Dl.gNotN, Dl.isN, Dl.gIx, Dl.gLen, Dl.gTupOf, Dl.gListOf, Dl.gSum, Dl.gRep1, Dl.gInt, Dl.gAll, Dl.gNeg, Dl.xF, Dl.wZip2, Dl.wZipS, Dl.sAugS, Dl.sExt, Dl.sNewU, Dl.sPutU, Dl.wTupU, Dl.gRev, Dl.gIn, Dl.gNotIn, Dl.wLenS, Dl.uVar, Dl.uD, Dl.wGetU, Dl.wInU, Dl.gDictP, Dl.gSortS, Dl.gSortSet, Dl.wReprU, Dl.wReprL, Dl.gReprU, Dl.sRaise, Dl.mkD1, Dl.mkD2, Dl.sCallX, Dl.sRetX, Dl.sSetX, List.map_cons, List.map_nil, List.length_cons, List.length_nil, List.replicate_succ, List.replicate_zero, List.cons_append, List.nil_append, List.set_cons_zero, List.set_cons_succ, List.getElem?_cons_zero, List.getElem?_cons_succ, if_true, if_false, Bool.false_eq_true, Bool.not_true, Bool.not_false, reduceIte, Nat.reduceAdd, Nat.reduceSub]
    refine ⟨2, rfl, by decide, by decide, fun r r0 r1 => ?_⟩
    try simp only [Dl.sSeq, Dl.sCut, Dl.sNext, Dl.sNever, Dl.sIf, Dl.sExpr, Dl.sRet, Dl.sRetF, Dl.sRetO, Dl.sAsg, Dl.sSet, Dl.sSetF, Dl.sFrz, Dl.sMove, Dl.sAug, Dl.sApp, Dl.sPut, Dl.sFor, Dl.sPar, Dl.wVar, Dl.wVarH, Dl.wC, Dl.wOp, Dl.wOpF, Dl.gB, Dl.wAnd, Dl.wOr, Dl.wNot, Dl.wAndV, Dl.wOrV, Dl.wNotV, Dl.wIf, Dl.wChain, Dl.vD, Dl.vVar, Dl.aNil, Dl.aCons, Dl.lNil, Dl.lCons, Dl.lStar, Dl.wTup, Dl.wLst, Dl.dName, Dl.dNil, Dl.dCons, Dl.dTup, Dl.wUn, Dl.wUnF, Dl.wIsi, Dl.isD, Dl.w2I, Dl.wCall, Dl.wCallF, Dl.wCallK, Dl.rD, Dl.rF, Dl.mkS, Dl.iSeq, Dl.iTupl, Dl.iAny, Dl.iRg1, Dl.iRg2, Dl.iRev, Dl.rg1, Dl.rg2, Dl.iEn, Dl.iZp, Dl.iStrD, Dl.wLc, Dl.wipeE, Dl.wYes, Dl.wSl, Dl.wSlF, Dl.oNone, Dl.oSome, Dl.gSl, Dl.gAdd, Dl.gCat, Dl.gRep, Dl.gSub, Dl.gMul, Dl.gMod, Dl.gDiv, Dl.gPow, Dl.gLt, Dl.gLe, Dl.gGt, Dl.gGe, Dl.gEq, Dl.gNe, Dl.gIsN, Dl.gNotN, Dl.isN, Dl.gIx, Dl.gLen, Dl.gTupOf, Dl.gListOf, Dl.gSum, Dl.gRep1, Dl.gInt, Dl.gAll, Dl.gNeg, Dl.xF, Dl.wZip2, Dl.wZipS, Dl.sAugS, Dl.sExt, Dl.sNewU, Dl.sPutU, Dl.wTupU, Dl.gRev, Dl.gIn, Dl.gNotIn, Dl.wLenS, Dl.uVar, Dl.uD, Dl.wGetU, Dl.wInU, Dl.gDictP, Dl.gSortS, Dl.gSortSet, Dl.wReprU, Dl.wReprL, Dl.gReprU, Dl.sRaise, Dl.mkD1, Dl.mkD2, Dl.sCallX, Dl.sRetX, Dl.sSetX, List.map_cons, List.map_nil, List.length_cons, List.length_nil, List.replicate_succ, List.replicate_zero, List.cons_append, List.nil_append, List.set_cons_zero, List.set_cons_succ, List.getElem?_cons_zero, List.getElem?_cons_succ, if_true, if_false, Bool.false_eq_true, Bool.not_true, Bool.not_false, reduceIte, Nat.reduceAdd, Nat.reduceSub]
    refine ⟨rfl, rfl, ?_⟩
    have e1 : PyData.eqv (.int r) (.int 0) = (r == 0) := rfl
    rw [e1]
    by_cases cr : r = 0
    · subst cr
      try simp only [Dl.sSeq, Dl.sCut, Dl.sNext, Dl.sNever, Dl.sIf, Dl.sExpr, Dl.sRet, Dl.sRetF, Dl.sRetO, Dl.sAsg, Dl.sSet, Dl.sSetF, Dl.sFrz, Dl.sMove, Dl.sAug, Dl.sApp, Dl.sPut, Dl.sFor, Dl.sPar, Dl.wVar, Dl.wVarH, Dl.wC, Dl.wOp, Dl.wOpF, Dl.gB, Dl.wAnd, Dl.wOr, Dl.wNot, Dl.wAndV, Dl.wOrV, Dl.wNotV, Dl.wIf, Dl.wChain, Dl.vD, Dl.vVar, Dl.aNil, Dl.aCons, Dl.lNil, Dl.lCons, Dl.lStar, Dl.wTup, Dl.wLst, Dl.dName, Dl.dNil, Dl.dCons, Dl.dTup, Dl.wUn, Dl.wUnF, Dl.wIsi, Dl.isD, Dl.w2I, Dl.wCall, Dl.wCallF, Dl.wCallK, Dl.rD, Dl.rF, Dl.mkS, Dl.iSeq, Dl.iTupl, Dl.iAny, Dl.iRg1, Dl.iRg2, Dl.iRev, Dl.rg1, Dl.rg2, Dl.iEn, Dl.iZp, Dl.iStrD, Dl.wLc, Dl.wipeE, Dl.wYes, Dl.wSl, Dl.wSlF, Dl.oNone, Dl.oSome, Dl.gSl, Dl.gAdd, Dl.gCat, Dl.gRep, Dl.gSub, Dl.gMul, Dl.gMod, Dl.gDiv, Dl.gPow, Dl.gLt, Dl.gLe, Dl.gGt, Dl.gGe, Dl.gEq, Dl.gNe, Dl.gIsN, Dl.gNotN, Dl.isN, Dl.gIx, Dl.gLen, Dl.gTupOf, Dl.gListOf, Dl.gSum, Dl.gRep1, Dl.gInt, Dl.gAll, Dl.gNeg, Dl.xF, Dl.wZip2, Dl.wZipS, Dl.sAugS, Dl.sExt, Dl.sNewU, Dl.sPutU, Dl.wTupU, Dl.gRev, Dl.gIn, Dl.gNotIn, Dl.wLenS, Dl.uVar, Dl.uD, Dl.wGetU, Dl.wInU, Dl.gDictP, Dl.gSortS, Dl.gSortSet, Dl.wReprU, Dl.wReprL, Dl.gReprU, Dl.sRaise, Dl.mkD1, Dl.mkD2, Dl.sCallX, Dl.sRetX, Dl.sSetX, List.map_cons, List.map_nil, List.length_cons, List.length_nil, List.replicate_succ, List.replicate_zero, List.cons_append, List.nil_append, List.set_cons_zero, List.set_cons_succ, List.getElem?_cons_zero, List.getElem?_cons_succ, if_true, if_false, Bool.false_eq_true, Bool.not_true, Bool.not_false, reduceIte, Nat.reduceAdd, Nat.reduceSub]
      refine ⟨(), rfl, fun n hn => ?_⟩
      try simp only [Dl.sSeq, Dl.sCut, Dl.sNext, Dl.sNever, Dl.sIf, Dl.sExpr, Dl.sRet, Dl.sRetF, Dl.sRetO, Dl.sAsg, Dl.sSet, Dl.sSetF, Dl.sFrz, Dl.sMove, Dl.sAug, Dl.sApp, Dl.sPut, Dl.sFor, Dl.sPar, Dl.wVar, Dl.wVarH, Dl.wC, Dl.wOp, Dl.wOpF, Dl.gB, Dl.wAnd, Dl.wOr, Dl.wNot, Dl.wAndV, Dl.wOrV, Dl.wNotV, Dl.wIf, Dl.wChain, Dl.vD, Dl.vVar, Dl.aNil, Dl.aCons, Dl.lNil, Dl.lCons, Dl.lStar, Dl.wTup, Dl.wLst, Dl.dName, Dl.dNil, Dl.dCons, Dl.dTup, Dl.wUn, Dl.wUnF, Dl.wIsi, Dl.isD, Dl.w2I, Dl.wCall, Dl.wCallF, Dl.wCallK, Dl.rD, Dl.rF, Dl.mkS, Dl.iSeq, Dl.iTupl, Dl.iAny, Dl.iRg1, Dl.iRg2, Dl.iRev, Dl.rg1, Dl.rg2, Dl.iEn, Dl.iZp, Dl.iStrD, Dl.wLc, Dl.wipeE, Dl.wYes, Dl.wSl, Dl.wSlF, Dl.oNone, Dl.oSome, Dl.gSl, Dl.gAdd, Dl.gCat, Dl.gRep, Dl.gSub, Dl.gMul, Dl.gMod, Dl.gDiv, Dl.gPow, Dl.gLt, Dl.gLe, Dl.gGt, Dl.gGe, Dl.gEq, Dl.gNe, Dl.gIsN, Dl.gNotN, Dl.isN, Dl.gIx, Dl.gLen, Dl.gTupOf, Dl.gListOf, Dl.gSum, Dl.gRep1, Dl.gInt, Dl.gAll, Dl.gNeg, Dl.xF, Dl.wZip2, Dl.wZipS, Dl.sAugS, Dl.sExt, Dl.sNewU, Dl.sPutU, Dl.wTupU, Dl.gRev, Dl.gIn, Dl.gNotIn, Dl.wLenS, Dl.uVar, Dl.uD, Dl.wGetU, Dl.wInU, Dl.gDictP, Dl.gSortS, Dl.gSortSet, Dl.wReprU, Dl.wReprL, Dl.gReprU, Dl.sRaise, Dl.mkD1, Dl.mkD2, Dl.sCallX, Dl.sRetX, Dl.sSetX, List.map_cons, List.map_nil, List.length_cons, List.length_nil, List.replicate_succ, List.replicate_zero, List.cons_append, List.nil_append, List.set_cons_zero, List.set_cons_succ, List.getElem?_cons_zero, List.getElem?_cons_succ, if_true, if_false, Bool.false_eq_true, Bool.not_true, Bool.not_false, reduceIte, Nat.reduceAdd, Nat.reduceSub]
      exact ⟨by decide, fin1 n hn⟩
    · rw [show (r == 0) = false from beq_eq_false_iff_ne.mpr cr]
      try simp only [Dl.sSeq, Dl.sCut, Dl.sNext, Dl.sNever, Dl.sIf, Dl.sExpr, Dl.sRet, Dl.sRetF, Dl.sRetO, Dl.sAsg, Dl.sSet, Dl.sSetF, Dl.sFrz, Dl.sMove, Dl.sAug, Dl.sApp, Dl.sPut, Dl.sFor, Dl.sPar, Dl.wVar, Dl.wVarH, Dl.wC, Dl.wOp, Dl.wOpF, Dl.gB, Dl.wAnd, Dl.wOr, Dl.wNot, Dl.wAndV, Dl.wOrV, Dl.wNotV, Dl.wIf, Dl.wChain, Dl.vD, Dl.vVar, Dl.aNil, Dl.aCons, Dl.lNil, Dl.lCons, Dl.lStar, Dl.wTup, Dl.wLst, Dl.dName, Dl.dNil, Dl.dCons, Dl.dTup, Dl.wUn, Dl.wUnF, Dl.wIsi, Dl.isD, Dl.w2I, Dl.wCall, Dl.wCallF, Dl.wCallK, Dl.rD, Dl.rF, Dl.mkS, Dl.iSeq, Dl.iTupl, Dl.iAny, Dl.iRg1, Dl.iRg2, Dl.iRev, Dl.rg1, Dl.rg2, Dl.iEn, Dl.iZp, Dl.iStrD, Dl.wLc, Dl.wipeE, Dl.wYes, Dl.wSl, Dl.wSlF, Dl.oNone, Dl.oSome, Dl.gSl, Dl.gAdd, Dl.gCat, Dl.gRep, Dl.gSub, Dl.gMul, Dl.gMod, Dl.gDiv, Dl.gPow, Dl.gLt, Dl.gLe, Dl.gGt, Dl.gGe, Dl.gEq, Dl.gNe, Dl.gIsN, Dl.gNotN, Dl.isN, Dl.gIx, Dl.gLen, Dl.gTupOf, Dl.gListOf, Dl.gSum, Dl.gRep1, Dl.gInt, Dl.gAll, Dl.gNeg, Dl.xF, Dl.wZip2, Dl.wZipS, Dl.sAugS, Dl.sExt, Dl.sNewU, Dl.sPutU, Dl.wTupU, Dl.gRev, Dl.gIn, Dl.gNotIn, Dl.wLenS, Dl.uVar, Dl.uD, Dl.wGetU, Dl.wInU, Dl.gDictP, Dl.gSortS, Dl.gSortSet, Dl.wReprU, Dl.wReprL, Dl.gReprU, Dl.sRaise, Dl.mkD1, Dl.mkD2, Dl.sCallX, Dl.sRetX, Dl.sSetX, List.map_cons, List.map_nil, List.length_cons, List.length_nil, List.replicate_succ, List.replicate_zero, List.cons_append, List.nil_append, List.set_cons_zero, List.set_cons_succ, List.getElem?_cons_zero, List.getElem?_cons_succ, if_true, if_false, Bool.false_eq_true, Bool.not_true, Bool.not_false, reduceIte, Nat.reduceAdd, Nat.reduceSub]
      refine ⟨L, rfl, by omega, Nat.lt_of_le_of_lt (show L.natAbs ≤ 100 by omega) (by decide), fun i i0 i1 => ?_⟩
      try simp only [Dl.sSeq, Dl.sCut, Dl.sNext, Dl.sNever, Dl.sIf, Dl.sExpr, Dl.sRet, Dl.sRetF, Dl.sRetO, Dl.sAsg, Dl.sSet, Dl.sSetF, Dl.sFrz, Dl.sMove, Dl.sAug, Dl.sApp, Dl.sPut, Dl.sFor, Dl.sPar, Dl.wVar, Dl.wVarH, Dl.wC, Dl.wOp, Dl.wOpF, Dl.gB, Dl.wAnd, Dl.wOr, Dl.wNot, Dl.wAndV, Dl.wOrV, Dl.wNotV, Dl.wIf, Dl.wChain, Dl.vD, Dl.vVar, Dl.aNil, Dl.aCons, Dl.lNil, Dl.lCons, Dl.lStar, Dl.wTup, Dl.wLst, Dl.dName, Dl.dNil, Dl.dCons, Dl.dTup, Dl.wUn, Dl.wUnF, Dl.wIsi, Dl.isD, Dl.w2I, Dl.wCall, Dl.wCallF, Dl.wCallK, Dl.rD, Dl.rF, Dl.mkS, Dl.iSeq, Dl.iTupl, Dl.iAny, Dl.iRg1, Dl.iRg2, Dl.iRev, Dl.rg1, Dl.rg2, Dl.iEn, Dl.iZp, Dl.iStrD, Dl.wLc, Dl.wipeE, Dl.wYes, Dl.wSl, Dl.wSlF, Dl.oNone, Dl.oSome, Dl.gSl, Dl.gAdd, Dl.gCat, Dl.gRep, Dl.gSub, Dl.gMul, Dl.gMod, Dl.gDiv, Dl.gPow, Dl.gLt, Dl.gLe, Dl.gGt, Dl.gGe, Dl.gEq, Dl.gNe, Dl.gIsN, Dl.gNotN, Dl.isN, Dl.gIx, Dl.gLen, Dl.gTupOf, Dl.gListOf, Dl.gSum, Dl.gRep1, Dl.gInt, Dl.gAll, Dl.gNeg, Dl.xF, Dl.wZip2, Dl.wZipS, Dl.sAugS, Dl.sExt, Dl.sNewU, Dl.sPutU, Dl.wTupU, Dl.gRev, Dl.gIn, Dl.gNotIn, Dl.wLenS, Dl.uVar, Dl.uD, Dl.wGetU, Dl.wInU, Dl.gDictP, Dl.gSortS, Dl.gSortSet, Dl.wReprU, Dl.wReprL, Dl.gReprU, Dl.sRaise, Dl.mkD1, Dl.mkD2, Dl.sCallX, Dl.sRetX, Dl.sSetX, List.map_cons, List.map_nil, List.length_cons, List.length_nil, List.replicate_succ, List.replicate_zero, List.cons_append, List.nil_append, List.set_cons_zero, List.set_cons_succ, List.getElem?_cons_zero, List.getElem?_cons_succ, if_true, if_false, Bool.false_eq_true, Bool.not_true, Bool.not_false, reduceIte, Nat.reduceAdd, Nat.reduceSub]
      exact ⟨by decide, fin2 i i0 i1⟩

theorem cells_of {L : Int} : ∀ {rs : List PyData}, (∀ (i : Nat) r, rs[i]? = some r → ∃ c : Cell, r = cellD c ∧ CellOk L c) → ∃ cs : List Cell, rs = cs.map cellD ∧ ∀ c ∈ cs, CellOk L c
  | [], _ => ⟨[], rfl, fun _ h => by cases h⟩
  | r :: rs, h => by
    obtain ⟨c, rfl, hc⟩ := h 0 r rfl
    obtain ⟨cs, rfl, hcs⟩ := cells_of fun i r e => h (i + 1) r (by simpa using e)
    exact ⟨c :: cs, rfl, fun x hx => (List.mem_cons.mp hx).elim (fun e => e ▸ hc) (hcs x)⟩
def S_law_polynomial : Dl.DSp := Dl.mkS (fun (x : Int × Int × Nat) => [.pen, .d (.int x.1), .d (.int x.2.1), .d (.int x.2.2)]) fun (q, L, m) Q => 2 ≤ q ∧ q ≤ 1000 ∧ 0 ≤ L ∧ L ≤ 100 ∧ m ≤ 20 ∧ ∀ p : List Term, PolyOk q L p → p.length ≤ 40 → Q (.d (polyD p))

abbrev s_law_polynomial : Stmt := top 16
theorem sc_law_polynomial : FnScope ["pen", "q", "length", "most", "terms", "k", "cells", "turn"] ["pen", "q", "length", "most"] (defScope s_law_polynomial) := ⟨rfl, rfl, rfl, by decide +kernel, rfl, by decide +kernel, by decide +kernel⟩
open Dl in
theorem ok_law_polynomial {f : Addr} {fd : FuncData} (F : Fun K "_law_polynomial" "_law_polynomial" s_law_polynomial f fd) (m_range : mg "range" = none) (m_tuple : mg "tuple" = none) (m_len : mg "len" = none) (c__law_draw : Cal P w K mg base "_law_draw" 2 ["pen", "bound"] (Dl.spD K S_law_draw)) (c__law_cell : Cal P w K mg base "_law_cell" 4 ["pen", "length"] (Dl.spD K S_law_cell)) : FnG P w K mg base CX0 5 f fd ["pen", "q", "length", "most"] (Dl.spD K S_law_polynomial) := by
  obtain ⟨f__law_draw, fd__law_draw, G__law_draw, m__law_draw, k__law_draw, b__law_draw⟩ := c__law_draw.ex
  obtain ⟨f__law_cell, fd__law_cell, G__law_cell, m__law_cell, k__law_cell, b__law_cell⟩ := c__law_cell.ex
  refine okD F sc_law_polynomial (fun ss Q h => by obtain ⟨x, rfl, _⟩ := h; rfl) (fun cdv A o s H E hr => (qs_cons (q_setF (i := 4) sc_law_polynomial.nd rfl (Or.inl rfl) (pf_lst pl_nil))
      (qs_cons (q_for PassesOwn.never rfl (qi_range1 rfl m_range (pd_call G__law_draw (hr.mono (by first | decide | omega)) (by rfl) m__law_draw k__law_draw b__law_draw (pa_consD (pv_var (pv 0)) (pa_consD (pv_d (pd_op op_addA add_d (ph_var (pv 3)) (ph_of pd_int))) pa_nilD)))) (qg_name (i := 5) sc_law_polynomial.nd rfl (Or.inl rfl)) (qs_cons (q_setLc (i := 6) (own := [("turn", 7)]) (by rfl) sc_law_polynomial.nd rfl rfl (sw_true rfl rfl rfl (by decide +kernel)) (qi_range1 rfl m_range (pd_call G__law_draw (hr.mono (by first | decide | omega)) (by rfl) m__law_draw k__law_draw b__law_draw (pa_consD (pv_var (pv 0)) (pa_consD (pv_d pd_int) pa_nilD)))) (blkOk_by (own := [("turn", 7)]) (by kernel_rfl)) (fun _ _ _ _ _ => (qg_name (i := 7) sc_law_polynomial.nd rfl (Or.inl rfl))) (fun _ _ _ _ _ => qts_nil) (fun _ _ _ _ _ => (pd_call G__law_cell (hr.mono (by first | decide | omega)) (by rfl) m__law_cell k__law_cell b__law_cell (pa_consD (pv_var (pv 0)) (pa_consD (pv_var (pv 2)) pa_nilD)))))
      (qs_cut (q_if (pt_ofW (pw_andD (pt_cmpD (op_neD hr.r.units) ne_d (ph_var (pv 6)) (ph_of (pd_new (pf_lst pl_nil))) (nomark _)) (pw_andD (pt_cmpD op_ltA lt_d (ph_of (pd_bltn call_lenA len_d (by rfl) m_len (by decide +kernel) (ph_var (pv 6)))) (ph_of pd_int) (nomark _)) (pw_and1D (pt_cmpD (op_eqD hr.r.units) eq_d (ph_of (pd_call G__law_draw (hr.mono (by first | decide | omega)) (by rfl) m__law_draw k__law_draw b__law_draw (pa_consD (pv_var (pv 0)) (pa_consD (pv_d pd_int) pa_nilD)))) (ph_of pd_int) (nomark _)))))) (qs_one (q_app (i := 6) (ps_expr (pe_bm PySem.F.plainAttrs_list PySem.F.slot_list_append PySem.F.type_list_append mt_append (pv 6) (pa_cons (pd_ix ix_seq ix_d (ph_var (pv 6)) (ph_of pd_int) (fun _ _ => rfl)) pa_nil))))) qs_nil)
      (qs_cons (q_app (i := 4) (ps_expr (pe_bm PySem.F.plainAttrs_list PySem.F.slot_list_append PySem.F.type_list_append mt_append (pv 4) (pa_cons (pd_tup (pl_cons (pd_op op_addA add_d (ph_of pd_int) (ph_of (pd_call G__law_draw (hr.mono (by first | decide | omega)) (by rfl) m__law_draw k__law_draw b__law_draw (pa_consD (pv_var (pv 0)) (pa_consD (pv_d (pd_op op_sub sub_d (ph_var (pv 1)) (ph_of pd_int))) pa_nilD))))) (pl_cons (pd_type (call_tuple_ofK K) tupOf_d (by rfl) m_tuple (by decide +kernel) (ph_var (pv 6))) pl_nil))) pa_nil))))
      (qs_one (q_if (pt_cmpD (op_eqD hr.r.units) eq_d (ph_of (pd_call G__law_draw (hr.mono (by first | decide | omega)) (by rfl) m__law_draw k__law_draw b__law_draw (pa_consD (pv_var (pv 0)) (pa_consD (pv_d pd_int) pa_nilD)))) (ph_of pd_int) (nomark _)) (qs_one (q_app (i := 4) (ps_expr (pe_bm PySem.F.plainAttrs_list PySem.F.slot_list_append PySem.F.type_list_append mt_append (pv 4) (pa_cons (pd_ix ix_seq ix_d (ph_var (pv 4)) (ph_of (pd_neg pd_int)) (fun _ _ => rfl)) pa_nil))))) qs_nil))))))
      (qs_one (q_ret (pd_type (call_tuple_ofK K) tupOf_d (by rfl) m_tuple (by decide +kernel) (ph_var (pv 4)))))))) (fun ss Q h => ?_)
  obtain ⟨⟨q, L, m⟩, rfl, hq, hq2, hL, hL2, hm, done⟩ := h
  refine S_seq ?_
  refine S_setF fun k hk => ?_
  try simp only [Dl.sSeq, Dl.sCut, Dl.sNext, Dl.sNever, Dl.sIf, Dl.sExpr, Dl.sRet, Dl.sRetF, Dl.sRetO, Dl.sAsg, Dl.sSet, Dl.sSetF, Dl.sFrz, Dl.sMove, Dl.sAug, Dl.sApp, Dl.sPut, Dl.sFor, Dl.sPar, Dl.wVar, Dl.wVarH, Dl.wC, Dl.wOp, Dl.wOpF, Dl.gB, Dl.wAnd, Dl.wOr, Dl.wNot, Dl.wAndV, Dl.wOrV, Dl.wNotV, Dl.wIf, Dl.wChain, Dl.vD, Dl.vVar, Dl.aNil, Dl.aCons, Dl.lNil, Dl.lCons, Dl.lStar, Dl.wTup, Dl.wLst, Dl.dName, Dl.dNil, Dl.dCons, Dl.dTup, Dl.wUn, Dl.wUnF, Dl.wIsi, Dl.isD, Dl.w2I, Dl.wCall, Dl.wCallF, Dl.wCallK, Dl.rD, Dl.rF, Dl.mkS, Dl.iSeq, Dl.iTupl, Dl.iAny, Dl.iRg1, Dl.iRg2, Dl.iRev, Dl.rg1, Dl.rg2, Dl.iEn, Dl.iZp, Dl.iStrD, Dl.wLc, Dl.wipeE, Dl.wYes, Dl.wSl, Dl.wSlF, Dl.oNone, Dl.oSome, Dl.gSl, Dl.gAdd, Dl.gCat, Dl.gRep, Dl.gSub, Dl.gMul, Dl.gMod, Dl.gDiv, Dl.gPow, Dl.gLt, Dl.gLe, Dl.gGt, Dl.gGe, Dl.gEq, Dl.gNe, Dl.gIsN, Dl.gNotN, Dl.isN, Dl.gIx, Dl.gLen, Dl.gTupOf, Dl.gListOf, Dl.gSum, Dl.gRep1, Dl.gInt, Dl.gAll, Dl.gNeg, Dl.xF, Dl.wZip2, Dl.wZipS, Dl.sAugS, Dl.sExt, Dl.sNewU, Dl.sPutU, Dl.wTupU, Dl.gRev, Dl.gIn, Dl.gNotIn, Dl.wLenS, Dl.uVar, Dl.uD, Dl.wGetU, Dl.wInU, Dl.gDictP, Dl.gSortS, Dl.gSortSet, Dl.wReprU, Dl.wReprL, Dl.gReprU, Dl.sRaise, Dl.mkD1, Dl.mkD2, Dl.sCallX, Dl.sRetX, Dl.sSetX, List.map_cons, List.map_nil, List.length_cons, List.length_nil, List.replicate_succ, List.replicate_zero, List.cons_append, List.nil_append, List.set_cons_zero, List.set_cons_succ, List.getElem?_cons_zero, List.getElem?_cons_succ, if_true, if_false, Bool.false_eq_true, Bool.not_true, Bool.not_false, reduceIte, Nat.reduceAdd, Nat.reduceSub]
  refine ⟨Nat.zero_le _, ?_⟩
  refine hk _ [some .pen, some (.d (.int q)), some (.d (.int L)), some (.d (.int m)), some (.own []), none, none, none] rfl ?_
  clear hk k
  dsimp only [Dl.dTup, Dl.dCons, Dl.dName, Dl.dNil, Dl.sNext, List.set_cons_zero, List.set_cons_succ]
  refine S_seq ?_
  refine S_forP (fun ds => ds.length ≤ 20) (fun i E => ∃ (p : List Term) (x5 x6 x7 : Option SV), PolyOk q L p ∧ p.length ≤ 2 * i ∧ E = [some .pen, some (.d (.int q)), some (.d (.int L)), some (.d (.int m)), some (.own (p.map termD)), x5, x6, x7]) (fun k hk => ?_) ⟨[], none, none, none, (fun _ h => by cases h), Nat.zero_le _, rfl⟩ ?_ ?_
  · try simp only [Dl.sSeq, Dl.sCut, Dl.sNext, Dl.sNever, Dl.sIf, Dl.sExpr, Dl.sRet, Dl.sRetF, Dl.sRetO, Dl.sAsg, Dl.sSet, Dl.sSetF, Dl.sFrz, Dl.sMove, Dl.sAug, Dl.sApp, Dl.sPut, Dl.sFor, Dl.sPar, Dl.wVar, Dl.wVarH, Dl.wC, Dl.wOp, Dl.wOpF, Dl.gB, Dl.wAnd, Dl.wOr, Dl.wNot, Dl.wAndV, Dl.wOrV, Dl.wNotV, Dl.wIf, Dl.wChain, Dl.vD, Dl.vVar, Dl.aNil, Dl.aCons, Dl.lNil, Dl.lCons, Dl.lStar, Dl.wTup, Dl.wLst, Dl.dName, Dl.dNil, Dl.dCons, Dl.dTup, Dl.wUn, Dl.wUnF, Dl.wIsi, Dl.isD, Dl.w2I, Dl.wCall, Dl.wCallF, Dl.wCallK, Dl.rD, Dl.rF, Dl.mkS, Dl.iSeq, Dl.iTupl, Dl.iAny, Dl.iRg1, Dl.iRg2, Dl.iRev, Dl.rg1, Dl.rg2, Dl.iEn, Dl.iZp, Dl.iStrD, Dl.wLc, Dl.wipeE, Dl.wYes, Dl.wSl, Dl.wSlF, Dl.oNone, Dl.oSome, Dl.gSl, Dl.gAdd, Dl.gCat, Dl.gRep, Dl.gSub, Dl.gMul, Dl.gMod, Dl.gDiv, Dl.gPow, Dl.gLt, Dl.gLe, Dl.gGt, Dl.gGe, Dl.gEq, Dl.gNe, Dl.gIsN, Dl.gNotN, Dl.isN, Dl.gIx, Dl.gLen, Dl.gTupOf, Dl.gListOf, Dl.gSum, Dl.gRep1, Dl.gInt, Dl.gAll, Dl.gNeg, Dl.xF, Dl.wZip2, Dl.wZipS, Dl.sAugS, Dl.sExt, Dl.sNewU, Dl.sPutU, Dl.wTupU, Dl.gRev, Dl.gIn, Dl.gNotIn, Dl.wLenS, Dl.uVar, Dl.uD, Dl.wGetU, Dl.wInU, Dl.gDictP, Dl.gSortS, Dl.gSortSet, Dl.wReprU, Dl.wReprL, Dl.gReprU, Dl.sRaise, Dl.mkD1, Dl.mkD2, Dl.sCallX, Dl.sRetX, Dl.sSetX, List.map_cons, List.map_nil, List.length_cons, List.length_nil, List.replicate_succ, List.replicate_zero, List.cons_append, List.nil_append, List.set_cons_zero, List.set_cons_succ, List.getElem?_cons_zero, List.getElem?_cons_succ, if_true, if_false, Bool.false_eq_true, Bool.not_true, Bool.not_false, reduceIte, Nat.reduceAdd, Nat.reduceSub]
    refine ⟨m + 1, rfl, by omega, Nat.lt_of_le_of_lt (show ((m : Int) + 1).natAbs ≤ 21 by omega) (by decide), fun r r0 r1 => ?_⟩
    try simp only [Dl.sSeq, Dl.sCut, Dl.sNext, Dl.sNever, Dl.sIf, Dl.sExpr, Dl.sRet, Dl.sRetF, Dl.sRetO, Dl.sAsg, Dl.sSet, Dl.sSetF, Dl.sFrz, Dl.sMove, Dl.sAug, Dl.sApp, Dl.sPut, Dl.sFor, Dl.sPar, Dl.wVar, Dl.wVarH, Dl.wC, Dl.wOp, Dl.wOpF, Dl.gB, Dl.wAnd, Dl.wOr, Dl.wNot, Dl.wAndV, Dl.wOrV, Dl.wNotV, Dl.wIf, Dl.wChain, Dl.vD, Dl.vVar, Dl.aNil, Dl.aCons, Dl.lNil, Dl.lCons, Dl.lStar, Dl.wTup, Dl.wLst, Dl.dName, Dl.dNil, Dl.dCons, Dl.dTup, Dl.wUn, Dl.wUnF, Dl.wIsi, Dl.isD, Dl.w2I, Dl.wCall, Dl.wCallF, Dl.wCallK, Dl.rD, Dl.rF, Dl.mkS, Dl.iSeq, Dl.iTupl, Dl.iAny, Dl.iRg1, Dl.iRg2, Dl.iRev, Dl.rg1, Dl.rg2, Dl.iEn, Dl.iZp, Dl.iStrD, Dl.wLc, Dl.wipeE, Dl.wYes, Dl.wSl, Dl.wSlF, Dl.oNone, Dl.oSome, Dl.gSl, Dl.gAdd, Dl.gCat, Dl.gRep, Dl.gSub, Dl.gMul, Dl.gMod, Dl.gDiv, Dl.gPow, Dl.gLt, Dl.gLe, Dl.gGt, Dl.gGe, Dl.gEq, Dl.gNe, Dl.gIsN, Dl.gNotN, Dl.isN, Dl.gIx, Dl.gLen, Dl.gTupOf, Dl.gListOf, Dl.gSum, Dl.gRep1, Dl.gInt, Dl.gAll, Dl.gNeg, Dl.xF, Dl.wZip2, Dl.wZipS, Dl.sAugS, Dl.sExt, Dl.sNewU, Dl.sPutU, Dl.wTupU, Dl.gRev, Dl.gIn, Dl.gNotIn, Dl.wLenS, Dl.uVar, Dl.uD, Dl.wGetU, Dl.wInU, Dl.gDictP, Dl.gSortS, Dl.gSortSet, Dl.wReprU, Dl.wReprL, Dl.gReprU, Dl.sRaise, Dl.mkD1, Dl.mkD2, Dl.sCallX, Dl.sRetX, Dl.sSetX, List.map_cons, List.map_nil, List.length_cons, List.length_nil, List.replicate_succ, List.replicate_zero, List.cons_append, List.nil_append, List.set_cons_zero, List.set_cons_succ, List.getElem?_cons_zero, List.getElem?_cons_succ, if_true, if_false, Bool.false_eq_true, Bool.not_true, Bool.not_false, reduceIte, Nat.reduceAdd, Nat.reduceSub]
    refine ⟨sm_i (by omega) (by omega), hk _ ?_⟩
    rw [rngD_len]; omega
  · rintro ds hds i d E' hd ⟨p, x5, x6, x7, hp, hl, rfl⟩
    have hi : i < 20 := by have := (List.getElem?_eq_some_iff.mp hd).1; omega
    dsimp only [Dl.dTup, Dl.dCons, Dl.dName, Dl.dNil, Dl.sNext, List.set_cons_zero, List.set_cons_succ]
    refine S_seq ?_
    refine S_setF fun k hk => ?_
    try simp only [Dl.sSeq, Dl.sCut, Dl.sNext, Dl.sNever, Dl.sIf, Dl.sExpr, Dl.sRet, Dl.sRetF, Dl.sRetO, Dl.sAsg, Dl.sSet, Dl.sSetF, Dl.sFrz, Dl.sMove, Dl.sAug, Dl.sApp, Dl.sPut, Dl.sFor, Dl.sPar, Dl.wVar, Dl.wVarH, Dl.wC, Dl.wOp, Dl.wOpF, Dl.gB, Dl.wAnd, Dl.wOr, Dl.wNot, Dl.wAndV, Dl.wOrV, Dl.wNotV, Dl.wIf, Dl.wChain, Dl.vD, Dl.vVar, Dl.aNil, Dl.aCons, Dl.lNil, Dl.lCons, Dl.lStar, Dl.wTup, Dl.wLst, Dl.dName, Dl.dNil, Dl.dCons, Dl.dTup, Dl.wUn, Dl.wUnF, Dl.wIsi, Dl.isD, Dl.w2I, Dl.wCall, Dl.wCallF, Dl.wCallK, Dl.rD, Dl.rF, Dl.mkS, Dl.iSeq, Dl.iTupl, Dl.iAny, Dl.iRg1, Dl.iRg2, Dl.iRev, Dl.rg1, Dl.rg2, Dl.iEn, Dl.iZp, Dl.iStrD, Dl.wLc, Dl.wipeE, Dl.wYes, Dl.wSl, Dl.wSlF, Dl.oNone, Dl.oSome, Dl.gSl, Dl.gAdd, Dl.gCat, Dl.gRep, Dl.gSub, Dl.gMul, Dl.gMod, Dl.gDiv, Dl.gPow, Dl.gLt, Dl.gLe, Dl.gGt, Dl.gGe, Dl.gEq, Dl.gNe, Dl.gIsN, Dl.gNotN, Dl.isN, Dl.gIx, Dl.gLen, Dl.gTupOf, Dl.gListOf, Dl.gSum, Dl.gRep1, Dl.gInt, Dl.gAll, Dl.gNeg, Dl.xF, Dl.wZip2, Dl.wZipS, Dl.sAugS, Dl.sExt, Dl.sNewU, Dl.sPutU, Dl.wTupU, Dl.gRev, Dl.gIn, Dl.gNotIn, Dl.wLenS, Dl.uVar, Dl.uD, Dl.wGetU, Dl.wInU, Dl.gDictP, Dl.gSortS, Dl.gSortSet, Dl.wReprU, Dl.wReprL, Dl.gReprU, Dl.sRaise, Dl.mkD1, Dl.mkD2, Dl.sCallX, Dl.sRetX, Dl.sSetX, List.map_cons, List.map_nil, List.length_cons, List.length_nil, List.replicate_succ, List.replicate_zero, List.cons_append, List.nil_append, List.set_cons_zero, List.set_cons_succ, List.getElem?_cons_zero, List.getElem?_cons_succ, if_true, if_false, Bool.false_eq_true, Bool.not_true, Bool.not_false, reduceIte, Nat.reduceAdd, Nat.reduceSub]
    refine ⟨5, rfl, by decide, by decide, fun r r0 r1 => ?_⟩
    try simp only [Dl.sSeq, Dl.sCut, Dl.sNext, Dl.sNever, Dl.sIf, Dl.sExpr, Dl.sRet, Dl.sRetF, Dl.sRetO, Dl.sAsg, Dl.sSet, Dl.sSetF, Dl.sFrz, Dl.sMove, Dl.sAug, Dl.sApp, Dl.sPut, Dl.sFor, Dl.sPar, Dl.wVar, Dl.wVarH, Dl.wC, Dl.wOp, Dl.wOpF, Dl.gB, Dl.wAnd, Dl.wOr, Dl.wNot, Dl.wAndV, Dl.wOrV, Dl.wNotV, Dl.wIf, Dl.wChain, Dl.vD, Dl.vVar, Dl.aNil, Dl.aCons, Dl.lNil, Dl.lCons, Dl.lStar, Dl.wTup, Dl.wLst, Dl.dName, Dl.dNil, Dl.dCons, Dl.dTup, Dl.wUn, Dl.wUnF, Dl.wIsi, Dl.isD, Dl.w2I, Dl.wCall, Dl.wCallF, Dl.wCallK, Dl.rD, Dl.rF, Dl.mkS, Dl.iSeq, Dl.iTupl, Dl.iAny, Dl.iRg1, Dl.iRg2, Dl.iRev, Dl.rg1, Dl.rg2, Dl.iEn, Dl.iZp, Dl.iStrD, Dl.wLc, Dl.wipeE, Dl.wYes, Dl.wSl, Dl.wSlF, Dl.oNone, Dl.oSome, Dl.gSl, Dl.gAdd, Dl.gCat, Dl.gRep, Dl.gSub, Dl.gMul, Dl.gMod, Dl.gDiv, Dl.gPow, Dl.gLt, Dl.gLe, Dl.gGt, Dl.gGe, Dl.gEq, Dl.gNe, Dl.gIsN, Dl.gNotN, Dl.isN, Dl.gIx, Dl.gLen, Dl.gTupOf, Dl.gListOf, Dl.gSum, Dl.gRep1, Dl.gInt, Dl.gAll, Dl.gNeg, Dl.xF, Dl.wZip2, Dl.wZipS, Dl.sAugS, Dl.sExt, Dl.sNewU, Dl.sPutU, Dl.wTupU, Dl.gRev, Dl.gIn, Dl.gNotIn, Dl.wLenS, Dl.uVar, Dl.uD, Dl.wGetU, Dl.wInU, Dl.gDictP, Dl.gSortS, Dl.gSortSet, Dl.wReprU, Dl.wReprL, Dl.gReprU, Dl.sRaise, Dl.mkD1, Dl.mkD2, Dl.sCallX, Dl.sRetX, Dl.sSetX, List.map_cons, List.map_nil, List.length_cons, List.length_nil, List.replicate_succ, List.replicate_zero, List.cons_append, List.nil_append, List.set_cons_zero, List.set_cons_succ, List.getElem?_cons_zero, List.getElem?_cons_succ, if_true, if_false, Bool.false_eq_true, Bool.not_true, Bool.not_false, reduceIte, Nat.reduceAdd, Nat.reduceSub]
    refine ⟨sm_i (by omega) (by omega), lc_sz (by omega), ?_⟩
    refine lcW_rngA (fun _ r => ∃ c : Cell, r = cellD c ∧ CellOk L c) (fun j ok skip hj h => ?_) fun rs hrs hr => ?_
    · try simp only [Dl.sSeq, Dl.sCut, Dl.sNext, Dl.sNever, Dl.sIf, Dl.sExpr, Dl.sRet, Dl.sRetF, Dl.sRetO, Dl.sAsg, Dl.sSet, Dl.sSetF, Dl.sFrz, Dl.sMove, Dl.sAug, Dl.sApp, Dl.sPut, Dl.sFor, Dl.sPar, Dl.wVar, Dl.wVarH, Dl.wC, Dl.wOp, Dl.wOpF, Dl.gB, Dl.wAnd, Dl.wOr, Dl.wNot, Dl.wAndV, Dl.wOrV, Dl.wNotV, Dl.wIf, Dl.wChain, Dl.vD, Dl.vVar, Dl.aNil, Dl.aCons, Dl.lNil, Dl.lCons, Dl.lStar, Dl.wTup, Dl.wLst, Dl.dName, Dl.dNil, Dl.dCons, Dl.dTup, Dl.wUn, Dl.wUnF, Dl.wIsi, Dl.isD, Dl.w2I, Dl.wCall, Dl.wCallF, Dl.wCallK, Dl.rD, Dl.rF, Dl.mkS, Dl.iSeq, Dl.iTupl, Dl.iAny, Dl.iRg1, Dl.iRg2, Dl.iRev, Dl.rg1, Dl.rg2, Dl.iEn, Dl.iZp, Dl.iStrD, Dl.wLc, Dl.wipeE, Dl.wYes, Dl.wSl, Dl.wSlF, Dl.oNone, Dl.oSome, Dl.gSl, Dl.gAdd, Dl.gCat, Dl.gRep, Dl.gSub, Dl.gMul, Dl.gMod, Dl.gDiv, Dl.gPow, Dl.gLt, Dl.gLe, Dl.gGt, Dl.gGe, Dl.gEq, Dl.gNe, Dl.gIsN, Dl.gNotN, Dl.isN, Dl.gIx, Dl.gLen, Dl.gTupOf, Dl.gListOf, Dl.gSum, Dl.gRep1, Dl.gInt, Dl.gAll, Dl.gNeg, Dl.xF, Dl.wZip2, Dl.wZipS, Dl.sAugS, Dl.sExt, Dl.sNewU, Dl.sPutU, Dl.wTupU, Dl.gRev, Dl.gIn, Dl.gNotIn, Dl.wLenS, Dl.uVar, Dl.uD, Dl.wGetU, Dl.wInU, Dl.gDictP, Dl.gSortS, Dl.gSortSet, Dl.wReprU, Dl.wReprL, Dl.gReprU, Dl.sRaise, Dl.mkD1, Dl.mkD2, Dl.sCallX, Dl.sRetX, Dl.sSetX, List.map_cons, List.map_nil, List.length_cons, List.length_nil, List.replicate_succ, List.replicate_zero, List.cons_append, List.nil_append, List.set_cons_zero, List.set_cons_succ, List.getElem?_cons_zero, List.getElem?_cons_succ, if_true, if_false, Bool.false_eq_true, Bool.not_true, Bool.not_false, reduceIte, Nat.reduceAdd, Nat.reduceSub]
      exact ⟨L, rfl, hL, hL2, fun c hc => h _ ⟨c, rfl, hc⟩⟩
    obtain ⟨cs, rfl, hcs⟩ := cells_of hr
    have hc4 : cs.length ≤ 4 := by rw [List.length_map] at hrs; omega
    clear hr hrs r0 r1 r
    refine hk _ [some .pen, some (.d (.int q)), some (.d (.int L)), some (.d (.int m)), some (.own (p.map termD)), some (.d d), some (.own (cs.map cellD)), x7] rfl ?_
    clear hk k
    dsimp only [Dl.dTup, Dl.dCons, Dl.dName, Dl.dNil, Dl.sNext, List.set_cons_zero, List.set_cons_succ]
    refine ⟨fun E => ∃ (cs : List Cell) (x7 : Option SV), cs.length ≤ 4 ∧ (∀ c ∈ cs, CellOk L c) ∧ E = [some .pen, some (.d (.int q)), some (.d (.int L)), some (.d (.int m)), some (.own (p.map termD)), some (.d d), some (.own (cs.map cellD)), x7], ?_, ?_⟩
    · have keep : ∃ (cs' : List Cell) (x7' : Option SV), cs'.length ≤ 4 ∧ (∀ c ∈ cs', CellOk L c) ∧ [some SV.pen, some (.d (.int q)), some (.d (.int L)), some (.d (.int m)), some (.own (p.map termD)), some (.d d), some (.own (cs.map cellD)), x7] = [some SV.pen, some (.d (.int q)), some (.d (.int L)), some (.d (.int m)), some (.own (p.map termD)), some (.d d), some (.own (cs'.map cellD)), x7'] := ⟨cs, x7, hc4, hcs, rfl⟩
      try simp only [Dl.sSeq, Dl.sCut, Dl.sNext, Dl.sNever, Dl.sIf, Dl.sExpr, Dl.sRet, Dl.sRetF, Dl.sRetO, Dl.sAsg, Dl.sSet, Dl.sSetF, Dl.sFrz, Dl.sMove, Dl.sAug, Dl.sApp, Dl.sPut, Dl.sFor, Dl.sPar, Dl.wVar, Dl.wVarH, Dl.wC, Dl.wOp, Dl.wOpF, Dl.gB, Dl.wAnd, Dl.wOr, Dl.wNot, Dl.wAndV, Dl.wOrV, Dl.wNotV, Dl.wIf, Dl.wChain, Dl.vD, Dl.vVar, Dl.aNil, Dl.aCons, Dl.lNil, Dl.lCons, Dl.lStar, Dl.wTup, Dl.wLst, Dl.dName, Dl.dNil, Dl.dCons, Dl.dTup, Dl.wUn, Dl.wUnF, Dl.wIsi, Dl.isD, Dl.w2I, Dl.wCall, Dl.wCallF, Dl.wCallK, Dl.rD, Dl.rF, Dl.mkS, Dl.iSeq, Dl.iTupl, Dl.iAny, Dl.iRg1, Dl.iRg2, Dl.iRev, Dl.rg1, Dl.rg2, Dl.iEn, Dl.iZp, Dl.iStrD, Dl.wLc, Dl.wipeE, Dl.wYes, Dl.wSl, Dl.wSlF, Dl.oNone, Dl.oSome, Dl.gSl, Dl.gAdd, Dl.gCat, Dl.gRep, Dl.gSub, Dl.gMul, Dl.gMod, Dl.gDiv, Dl.gPow, Dl.gLt, Dl.gLe, Dl.gGt, Dl.gGe, Dl.gEq, Dl.gNe, Dl.gIsN, Dl.gNotN, Dl.isN, Dl.gIx, Dl.gLen, Dl.gTupOf, Dl.gListOf, Dl.gSum, Dl.gRep1, Dl.gInt, Dl.gAll, Dl.gNeg, Dl.xF, Dl.wZip2, Dl.wZipS, Dl.sAugS, Dl.sExt, Dl.sNewU, Dl.sPutU, Dl.wTupU, Dl.gRev, Dl.gIn, Dl.gNotIn, Dl.wLenS, Dl.uVar, Dl.uD, Dl.wGetU, Dl.wInU, Dl.gDictP, Dl.gSortS, Dl.gSortSet, Dl.wReprU, Dl.wReprL, Dl.gReprU, Dl.sRaise, Dl.mkD1, Dl.mkD2, Dl.sCallX, Dl.sRetX, Dl.sSetX, List.map_cons, List.map_nil, List.length_cons, List.length_nil, List.replicate_succ, List.replicate_zero, List.cons_append, List.nil_append, List.set_cons_zero, List.set_cons_succ, List.getElem?_cons_zero, List.getElem?_cons_succ, if_true, if_false, Bool.false_eq_true, Bool.not_true, Bool.not_false, reduceIte, Nat.reduceAdd, Nat.reduceSub]
      refine ⟨Nat.zero_le _, ((smla_cells hL2 hcs).lst.shaped), rfl, ?_⟩
      cases cs with
      | nil =>
        rw [show PyData.eqv (.list ([].map cellD)) (.list []) = true from rfl]
        try simp only [Dl.sSeq, Dl.sCut, Dl.sNext, Dl.sNever, Dl.sIf, Dl.sExpr, Dl.sRet, Dl.sRetF, Dl.sRetO, Dl.sAsg, Dl.sSet, Dl.sSetF, Dl.sFrz, Dl.sMove, Dl.sAug, Dl.sApp, Dl.sPut, Dl.sFor, Dl.sPar, Dl.wVar, Dl.wVarH, Dl.wC, Dl.wOp, Dl.wOpF, Dl.gB, Dl.wAnd, Dl.wOr, Dl.wNot, Dl.wAndV, Dl.wOrV, Dl.wNotV, Dl.wIf, Dl.wChain, Dl.vD, Dl.vVar, Dl.aNil, Dl.aCons, Dl.lNil, Dl.lCons, Dl.lStar, Dl.wTup, Dl.wLst, Dl.dName, Dl.dNil, Dl.dCons, Dl.dTup, Dl.wUn, Dl.wUnF, Dl.wIsi, Dl.isD, Dl.w2I, Dl.wCall, Dl.wCallF, Dl.wCallK, Dl.rD, Dl.rF, Dl.mkS, Dl.iSeq, Dl.iTupl, Dl.iAny, Dl.iRg1, Dl.iRg2, Dl.iRev, Dl.rg1, Dl.rg2, Dl.iEn, Dl.iZp, Dl.iStrD, Dl.wLc, Dl.wipeE, Dl.wYes, Dl.wSl, Dl.wSlF, Dl.oNone, Dl.oSome, Dl.gSl, Dl.gAdd, Dl.gCat, Dl.gRep, Dl.gSub, Dl.gMul, Dl.gMod, Dl.gDiv, Dl.gPow, Dl.gLt, Dl.gLe, Dl.gGt, Dl.gGe, Dl.gEq, Dl.gNe, Dl.gIsN, Dl.gNotN, Dl.isN, Dl.gIx, Dl.gLen, Dl.gTupOf, Dl.gListOf, Dl.gSum, Dl.gRep1, Dl.gInt, Dl.gAll, Dl.gNeg, Dl.xF, Dl.wZip2, Dl.wZipS, Dl.sAugS, Dl.sExt, Dl.sNewU, Dl.sPutU, Dl.wTupU, Dl.gRev, Dl.gIn, Dl.gNotIn, Dl.wLenS, Dl.uVar, Dl.uD, Dl.wGetU, Dl.wInU, Dl.gDictP, Dl.gSortS, Dl.gSortSet, Dl.wReprU, Dl.wReprL, Dl.gReprU, Dl.sRaise, Dl.mkD1, Dl.mkD2, Dl.sCallX, Dl.sRetX, Dl.sSetX, List.map_cons, List.map_nil, List.length_cons, List.length_nil, List.replicate_succ, List.replicate_zero, List.cons_append, List.nil_append, List.set_cons_zero, List.set_cons_succ, List.getElem?_cons_zero, List.getElem?_cons_succ, if_true, if_false, Bool.false_eq_true, Bool.not_true, Bool.not_false, reduceIte, Nat.reduceAdd, Nat.reduceSub]
        exact keep
      | cons c cs =>
        rw [show PyData.eqv (.list ((c :: cs).map cellD)) (.list []) = false from rfl]
        try simp only [Dl.sSeq, Dl.sCut, Dl.sNext, Dl.sNever, Dl.sIf, Dl.sExpr, Dl.sRet, Dl.sRetF, Dl.sRetO, Dl.sAsg, Dl.sSet, Dl.sSetF, Dl.sFrz, Dl.sMove, Dl.sAug, Dl.sApp, Dl.sPut, Dl.sFor, Dl.sPar, Dl.wVar, Dl.wVarH, Dl.wC, Dl.wOp, Dl.wOpF, Dl.gB, Dl.wAnd, Dl.wOr, Dl.wNot, Dl.wAndV, Dl.wOrV, Dl.wNotV, Dl.wIf, Dl.wChain, Dl.vD, Dl.vVar, Dl.aNil, Dl.aCons, Dl.lNil, Dl.lCons, Dl.lStar, Dl.wTup, Dl.wLst, Dl.dName, Dl.dNil, Dl.dCons, Dl.dTup, Dl.wUn, Dl.wUnF, Dl.wIsi, Dl.isD, Dl.w2I, Dl.wCall, Dl.wCallF, Dl.wCallK, Dl.rD, Dl.rF, Dl.mkS, Dl.iSeq, Dl.iTupl, Dl.iAny, Dl.iRg1, Dl.iRg2, Dl.iRev, Dl.rg1, Dl.rg2, Dl.iEn, Dl.iZp, Dl.iStrD, Dl.wLc, Dl.wipeE, Dl.wYes, Dl.wSl, Dl.wSlF, Dl.oNone, Dl.oSome, Dl.gSl, Dl.gAdd, Dl.gCat, Dl.gRep, Dl.gSub, Dl.gMul, Dl.gMod, Dl.gDiv, Dl.gPow, Dl.gLt, Dl.gLe, Dl.gGt, Dl.gGe, Dl.gEq, Dl.gNe, Dl.gIsN, Dl.gNotN, Dl.isN, Dl.gIx, Dl.gLen, Dl.gTupOf, Dl.gListOf, Dl.gSum, Dl.gRep1, Dl.gInt, Dl.gAll, Dl.gNeg, Dl.xF, Dl.wZip2, Dl.wZipS, Dl.sAugS, Dl.sExt, Dl.sNewU, Dl.sPutU, Dl.wTupU, Dl.gRev, Dl.gIn, Dl.gNotIn, Dl.wLenS, Dl.uVar, Dl.uD, Dl.wGetU, Dl.wInU, Dl.gDictP, Dl.gSortS, Dl.gSortSet, Dl.wReprU, Dl.wReprL, Dl.gReprU, Dl.sRaise, Dl.mkD1, Dl.mkD2, Dl.sCallX, Dl.sRetX, Dl.sSetX, List.map_cons, List.map_nil, List.length_cons, List.length_nil, List.replicate_succ, List.replicate_zero, List.cons_append, List.nil_append, List.set_cons_zero, List.set_cons_succ, List.getElem?_cons_zero, List.getElem?_cons_succ, if_true, if_false, Bool.false_eq_true, Bool.not_true, Bool.not_false, reduceIte, Nat.reduceAdd, Nat.reduceSub]
        refine ite2 (fun h4 => ?_) (fun _ => keep)
        refine ⟨4, rfl, by decide, by decide, fun r r0 r1 => ?_⟩
        try simp only [Dl.sSeq, Dl.sCut, Dl.sNext, Dl.sNever, Dl.sIf, Dl.sExpr, Dl.sRet, Dl.sRetF, Dl.sRetO, Dl.sAsg, Dl.sSet, Dl.sSetF, Dl.sFrz, Dl.sMove, Dl.sAug, Dl.sApp, Dl.sPut, Dl.sFor, Dl.sPar, Dl.wVar, Dl.wVarH, Dl.wC, Dl.wOp, Dl.wOpF, Dl.gB, Dl.wAnd, Dl.wOr, Dl.wNot, Dl.wAndV, Dl.wOrV, Dl.wNotV, Dl.wIf, Dl.wChain, Dl.vD, Dl.vVar, Dl.aNil, Dl.aCons, Dl.lNil, Dl.lCons, Dl.lStar, Dl.wTup, Dl.wLst, Dl.dName, Dl.dNil, Dl.dCons, Dl.dTup, Dl.wUn, Dl.wUnF, Dl.wIsi, Dl.isD, Dl.w2I, Dl.wCall, Dl.wCallF, Dl.wCallK, Dl.rD, Dl.rF, Dl.mkS, Dl.iSeq, Dl.iTupl, Dl.iAny, Dl.iRg1, Dl.iRg2, Dl.iRev, Dl.rg1, Dl.rg2, Dl.iEn, Dl.iZp, Dl.iStrD, Dl.wLc, Dl.wipeE, Dl.wYes, Dl.wSl, Dl.wSlF, Dl.oNone, Dl.oSome, Dl.gSl, Dl.gAdd, Dl.gCat, Dl.gRep, Dl.gSub, Dl.gMul, Dl.gMod, Dl.gDiv, Dl.gPow, Dl.gLt, Dl.gLe, Dl.gGt, Dl.gGe, Dl.gEq, Dl.gNe, Dl.gIsN, Dl.gNotN, Dl.isN, Dl.gIx, Dl.gLen, Dl.gTupOf, Dl.gListOf, Dl.gSum, Dl.gRep1, Dl.gInt, Dl.gAll, Dl.gNeg, Dl.xF, Dl.wZip2, Dl.wZipS, Dl.sAugS, Dl.sExt, Dl.sNewU, Dl.sPutU, Dl.wTupU, Dl.gRev, Dl.gIn, Dl.gNotIn, Dl.wLenS, Dl.uVar, Dl.uD, Dl.wGetU, Dl.wInU, Dl.gDictP, Dl.gSortS, Dl.gSortSet, Dl.wReprU, Dl.wReprL, Dl.gReprU, Dl.sRaise, Dl.mkD1, Dl.mkD2, Dl.sCallX, Dl.sRetX, Dl.sSetX, List.map_cons, List.map_nil, List.length_cons, List.length_nil, List.replicate_succ, List.replicate_zero, List.cons_append, List.nil_append, List.set_cons_zero, List.set_cons_succ, List.getElem?_cons_zero, List.getElem?_cons_succ, if_true, if_false, Bool.false_eq_true, Bool.not_true, Bool.not_false, reduceIte, Nat.reduceAdd, Nat.reduceSub]
        refine ⟨rfl, rfl, ?_⟩
        rw [show PyData.eqv (.int r) (.int 0) = (r == 0) from rfl]
        refine ite2 (fun hr => ?_) (fun _ => keep)
        have h5 := of_decide_eq_true h4
        simp only [List.length_map] at h5
        refine ⟨cellD c, atD (i := 0) rfl, by simp; exact line_lt (by omega), c :: cs ++ [c], x7, by simp; omega, fun x hx => ?_, by simp⟩
        rcases List.mem_append.mp hx with h | h
        · exact hcs x h
        · rw [List.mem_singleton.mp h]; exact hcs c (List.mem_cons_self ..)
    rintro E1 ⟨cs, x7, hc4, hcs, rfl⟩
    refine S_seq ?_
    try simp only [Dl.sSeq, Dl.sCut, Dl.sNext, Dl.sNever, Dl.sIf, Dl.sExpr, Dl.sRet, Dl.sRetF, Dl.sRetO, Dl.sAsg, Dl.sSet, Dl.sSetF, Dl.sFrz, Dl.sMove, Dl.sAug, Dl.sApp, Dl.sPut, Dl.sFor, Dl.sPar, Dl.wVar, Dl.wVarH, Dl.wC, Dl.wOp, Dl.wOpF, Dl.gB, Dl.wAnd, Dl.wOr, Dl.wNot, Dl.wAndV, Dl.wOrV, Dl.wNotV, Dl.wIf, Dl.wChain, Dl.vD, Dl.vVar, Dl.aNil, Dl.aCons, Dl.lNil, Dl.lCons, Dl.lStar, Dl.wTup, Dl.wLst, Dl.dName, Dl.dNil, Dl.dCons, Dl.dTup, Dl.wUn, Dl.wUnF, Dl.wIsi, Dl.isD, Dl.w2I, Dl.wCall, Dl.wCallF, Dl.wCallK, Dl.rD, Dl.rF, Dl.mkS, Dl.iSeq, Dl.iTupl, Dl.iAny, Dl.iRg1, Dl.iRg2, Dl.iRev, Dl.rg1, Dl.rg2, Dl.iEn, Dl.iZp, Dl.iStrD, Dl.wLc, Dl.wipeE, Dl.wYes, Dl.wSl, Dl.wSlF, Dl.oNone, Dl.oSome, Dl.gSl, Dl.gAdd, Dl.gCat, Dl.gRep, Dl.gSub, Dl.gMul, Dl.gMod, Dl.gDiv, Dl.gPow, Dl.gLt, Dl.gLe, Dl.gGt, Dl.gGe, Dl.gEq, Dl.gNe, Dl.gIsN, Dl.gNotN, Dl.isN, Dl.gIx, Dl.gLen, Dl.gTupOf, Dl.gListOf, Dl.gSum, Dl.gRep1, Dl.gInt, Dl.gAll, Dl.gNeg, Dl.xF, Dl.wZip2, Dl.wZipS, Dl.sAugS, Dl.sExt, Dl.sNewU, Dl.sPutU, Dl.wTupU, Dl.gRev, Dl.gIn, Dl.gNotIn, Dl.wLenS, Dl.uVar, Dl.uD, Dl.wGetU, Dl.wInU, Dl.gDictP, Dl.gSortS, Dl.gSortSet, Dl.wReprU, Dl.wReprL, Dl.gReprU, Dl.sRaise, Dl.mkD1, Dl.mkD2, Dl.sCallX, Dl.sRetX, Dl.sSetX, List.map_cons, List.map_nil, List.length_cons, List.length_nil, List.replicate_succ, List.replicate_zero, List.cons_append, List.nil_append, List.set_cons_zero, List.set_cons_succ, List.getElem?_cons_zero, List.getElem?_cons_succ, if_true, if_false, Bool.false_eq_true, Bool.not_true, Bool.not_false, reduceIte, Nat.reduceAdd, Nat.reduceSub]
    refine ⟨q - 1, rfl, by omega, Nat.lt_of_le_of_lt (show (q - 1).natAbs ≤ 1000 by omega) (by decide), fun r r0 r1 => ?_⟩
    have ht : TermOk q L (1 + r, cs) := ⟨by show 1 ≤ 1 + r; omega, by show 1 + r < q; omega, hc4, hcs⟩
    have hp2 : PolyOk q L (p ++ [(1 + r, cs)]) := fun x hx => by
      rcases List.mem_append.mp hx with h | h
      · exact hp x h
      · rw [List.mem_singleton.mp h]; exact ht
    try simp only [Dl.sSeq, Dl.sCut, Dl.sNext, Dl.sNever, Dl.sIf, Dl.sExpr, Dl.sRet, Dl.sRetF, Dl.sRetO, Dl.sAsg, Dl.sSet, Dl.sSetF, Dl.sFrz, Dl.sMove, Dl.sAug, Dl.sApp, Dl.sPut, Dl.sFor, Dl.sPar, Dl.wVar, Dl.wVarH, Dl.wC, Dl.wOp, Dl.wOpF, Dl.gB, Dl.wAnd, Dl.wOr, Dl.wNot, Dl.wAndV, Dl.wOrV, Dl.wNotV, Dl.wIf, Dl.wChain, Dl.vD, Dl.vVar, Dl.aNil, Dl.aCons, Dl.lNil, Dl.lCons, Dl.lStar, Dl.wTup, Dl.wLst, Dl.dName, Dl.dNil, Dl.dCons, Dl.dTup, Dl.wUn, Dl.wUnF, Dl.wIsi, Dl.isD, Dl.w2I, Dl.wCall, Dl.wCallF, Dl.wCallK, Dl.rD, Dl.rF, Dl.mkS, Dl.iSeq, Dl.iTupl, Dl.iAny, Dl.iRg1, Dl.iRg2, Dl.iRev, Dl.rg1, Dl.rg2, Dl.iEn, Dl.iZp, Dl.iStrD, Dl.wLc, Dl.wipeE, Dl.wYes, Dl.wSl, Dl.wSlF, Dl.oNone, Dl.oSome, Dl.gSl, Dl.gAdd, Dl.gCat, Dl.gRep, Dl.gSub, Dl.gMul, Dl.gMod, Dl.gDiv, Dl.gPow, Dl.gLt, Dl.gLe, Dl.gGt, Dl.gGe, Dl.gEq, Dl.gNe, Dl.gIsN, Dl.gNotN, Dl.isN, Dl.gIx, Dl.gLen, Dl.gTupOf, Dl.gListOf, Dl.gSum, Dl.gRep1, Dl.gInt, Dl.gAll, Dl.gNeg, Dl.xF, Dl.wZip2, Dl.wZipS, Dl.sAugS, Dl.sExt, Dl.sNewU, Dl.sPutU, Dl.wTupU, Dl.gRev, Dl.gIn, Dl.gNotIn, Dl.wLenS, Dl.uVar, Dl.uD, Dl.wGetU, Dl.wInU, Dl.gDictP, Dl.gSortS, Dl.gSortSet, Dl.wReprU, Dl.wReprL, Dl.gReprU, Dl.sRaise, Dl.mkD1, Dl.mkD2, Dl.sCallX, Dl.sRetX, Dl.sSetX, List.map_cons, List.map_nil, List.length_cons, List.length_nil, List.replicate_succ, List.replicate_zero, List.cons_append, List.nil_append, List.set_cons_zero, List.set_cons_succ, List.getElem?_cons_zero, List.getElem?_cons_succ, if_true, if_false, Bool.false_eq_true, Bool.not_true, Bool.not_false, reduceIte, Nat.reduceAdd, Nat.reduceSub]
    rw [poly_snoc p (1 + r, cs)]
    refine ⟨by decide, by simp; exact line_lt (by omega), 6, rfl, by decide, by decide, fun r2 r20 r21 => ?_⟩
    try simp only [Dl.sSeq, Dl.sCut, Dl.sNext, Dl.sNever, Dl.sIf, Dl.sExpr, Dl.sRet, Dl.sRetF, Dl.sRetO, Dl.sAsg, Dl.sSet, Dl.sSetF, Dl.sFrz, Dl.sMove, Dl.sAug, Dl.sApp, Dl.sPut, Dl.sFor, Dl.sPar, Dl.wVar, Dl.wVarH, Dl.wC, Dl.wOp, Dl.wOpF, Dl.gB, Dl.wAnd, Dl.wOr, Dl.wNot, Dl.wAndV, Dl.wOrV, Dl.wNotV, Dl.wIf, Dl.wChain, Dl.vD, Dl.vVar, Dl.aNil, Dl.aCons, Dl.lNil, Dl.lCons, Dl.lStar, Dl.wTup, Dl.wLst, Dl.dName, Dl.dNil, Dl.dCons, Dl.dTup, Dl.wUn, Dl.wUnF, Dl.wIsi, Dl.isD, Dl.w2I, Dl.wCall, Dl.wCallF, Dl.wCallK, Dl.rD, Dl.rF, Dl.mkS, Dl.iSeq, Dl.iTupl, Dl.iAny, Dl.iRg1, Dl.iRg2, Dl.iRev, Dl.rg1, Dl.rg2, Dl.iEn, Dl.iZp, Dl.iStrD, Dl.wLc, Dl.wipeE, Dl.wYes, Dl.wSl, Dl.wSlF, Dl.oNone, Dl.oSome, Dl.gSl, Dl.gAdd, Dl.gCat, Dl.gRep, Dl.gSub, Dl.gMul, Dl.gMod, Dl.gDiv, Dl.gPow, Dl.gLt, Dl.gLe, Dl.gGt, Dl.gGe, Dl.gEq, Dl.gNe, Dl.gIsN, Dl.gNotN, Dl.isN, Dl.gIx, Dl.gLen, Dl.gTupOf, Dl.gListOf, Dl.gSum, Dl.gRep1, Dl.gInt, Dl.gAll, Dl.gNeg, Dl.xF, Dl.wZip2, Dl.wZipS, Dl.sAugS, Dl.sExt, Dl.sNewU, Dl.sPutU, Dl.wTupU, Dl.gRev, Dl.gIn, Dl.gNotIn, Dl.wLenS, Dl.uVar, Dl.uD, Dl.wGetU, Dl.wInU, Dl.gDictP, Dl.gSortS, Dl.gSortSet, Dl.wReprU, Dl.wReprL, Dl.gReprU, Dl.sRaise, Dl.mkD1, Dl.mkD2, Dl.sCallX, Dl.sRetX, Dl.sSetX, List.map_cons, List.map_nil, List.length_cons, List.length_nil, List.replicate_succ, List.replicate_zero, List.cons_append, List.nil_append, List.set_cons_zero, List.set_cons_succ, List.getElem?_cons_zero, List.getElem?_cons_succ, if_true, if_false, Bool.false_eq_true, Bool.not_true, Bool.not_false, reduceIte, Nat.reduceAdd, Nat.reduceSub]
    refine ⟨rfl, rfl, ?_⟩
    refine ite2 (fun _ => ?_) (fun _ => ⟨p ++ [(1 + r, cs)], _, _, _, hp2, by simp; omega, rfl⟩)
    refine ⟨termD (1 + r, cs), by rw [List.map_append]; exact at_end, by simp; exact line_lt (by omega), p ++ [(1 + r, cs)] ++ [(1 + r, cs)], _, _, _, fun x hx => ?_, by simp; omega, by rw [List.map_append (l₁ := p ++ [(1 + r, cs)])]; rfl⟩
    rcases List.mem_append.mp hx with h | h
    · exact hp2 x h
    · rw [List.mem_singleton.mp h]; exact ht
  · rintro ds hds E' ⟨p, x5, x6, x7, hp, hl, rfl⟩
    try simp only [Dl.sSeq, Dl.sCut, Dl.sNext, Dl.sNever, Dl.sIf, Dl.sExpr, Dl.sRet, Dl.sRetF, Dl.sRetO, Dl.sAsg, Dl.sSet, Dl.sSetF, Dl.sFrz, Dl.sMove, Dl.sAug, Dl.sApp, Dl.sPut, Dl.sFor, Dl.sPar, Dl.wVar, Dl.wVarH, Dl.wC, Dl.wOp, Dl.wOpF, Dl.gB, Dl.wAnd, Dl.wOr, Dl.wNot, Dl.wAndV, Dl.wOrV, Dl.wNotV, Dl.wIf, Dl.wChain, Dl.vD, Dl.vVar, Dl.aNil, Dl.aCons, Dl.lNil, Dl.lCons, Dl.lStar, Dl.wTup, Dl.wLst, Dl.dName, Dl.dNil, Dl.dCons, Dl.dTup, Dl.wUn, Dl.wUnF, Dl.wIsi, Dl.isD, Dl.w2I, Dl.wCall, Dl.wCallF, Dl.wCallK, Dl.rD, Dl.rF, Dl.mkS, Dl.iSeq, Dl.iTupl, Dl.iAny, Dl.iRg1, Dl.iRg2, Dl.iRev, Dl.rg1, Dl.rg2, Dl.iEn, Dl.iZp, Dl.iStrD, Dl.wLc, Dl.wipeE, Dl.wYes, Dl.wSl, Dl.wSlF, Dl.oNone, Dl.oSome, Dl.gSl, Dl.gAdd, Dl.gCat, Dl.gRep, Dl.gSub, Dl.gMul, Dl.gMod, Dl.gDiv, Dl.gPow, Dl.gLt, Dl.gLe, Dl.gGt, Dl.gGe, Dl.gEq, Dl.gNe, Dl.gIsN, Dl.gNotN, Dl.isN, Dl.gIx, Dl.gLen, Dl.gTupOf, Dl.gListOf, Dl.gSum, Dl.gRep1, Dl.gInt, Dl.gAll, Dl.gNeg, Dl.xF, Dl.wZip2, Dl.wZipS, Dl.sAugS, Dl.sExt, Dl.sNewU, Dl.sPutU, Dl.wTupU, Dl.gRev, Dl.gIn, Dl.gNotIn, Dl.wLenS, Dl.uVar, Dl.uD, Dl.wGetU, Dl.wInU, Dl.gDictP, Dl.gSortS, Dl.gSortSet, Dl.wReprU, Dl.wReprL, Dl.gReprU, Dl.sRaise, Dl.mkD1, Dl.mkD2, Dl.sCallX, Dl.sRetX, Dl.sSetX, List.map_cons, List.map_nil, List.length_cons, List.length_nil, List.replicate_succ, List.replicate_zero, List.cons_append, List.nil_append, List.set_cons_zero, List.set_cons_succ, List.getElem?_cons_zero, List.getElem?_cons_succ, if_true, if_false, Bool.false_eq_true, Bool.not_true, Bool.not_false, reduceIte, Nat.reduceAdd, Nat.reduceSub]
    exact done p hp (by omega)

end
end Vk34

namespace Vk34
open PySem PySem.Spec PyProof.Rows L2 Vx
section
variable {P : Program} {w : World} {K : PySem.W.Frag} {mg : Str → Option Value} {base : Heap} {C_MissingVariable I_MissingVariable : Addr}
def S_cells_of : Dl.DSp := Dl.mkS (fun (p : List Term) => [.d (polyD p)]) fun p Q => p.length ≤ 1000 ∧ (∀ t ∈ p, t.2.length ≤ 4) ∧ Q (.d (.tuple ((firstsOf (cellsP p)).map cellD)))
theorem cellsP_len {p : List Term} (h : ∀ t ∈ p, t.2.length ≤ 4) : (cellsP p).length ≤ 4 * p.length := by
  induction p with
  | nil => simp [cellsP]
  | cons t p ih =>
    have h1 := h t (List.mem_cons_self ..)
    have h2 := ih fun x hx => h x (List.mem_cons_of_mem _ hx)
    unfold cellsP at *
    rw [List.flatMap_cons, List.length_append, List.length_cons]; omega
theorem cellsP_take {p : List Term} {i : Nat} {t : Term} (h : p[i]? = some t) : cellsP (p.take (i + 1)) = cellsP (p.take i) ++ t.2 := by
  have e : p.take (i + 1) = p.take i ++ [t] := by
    obtain ⟨hi, rfl⟩ := List.getElem?_eq_some_iff.mp h
    exact (List.take_succ_eq_append_getElem hi)
  unfold cellsP
  rw [e, List.flatMap_append]; simp
theorem take_cells {cs : List Cell} {j : Nat} {c : Cell} (h : cs[j]? = some c) : cs.take (j + 1) = cs.take j ++ [c] := by
  obtain ⟨hi, rfl⟩ := List.getElem?_eq_some_iff.mp h
  exact (List.take_succ_eq_append_getElem hi)
theorem put_firsts {ds : List (List Key × PyData)} {fs : List Cell} {c : Cell} (h : ds.map Prod.fst = fs.map ckey) : (Dl.dput ds (ckey c) (.bool true)).map Prod.fst = (addC fs c).map ckey := by
  rw [Dl.dput_fst, h]
  have e : ckey c ∈ fs.map ckey ↔ c ∈ fs := ⟨fun m => by
    obtain ⟨x, hx, e⟩ := List.mem_map.mp m
    exact ckey_inj e ▸ hx, fun m => List.mem_map.mpr ⟨c, m, rfl⟩⟩
  unfold addC
  by_cases hc : c ∈ fs
  · rw [if_pos (e.mpr hc), if_pos hc]
  · rw [if_neg (fun z => hc (e.mp z)), if_neg hc, List.map_append]; rfl

abbrev s_cells_of : Stmt := top 8
theorem sc_cells_of : FnScope ["polynomial", "found", "_", "cells", "cell"] ["polynomial"] (defScope s_cells_of) := ⟨rfl, rfl, rfl, by decide +kernel, rfl, by decide +kernel, by decide +kernel⟩
open Dl in
theorem ok_cells_of {f : Addr} {fd : FuncData} (F : Fun K "cells_of" "cells_of" s_cells_of f fd) (m_tuple : mg "tuple" = none) : FnG P w K mg base CX0 1 f fd ["polynomial"] (Dl.spD K S_cells_of) := by
  refine okD F sc_cells_of (fun ss Q h => by obtain ⟨x, rfl, _⟩ := h; rfl) (fun cdv A o s H E hr => (qs_cons (q_newT (i := 1) sc_cells_of.nd rfl (Or.inl rfl))
      (qs_cons (q_for PassesOwn.never rfl (qi_any (pd_var (pv 0))) (qg_tup (n := 2) rfl (qgs_cons (qg_name (i := 2) sc_cells_of.nd rfl (Or.inl rfl)) (qgs_cons (qg_name (i := 3) sc_cells_of.nd rfl (Or.inl rfl)) qgs_nil))) (qs_one (q_for PassesOwn.never rfl (qi_any (pd_var (pv 3))) (qg_name (i := 4) sc_cells_of.nd rfl (Or.inl rfl)) (qs_one (q_putU (j := 1) (hu_of hr.r) (pv 1) (pd_var (pv 4)) pd_bl)))))
      (qs_one (q_ret (pd_tupU rfl (by rfl) m_tuple (pv 1))))))) (fun ss Q h => ?_)
  obtain ⟨p, rfl, hl, h4, done⟩ := h
  have hcl := cellsP_len h4
  refine S_seq ?_
  refine S_newU (E' := [some (.d (polyD p)), some (.dct (.t [])), none, none, none]) rfl ?_
  dsimp only [Dl.dTup, Dl.dCons, Dl.dName, Dl.dNil, Dl.sNext, List.set_cons_zero, List.set_cons_succ]
  refine S_seq ?_
  refine S_for (p.map termD) (fun i E => ∃ (ds : List (List Key × PyData)) (x2 x3 x4 : Option SV), ds.map Prod.fst = (firstsOf (cellsP (p.take i))).map ckey ∧ E = [some (.d (polyD p)), some (.dct (.t ds)), x2, x3, x4]) (fun k hk => ?_) ⟨[], none, none, none, rfl, rfl⟩ ?_ ?_
  · unfold polyD
    try simp only [Dl.sSeq, Dl.sCut, Dl.sNext, Dl.sNever, Dl.sIf, Dl.sExpr, Dl.sRet, Dl.sRetF, Dl.sRetO, Dl.sAsg, Dl.sSet, Dl.sSetF, Dl.sFrz, Dl.sMove, Dl.sAug, Dl.sApp, Dl.sPut, Dl.sFor, Dl.sPar, Dl.wVar, Dl.wVarH, Dl.wC, Dl.wOp, Dl.wOpF, Dl.gB, Dl.wAnd, Dl.wOr, Dl.wNot, Dl.wAndV, Dl.wOrV, Dl.wNotV, Dl.wIf, Dl.wChain, Dl.vD, Dl.vVar, Dl.aNil, Dl.aCons, Dl.lNil, Dl.lCons, Dl.lStar, Dl.wTup, Dl.wLst, Dl.dName, Dl.dNil, Dl.dCons, Dl.dTup, Dl.wUn, Dl.wUnF, Dl.wIsi, Dl.isD, Dl.w2I, Dl.wCall, Dl.wCallF, Dl.wCallK, Dl.rD, Dl.rF, Dl.mkS, Dl.iSeq, Dl.iTupl, Dl.iAny, Dl.iRg1, Dl.iRg2, Dl.iRev, Dl.rg1, Dl.rg2, Dl.iEn, Dl.iZp, Dl.iStrD, Dl.wLc, Dl.wipeE, Dl.wYes, Dl.wSl, Dl.wSlF, Dl.oNone, Dl.oSome, Dl.gSl, Dl.gAdd, Dl.gCat, Dl.gRep, Dl.gSub, Dl.gMul, Dl.gMod, Dl.gDiv, Dl.gPow, Dl.gLt, Dl.gLe, Dl.gGt, Dl.gGe, Dl.gEq, Dl.gNe, Dl.gIsN, Dl.gNotN, Dl.isN, Dl.gIx, Dl.gLen, Dl.gTupOf, Dl.gListOf, Dl.gSum, Dl.gRep1, Dl.gInt, Dl.gAll, Dl.gNeg, Dl.xF, Dl.wZip2, Dl.wZipS, Dl.sAugS, Dl.sExt, Dl.sNewU, Dl.sPutU, Dl.wTupU, Dl.gRev, Dl.gIn, Dl.gNotIn, Dl.wLenS, Dl.uVar, Dl.uD, Dl.wGetU, Dl.wInU, Dl.gDictP, Dl.gSortS, Dl.gSortSet, Dl.wReprU, Dl.wReprL, Dl.gReprU, Dl.sRaise, Dl.mkD1, Dl.mkD2, Dl.sCallX, Dl.sRetX, Dl.sSetX, List.map_cons, List.map_nil, List.length_cons, List.length_nil, List.replicate_succ, List.replicate_zero, List.cons_append, List.nil_append, List.set_cons_zero, List.set_cons_succ, List.getElem?_cons_zero, List.getElem?_cons_succ, if_true, if_false, Bool.false_eq_true, Bool.not_true, Bool.not_false, reduceIte, Nat.reduceAdd, Nat.reduceSub]
    exact hk
  · rintro i d E' hd ⟨ds, x2, x3, x4, hds, rfl⟩
    obtain ⟨t, ht, rfl⟩ : ∃ t, p[i]? = some t ∧ termD t = d := by
      rw [List.getElem?_map] at hd
      cases e : p[i]? with
      | none => rw [e] at hd; cases hd
      | some t => rw [e] at hd; exact ⟨t, rfl, Option.some.inj hd⟩
    have htp : t ∈ p := List.mem_of_getElem? ht
    have hip : i < p.length := (List.getElem?_eq_some_iff.mp ht).1
    unfold termD
    dsimp only [Dl.dTup, Dl.dCons, Dl.dName, Dl.dNil, Dl.sNext, List.set_cons_zero, List.set_cons_succ]
    refine ⟨rfl, ?_⟩
    refine S_for (t.2.map cellD) (fun j E => ∃ (ds : List (List Key × PyData)) (x4 : Option SV), ds.map Prod.fst = (firstsOf (cellsP (p.take i) ++ t.2.take j)).map ckey ∧ E = [some (.d (polyD p)), some (.dct (.t ds)), some (.d (.int t.1)), some (.d (.tuple (t.2.map cellD))), x4]) (fun k hk => ?_) ⟨ds, x4, by rw [List.take_zero, List.append_nil]; exact hds, rfl⟩ ?_ ?_
    · try simp only [Dl.sSeq, Dl.sCut, Dl.sNext, Dl.sNever, Dl.sIf, Dl.sExpr, Dl.sRet, Dl.sRetF, Dl.sRetO, Dl.sAsg, Dl.sSet, Dl.sSetF, Dl.sFrz, Dl.sMove, Dl.sAug, Dl.sApp, Dl.sPut, Dl.sFor, Dl.sPar, Dl.wVar, Dl.wVarH, Dl.wC, Dl.wOp, Dl.wOpF, Dl.gB, Dl.wAnd, Dl.wOr, Dl.wNot, Dl.wAndV, Dl.wOrV, Dl.wNotV, Dl.wIf, Dl.wChain, Dl.vD, Dl.vVar, Dl.aNil, Dl.aCons, Dl.lNil, Dl.lCons, Dl.lStar, Dl.wTup, Dl.wLst, Dl.dName, Dl.dNil, Dl.dCons, Dl.dTup, Dl.wUn, Dl.wUnF, Dl.wIsi, Dl.isD, Dl.w2I, Dl.wCall, Dl.wCallF, Dl.wCallK, Dl.rD, Dl.rF, Dl.mkS, Dl.iSeq, Dl.iTupl, Dl.iAny, Dl.iRg1, Dl.iRg2, Dl.iRev, Dl.rg1, Dl.rg2, Dl.iEn, Dl.iZp, Dl.iStrD, Dl.wLc, Dl.wipeE, Dl.wYes, Dl.wSl, Dl.wSlF, Dl.oNone, Dl.oSome, Dl.gSl, Dl.gAdd, Dl.gCat, Dl.gRep, Dl.gSub, Dl.gMul, Dl.gMod, Dl.gDiv, Dl.gPow, Dl.gLt, Dl.gLe, Dl.gGt, Dl.gGe, Dl.gEq, Dl.gNe, Dl.gIsN, Dl.gNotN, Dl.isN, Dl.gIx, Dl.gLen, Dl.gTupOf, Dl.gListOf, Dl.gSum, Dl.gRep1, Dl.gInt, Dl.gAll, Dl.gNeg, Dl.xF, Dl.wZip2, Dl.wZipS, Dl.sAugS, Dl.sExt, Dl.sNewU, Dl.sPutU, Dl.wTupU, Dl.gRev, Dl.gIn, Dl.gNotIn, Dl.wLenS, Dl.uVar, Dl.uD, Dl.wGetU, Dl.wInU, Dl.gDictP, Dl.gSortS, Dl.gSortSet, Dl.wReprU, Dl.wReprL, Dl.gReprU, Dl.sRaise, Dl.mkD1, Dl.mkD2, Dl.sCallX, Dl.sRetX, Dl.sSetX, List.map_cons, List.map_nil, List.length_cons, List.length_nil, List.replicate_succ, List.replicate_zero, List.cons_append, List.nil_append, List.set_cons_zero, List.set_cons_succ, List.getElem?_cons_zero, List.getElem?_cons_succ, if_true, if_false, Bool.false_eq_true, Bool.not_true, Bool.not_false, reduceIte, Nat.reduceAdd, Nat.reduceSub]
      exact hk
    · rintro j d E' hd ⟨ds, x4, hds, rfl⟩
      obtain ⟨c, hc, rfl⟩ : ∃ c, t.2[j]? = some c ∧ cellD c = d := by
        rw [List.getElem?_map] at hd
        cases e : t.2[j]? with
        | none => rw [e] at hd; cases hd
        | some t => rw [e] at hd; exact ⟨t, rfl, Option.some.inj hd⟩
      have hj : j < t.2.length := (List.getElem?_eq_some_iff.mp hc).1
      try simp only [Dl.sSeq, Dl.sCut, Dl.sNext, Dl.sNever, Dl.sIf, Dl.sExpr, Dl.sRet, Dl.sRetF, Dl.sRetO, Dl.sAsg, Dl.sSet, Dl.sSetF, Dl.sFrz, Dl.sMove, Dl.sAug, Dl.sApp, Dl.sPut, Dl.sFor, Dl.sPar, Dl.wVar, Dl.wVarH, Dl.wC, Dl.wOp, Dl.wOpF, Dl.gB, Dl.wAnd, Dl.wOr, Dl.wNot, Dl.wAndV, Dl.wOrV, Dl.wNotV, Dl.wIf, Dl.wChain, Dl.vD, Dl.vVar, Dl.aNil, Dl.aCons, Dl.lNil, Dl.lCons, Dl.lStar, Dl.wTup, Dl.wLst, Dl.dName, Dl.dNil, Dl.dCons, Dl.dTup, Dl.wUn, Dl.wUnF, Dl.wIsi, Dl.isD, Dl.w2I, Dl.wCall, Dl.wCallF, Dl.wCallK, Dl.rD, Dl.rF, Dl.mkS, Dl.iSeq, Dl.iTupl, Dl.iAny, Dl.iRg1, Dl.iRg2, Dl.iRev, Dl.rg1, Dl.rg2, Dl.iEn, Dl.iZp, Dl.iStrD, Dl.wLc, Dl.wipeE, Dl.wYes, Dl.wSl, Dl.wSlF, Dl.oNone, Dl.oSome, Dl.gSl, Dl.gAdd, Dl.gCat, Dl.gRep, Dl.gSub, Dl.gMul, Dl.gMod, Dl.gDiv, Dl.gPow, Dl.gLt, Dl.gLe, Dl.gGt, Dl.gGe, Dl.gEq, Dl.gNe, Dl.gIsN, Dl.gNotN, Dl.isN, Dl.gIx, Dl.gLen, Dl.gTupOf, Dl.gListOf, Dl.gSum, Dl.gRep1, Dl.gInt, Dl.gAll, Dl.gNeg, Dl.xF, Dl.wZip2, Dl.wZipS, Dl.sAugS, Dl.sExt, Dl.sNewU, Dl.sPutU, Dl.wTupU, Dl.gRev, Dl.gIn, Dl.gNotIn, Dl.wLenS, Dl.uVar, Dl.uD, Dl.wGetU, Dl.wInU, Dl.gDictP, Dl.gSortS, Dl.gSortSet, Dl.wReprU, Dl.wReprL, Dl.gReprU, Dl.sRaise, Dl.mkD1, Dl.mkD2, Dl.sCallX, Dl.sRetX, Dl.sSetX, List.map_cons, List.map_nil, List.length_cons, List.length_nil, List.replicate_succ, List.replicate_zero, List.cons_append, List.nil_append, List.set_cons_zero, List.set_cons_succ, List.getElem?_cons_zero, List.getElem?_cons_succ, if_true, if_false, Bool.false_eq_true, Bool.not_true, Bool.not_false, reduceIte, Nat.reduceAdd, Nat.reduceSub]
      refine ⟨ckey c, rfl, ?_, _, _, ?_, rfl⟩
      · have h1 := congrArg List.length hds
        have h2 := firsts_len (cellsP (p.take i) ++ t.2.take j)
        have h3 := cellsP_len (p := p.take i) fun x hx => h4 x (List.mem_of_mem_take hx)
        have h5 := h4 t htp
        rw [List.length_map, List.length_map] at h1
        rw [List.length_append, List.length_take] at h2
        rw [List.length_take] at h3
        exact line_lt (by omega)
      · rw [put_firsts hds, take_cells hc, ← List.append_assoc, firsts_snoc]
    · rintro E' ⟨ds, x4, hds, rfl⟩
      rw [List.length_map, List.take_length] at hds
      exact ⟨ds, _, _, _, by rw [cellsP_take ht]; exact hds, rfl⟩
  · rintro E' ⟨ds, x2, x3, x4, hds, rfl⟩
    rw [List.length_map, List.take_length] at hds
    have e : ds.map (fun p => PyData.tuple (p.1.map Dl.keyD)) = (firstsOf (cellsP p)).map cellD := by
      have e1 : (fun p : List Key × PyData => PyData.tuple (p.1.map Dl.keyD)) = (fun k => PyData.tuple (k.map Dl.keyD)) ∘ Prod.fst := rfl
      rw [e1, ← List.map_map, hds, List.map_map]; rfl
    try simp only [Dl.sSeq, Dl.sCut, Dl.sNext, Dl.sNever, Dl.sIf, Dl.sExpr, Dl.sRet, Dl.sRetF, Dl.sRetO, Dl.sAsg, Dl.sSet, Dl.sSetF, Dl.sFrz, Dl.sMove, Dl.sAug, Dl.sApp, Dl.sPut, Dl.sFor, Dl.sPar, Dl.wVar, Dl.wVarH, Dl.wC, Dl.wOp, Dl.wOpF, Dl.gB, Dl.wAnd, Dl.wOr, Dl.wNot, Dl.wAndV, Dl.wOrV, Dl.wNotV, Dl.wIf, Dl.wChain, Dl.vD, Dl.vVar, Dl.aNil, Dl.aCons, Dl.lNil, Dl.lCons, Dl.lStar, Dl.wTup, Dl.wLst, Dl.dName, Dl.dNil, Dl.dCons, Dl.dTup, Dl.wUn, Dl.wUnF, Dl.wIsi, Dl.isD, Dl.w2I, Dl.wCall, Dl.wCallF, Dl.wCallK, Dl.rD, Dl.rF, Dl.mkS, Dl.iSeq, Dl.iTupl, Dl.iAny, Dl.iRg1, Dl.iRg2, Dl.iRev, Dl.rg1, Dl.rg2, Dl.iEn, Dl.iZp, Dl.iStrD, Dl.wLc, Dl.wipeE, Dl.wYes, Dl.wSl, Dl.wSlF, Dl.oNone, Dl.oSome, Dl.gSl, Dl.gAdd, Dl.gCat, Dl.gRep, Dl.gSub, Dl.gMul, Dl.gMod, Dl.gDiv, Dl.gPow, Dl.gLt, Dl.gLe, Dl.gGt, Dl.gGe, Dl.gEq, Dl.gNe, Dl.gIsN, Dl.gNotN, Dl.isN, Dl.gIx, Dl.gLen, Dl.gTupOf, Dl.gListOf, Dl.gSum, Dl.gRep1, Dl.gInt, Dl.gAll, Dl.gNeg, Dl.xF, Dl.wZip2, Dl.wZipS, Dl.sAugS, Dl.sExt, Dl.sNewU, Dl.sPutU, Dl.wTupU, Dl.gRev, Dl.gIn, Dl.gNotIn, Dl.wLenS, Dl.uVar, Dl.uD, Dl.wGetU, Dl.wInU, Dl.gDictP, Dl.gSortS, Dl.gSortSet, Dl.wReprU, Dl.wReprL, Dl.gReprU, Dl.sRaise, Dl.mkD1, Dl.mkD2, Dl.sCallX, Dl.sRetX, Dl.sSetX, List.map_cons, List.map_nil, List.length_cons, List.length_nil, List.replicate_succ, List.replicate_zero, List.cons_append, List.nil_append, List.set_cons_zero, List.set_cons_succ, List.getElem?_cons_zero, List.getElem?_cons_succ, if_true, if_false, Bool.false_eq_true, Bool.not_true, Bool.not_false, reduceIte, Nat.reduceAdd, Nat.reduceSub]
    rw [e]
    exact done

end
end Vk34

namespace Vk34
open PySem PySem.Spec PyProof.Rows L2 Vx
section
variable {P : Program} {w : World} {K : PySem.W.Frag} {mg : Str → Option Value} {base : Heap} {C_MissingVariable I_MissingVariable : Addr}
open Dl in
theorem lcW_fm {α : Type} {stp : PyData → (PyData → Prop) → Prop → Prop} {f : α → PyData} (g : α → Option PyData) : ∀ {xs : List α} {Q : List PyData → Prop}, (∀ x ok skip, x ∈ xs → (∀ r, g x = some r → ok r) → (g x = none → skip) → stp (f x) ok skip) → Q (xs.filterMap g) → lcW stp (xs.map f) Q
  | [], _, _, q => q
  | x :: xs, Q, hs, q => by
    refine hs x _ _ (List.mem_cons_self ..) (fun r e => ?_) fun e => ?_
    · refine lcW_fm g (fun y ok skip hy => hs y ok skip (List.mem_cons_of_mem _ hy)) ?_
      rw [List.filterMap_cons_some e] at q; exact q
    · refine lcW_fm g (fun y ok skip hy => hs y ok skip (List.mem_cons_of_mem _ hy)) ?_
      rw [List.filterMap_cons_none e] at q; exact q
/-- the name of an input -/
def inName (c : Cell) : Option Str := match c.2 with
  | .inr n => if c.1 = "input" then some n else none
  | .inl _ => none
def inNames (p : List Term) : List Str := (cellsP p).filterMap inName
theorem nodup_le {α : Type} : ∀ {xs ys : List α}, xs.Nodup → (∀ x ∈ xs, x ∈ ys) → xs.length ≤ ys.length
  | [], _, _, _ => Nat.zero_le _
  | x :: xs, ys, n, h => by
    obtain ⟨n1, n2⟩ := List.nodup_cons.mp n
    obtain ⟨as, bs, rfl⟩ := List.append_of_mem (h x (List.mem_cons_self ..))
    have := nodup_le (ys := as ++ bs) n2 fun y hy => by
      have := h y (List.mem_cons_of_mem _ hy)
      simp only [List.mem_append, List.mem_cons] at this ⊢
      rcases this with h | rfl | h
      · exact .inl h
      · exact absurd hy n1
      · exact .inr h
    simp only [List.length_append, List.length_cons] at this ⊢; omega
theorem inName_in (n : Str) : inName (Str.ofString "input", Sum.inr n) = some n := by unfold inName; exact if_pos rfl
theorem inName_ok {L : Int} {c : Cell} {n : Str} (h : CellOk L c) (e : inName c = some n) : NameOk n ∧ c = (Str.ofString "input", Sum.inr n) := by
  obtain ⟨a, k⟩ := c
  rcases h with ⟨rfl, m, rfl, hm⟩ | ⟨rfl, i, rfl, _⟩
  · rw [inName_in] at e; cases e
    exact ⟨hm, rfl⟩
  · cases e
theorem names_lt {L : Int} {p : List Term} (h : ∀ c ∈ cellsP p, CellOk L c) {ks : List Str} (nd : ks.Nodup) (m : ∀ x, x ∈ ks → x ∈ inNames p) : ks.length < 64 := by
  have := nodup_le (ys := names6) nd fun x hx => by
    obtain ⟨c, hc, e⟩ := List.mem_filterMap.mp (m x hx)
    exact (inName_ok (h c hc) e).1
  have e : names6.length = 6 := rfl
  omega
theorem addC_nodup {fs : List Cell} {c : Cell} (h : fs.Nodup) : (addC fs c).Nodup := by
  unfold addC
  split
  · exact h
  · rename_i hc
    rw [List.nodup_append]
    exact ⟨h, by simp, fun a ha b hb e => hc (by rw [List.mem_singleton] at hb; rw [← hb, ← e]; exact ha)⟩
theorem firsts_nodup (cs : List Cell) : (firstsOf cs).Nodup := by
  have : ∀ (cs fs : List Cell), fs.Nodup → (cs.foldl addC fs).Nodup := by
    intro cs
    induction cs with
    | nil => exact fun fs h => h
    | cons c cs ih => exact fun fs h => ih _ (addC_nodup h)
  exact this cs [] List.nodup_nil
theorem addC_mem {fs : List Cell} {c x : Cell} : x ∈ addC fs c ↔ x ∈ fs ∨ x = c := by
  unfold addC
  split
  · exact ⟨.inl, fun h => h.elim id fun e => e ▸ by assumption⟩
  · simp
theorem firsts_all {cs : List Cell} {x : Cell} : x ∈ firstsOf cs ↔ x ∈ cs := by
  have : ∀ (cs fs : List Cell), x ∈ cs.foldl addC fs ↔ x ∈ fs ∨ x ∈ cs := by
    intro cs
    induction cs with
    | nil => intro fs; simp
    | cons c cs ih =>
      intro fs
      rw [List.foldl_cons, ih, addC_mem, List.mem_cons, or_assoc]
  unfold firstsOf
  rw [this]; simp
theorem fm_nodup {L : Int} : ∀ {cs : List Cell}, cs.Nodup → (∀ c ∈ cs, CellOk L c) → (cs.filterMap inName).Nodup
  | [], _, _ => List.nodup_nil
  | c :: cs, n, h => by
    obtain ⟨n1, n2⟩ := List.nodup_cons.mp n
    have ih := fm_nodup n2 fun x hx => h x (List.mem_cons_of_mem _ hx)
    cases e : inName c with
    | none => rw [List.filterMap_cons_none e]; exact ih
    | some m =>
      rw [List.filterMap_cons_some e, List.nodup_cons]
      refine ⟨fun hm => ?_, ih⟩
      obtain ⟨d, hd, ed⟩ := List.mem_filterMap.mp hm
      have e1 := (inName_ok (h c (List.mem_cons_self ..)) e).2
      have e2 := (inName_ok (h d (List.mem_cons_of_mem _ hd)) ed).2
      rw [e2, ← e1] at hd
      exact n1 hd
def S_polynomial_variables : Dl.DSp := Dl.mkS (fun (x : List Term × Int) => [.d (polyD x.1)]) fun (p, L) Q => p.length ≤ 1000 ∧ (∀ t ∈ p, t.2.length ≤ 4) ∧ (∀ c ∈ cellsP p, CellOk L c) ∧ ∀ ys : List Str, ys.Nodup → (∀ x, x ∈ ys ↔ x ∈ inNames p) → sortedS ys = true → Q (.d (.tuple (Dl.strsD ys)))

abbrev s_polynomial_variables : Stmt := top 7
theorem sc_polynomial_variables : FnScope ["polynomial", "names", "kind", "name"] ["polynomial"] (defScope s_polynomial_variables) := ⟨rfl, rfl, rfl, by decide +kernel, rfl, by decide +kernel, by decide +kernel⟩
open Dl in
theorem ok_polynomial_variables {f : Addr} {fd : FuncData} (F : Fun K "polynomial_variables" "polynomial_variables" s_polynomial_variables f fd) (m_tuple : mg "tuple" = none) (m_sorted : mg "sorted" = none) (c_cells_of : Cal P w K mg base "cells_of" 1 ["polynomial"] (Dl.spD K S_cells_of)) : FnG P w K mg base CX0 2 f fd ["polynomial"] (Dl.spD K S_polynomial_variables) := by
  obtain ⟨f_cells_of, fd_cells_of, G_cells_of, m_cells_of, k_cells_of, b_cells_of⟩ := c_cells_of.ex
  refine okD F sc_polynomial_variables (fun ss Q h => by obtain ⟨x, rfl, _⟩ := h; rfl) (fun cdv A o s H E hr => (qs_cons (q_setLc (i := 1) (own := [("kind", 2), ("name", 3)]) (by rfl) sc_polynomial_variables.nd rfl rfl (sw_true rfl rfl rfl (by decide +kernel)) (qi_any (pd_call G_cells_of (hr.mono (by first | decide | omega)) (by rfl) m_cells_of k_cells_of b_cells_of (pa_consD (pv_var (pv 0)) pa_nilD))) (blkOk_by (own := [("kind", 2), ("name", 3)]) (by kernel_rfl)) (fun _ _ _ _ _ => (qg_tup (n := 2) rfl (qgs_cons (qg_name (i := 2) sc_polynomial_variables.nd rfl (Or.inl rfl)) (qgs_cons (qg_name (i := 3) sc_polynomial_variables.nd rfl (Or.inl rfl)) qgs_nil)))) (fun _ _ _ _ _ => (qts_one (pt_cmpD (op_eqD hr.r.units) eq_d (ph_var (pv 2)) (ph_of pd_str) (nomark _)))) (fun _ _ _ _ _ => (pd_var (pv 3))))
      (qs_frz (i := 1) (qs_one (q_ret (pd_type (call_tuple_ofK K) tupOf_d (by rfl) m_tuple (by decide +kernel) (ph_of (pd_new (pf_bltn cr_sortedS sortS_f (by rfl) m_sorted (by decide +kernel) (ph_var (pv 1))))))))))) (fun ss Q h => ?_)
  obtain ⟨⟨p, L⟩, rfl, hl, h4, hok, done⟩ := h
  have hfo : ∀ c ∈ firstsOf (cellsP p), CellOk L c := fun c hc => hok c (firsts_all.mp hc)
  have nd := fm_nodup (firsts_nodup (cellsP p)) hfo
  have mem : ∀ x, x ∈ (firstsOf (cellsP p)).filterMap inName ↔ x ∈ inNames p := fun x => by
    unfold inNames
    rw [List.mem_filterMap, List.mem_filterMap]
    exact ⟨fun ⟨c, hc, e⟩ => ⟨c, firsts_all.mp hc, e⟩, fun ⟨c, hc, e⟩ => ⟨c, firsts_all.mpr hc, e⟩⟩
  refine S_seq ?_
  refine S_setF fun k hk => ?_
  try simp only [Dl.sSeq, Dl.sCut, Dl.sNext, Dl.sNever, Dl.sIf, Dl.sExpr, Dl.sRet, Dl.sRetF, Dl.sRetO, Dl.sAsg, Dl.sSet, Dl.sSetF, Dl.sFrz, Dl.sMove, Dl.sAug, Dl.sApp, Dl.sPut, Dl.sFor, Dl.sPar, Dl.wVar, Dl.wVarH, Dl.wC, Dl.wOp, Dl.wOpF, Dl.gB, Dl.wAnd, Dl.wOr, Dl.wNot, Dl.wAndV, Dl.wOrV, Dl.wNotV, Dl.wIf, Dl.wChain, Dl.vD, Dl.vVar, Dl.aNil, Dl.aCons, Dl.lNil, Dl.lCons, Dl.lStar, Dl.wTup, Dl.wLst, Dl.dName, Dl.dNil, Dl.dCons, Dl.dTup, Dl.wUn, Dl.wUnF, Dl.wIsi, Dl.isD, Dl.w2I, Dl.wCall, Dl.wCallF, Dl.wCallK, Dl.rD, Dl.rF, Dl.mkS, Dl.iSeq, Dl.iTupl, Dl.iAny, Dl.iRg1, Dl.iRg2, Dl.iRev, Dl.rg1, Dl.rg2, Dl.iEn, Dl.iZp, Dl.iStrD, Dl.wLc, Dl.wipeE, Dl.wYes, Dl.wSl, Dl.wSlF, Dl.oNone, Dl.oSome, Dl.gSl, Dl.gAdd, Dl.gCat, Dl.gRep, Dl.gSub, Dl.gMul, Dl.gMod, Dl.gDiv, Dl.gPow, Dl.gLt, Dl.gLe, Dl.gGt, Dl.gGe, Dl.gEq, Dl.gNe, Dl.gIsN, Dl.gNotN, Dl.isN, Dl.gIx, Dl.gLen, Dl.gTupOf, Dl.gListOf, Dl.gSum, Dl.gRep1, Dl.gInt, Dl.gAll, Dl.gNeg, Dl.xF, Dl.wZip2, Dl.wZipS, Dl.sAugS, Dl.sExt, Dl.sNewU, Dl.sPutU, Dl.wTupU, Dl.gRev, Dl.gIn, Dl.gNotIn, Dl.wLenS, Dl.uVar, Dl.uD, Dl.wGetU, Dl.wInU, Dl.gDictP, Dl.gSortS, Dl.gSortSet, Dl.wReprU, Dl.wReprL, Dl.gReprU, Dl.sRaise, Dl.mkD1, Dl.mkD2, Dl.sCallX, Dl.sRetX, Dl.sSetX, List.map_cons, List.map_nil, List.length_cons, List.length_nil, List.replicate_succ, List.replicate_zero, List.cons_append, List.nil_append, List.set_cons_zero, List.set_cons_succ, List.getElem?_cons_zero, List.getElem?_cons_succ, if_true, if_false, Bool.false_eq_true, Bool.not_true, Bool.not_false, reduceIte, Nat.reduceAdd, Nat.reduceSub]
  refine ⟨p, rfl, hl, h4, ?_⟩
  have hcl := cellsP_len h4
  have hfl := firsts_len (cellsP p)
  try simp only [Dl.sSeq, Dl.sCut, Dl.sNext, Dl.sNever, Dl.sIf, Dl.sExpr, Dl.sRet, Dl.sRetF, Dl.sRetO, Dl.sAsg, Dl.sSet, Dl.sSetF, Dl.sFrz, Dl.sMove, Dl.sAug, Dl.sApp, Dl.sPut, Dl.sFor, Dl.sPar, Dl.wVar, Dl.wVarH, Dl.wC, Dl.wOp, Dl.wOpF, Dl.gB, Dl.wAnd, Dl.wOr, Dl.wNot, Dl.wAndV, Dl.wOrV, Dl.wNotV, Dl.wIf, Dl.wChain, Dl.vD, Dl.vVar, Dl.aNil, Dl.aCons, Dl.lNil, Dl.lCons, Dl.lStar, Dl.wTup, Dl.wLst, Dl.dName, Dl.dNil, Dl.dCons, Dl.dTup, Dl.wUn, Dl.wUnF, Dl.wIsi, Dl.isD, Dl.w2I, Dl.wCall, Dl.wCallF, Dl.wCallK, Dl.rD, Dl.rF, Dl.mkS, Dl.iSeq, Dl.iTupl, Dl.iAny, Dl.iRg1, Dl.iRg2, Dl.iRev, Dl.rg1, Dl.rg2, Dl.iEn, Dl.iZp, Dl.iStrD, Dl.wLc, Dl.wipeE, Dl.wYes, Dl.wSl, Dl.wSlF, Dl.oNone, Dl.oSome, Dl.gSl, Dl.gAdd, Dl.gCat, Dl.gRep, Dl.gSub, Dl.gMul, Dl.gMod, Dl.gDiv, Dl.gPow, Dl.gLt, Dl.gLe, Dl.gGt, Dl.gGe, Dl.gEq, Dl.gNe, Dl.gIsN, Dl.gNotN, Dl.isN, Dl.gIx, Dl.gLen, Dl.gTupOf, Dl.gListOf, Dl.gSum, Dl.gRep1, Dl.gInt, Dl.gAll, Dl.gNeg, Dl.xF, Dl.wZip2, Dl.wZipS, Dl.sAugS, Dl.sExt, Dl.sNewU, Dl.sPutU, Dl.wTupU, Dl.gRev, Dl.gIn, Dl.gNotIn, Dl.wLenS, Dl.uVar, Dl.uD, Dl.wGetU, Dl.wInU, Dl.gDictP, Dl.gSortS, Dl.gSortSet, Dl.wReprU, Dl.wReprL, Dl.gReprU, Dl.sRaise, Dl.mkD1, Dl.mkD2, Dl.sCallX, Dl.sRetX, Dl.sSetX, List.map_cons, List.map_nil, List.length_cons, List.length_nil, List.replicate_succ, List.replicate_zero, List.cons_append, List.nil_append, List.set_cons_zero, List.set_cons_succ, List.getElem?_cons_zero, List.getElem?_cons_succ, if_true, if_false, Bool.false_eq_true, Bool.not_true, Bool.not_false, reduceIte, Nat.reduceAdd, Nat.reduceSub]
  refine ⟨by simp; exact line_lt (by omega), lcW_fm (fun c => (inName c).map PyData.str) (fun c ok skip hc h1 h2 => ?_) ?_⟩
  · obtain ⟨a, k2⟩ := c
    rcases hfo _ hc with ⟨rfl, m, rfl, hm⟩ | ⟨rfl, i, rfl, _⟩
    · refine ⟨rfl, ?_⟩
      show SeqAt.shaped (PyData.str (Str.ofString "input")) = true ∧ _
      refine ⟨Dl.shaped_str (Dl.okc_of _), Dl.shaped_str (Dl.okc_of _), ?_⟩
      exact Dl.iteP (show PyData.eqv (PyData.str (Str.ofString "input")) (PyData.str (Str.ofString "input")) = true by decide +kernel) (h1 _ (by rw [inName_in]; rfl))
    · refine ⟨rfl, ?_⟩
      show SeqAt.shaped (PyData.str (Str.ofString "coin")) = true ∧ _
      refine ⟨Dl.shaped_str (Dl.okc_of _), Dl.shaped_str (Dl.okc_of _), ?_⟩
      exact Dl.iteQ (show ¬ PyData.eqv (PyData.str (Str.ofString "coin")) (PyData.str (Str.ofString "input")) = true by decide +kernel) (h2 rfl)
  · have e : (firstsOf (cellsP p)).filterMap (fun c => (inName c).map PyData.str) = Dl.strsD ((firstsOf (cellsP p)).filterMap inName) := by
      unfold Dl.strsD
      rw [List.map_filterMap]
    rw [e]
    refine hk _ [some (.d (polyD p)), some (.own (Dl.strsD ((firstsOf (cellsP p)).filterMap inName))), none, none] rfl ?_
    clear hk k
    dsimp only [Dl.dTup, Dl.dCons, Dl.dName, Dl.dNil, Dl.sNext, List.set_cons_zero, List.set_cons_succ]
    refine S_frz (ds := Dl.strsD ((firstsOf (cellsP p)).filterMap inName)) (E' := [some (.d (polyD p)), some (.d (.list (Dl.strsD ((firstsOf (cellsP p)).filterMap inName)))), none, none]) rfl rfl ?_
    refine S_ret fun k hk => ?_
    try simp only [Dl.sSeq, Dl.sCut, Dl.sNext, Dl.sNever, Dl.sIf, Dl.sExpr, Dl.sRet, Dl.sRetF, Dl.sRetO, Dl.sAsg, Dl.sSet, Dl.sSetF, Dl.sFrz, Dl.sMove, Dl.sAug, Dl.sApp, Dl.sPut, Dl.sFor, Dl.sPar, Dl.wVar, Dl.wVarH, Dl.wC, Dl.wOp, Dl.wOpF, Dl.gB, Dl.wAnd, Dl.wOr, Dl.wNot, Dl.wAndV, Dl.wOrV, Dl.wNotV, Dl.wIf, Dl.wChain, Dl.vD, Dl.vVar, Dl.aNil, Dl.aCons, Dl.lNil, Dl.lCons, Dl.lStar, Dl.wTup, Dl.wLst, Dl.dName, Dl.dNil, Dl.dCons, Dl.dTup, Dl.wUn, Dl.wUnF, Dl.wIsi, Dl.isD, Dl.w2I, Dl.wCall, Dl.wCallF, Dl.wCallK, Dl.rD, Dl.rF, Dl.mkS, Dl.iSeq, Dl.iTupl, Dl.iAny, Dl.iRg1, Dl.iRg2, Dl.iRev, Dl.rg1, Dl.rg2, Dl.iEn, Dl.iZp, Dl.iStrD, Dl.wLc, Dl.wipeE, Dl.wYes, Dl.wSl, Dl.wSlF, Dl.oNone, Dl.oSome, Dl.gSl, Dl.gAdd, Dl.gCat, Dl.gRep, Dl.gSub, Dl.gMul, Dl.gMod, Dl.gDiv, Dl.gPow, Dl.gLt, Dl.gLe, Dl.gGt, Dl.gGe, Dl.gEq, Dl.gNe, Dl.gIsN, Dl.gNotN, Dl.isN, Dl.gIx, Dl.gLen, Dl.gTupOf, Dl.gListOf, Dl.gSum, Dl.gRep1, Dl.gInt, Dl.gAll, Dl.gNeg, Dl.xF, Dl.wZip2, Dl.wZipS, Dl.sAugS, Dl.sExt, Dl.sNewU, Dl.sPutU, Dl.wTupU, Dl.gRev, Dl.gIn, Dl.gNotIn, Dl.wLenS, Dl.uVar, Dl.uD, Dl.wGetU, Dl.wInU, Dl.gDictP, Dl.gSortS, Dl.gSortSet, Dl.wReprU, Dl.wReprL, Dl.gReprU, Dl.sRaise, Dl.mkD1, Dl.mkD2, Dl.sCallX, Dl.sRetX, Dl.sSetX, List.map_cons, List.map_nil, List.length_cons, List.length_nil, List.replicate_succ, List.replicate_zero, List.cons_append, List.nil_append, List.set_cons_zero, List.set_cons_succ, List.getElem?_cons_zero, List.getElem?_cons_succ, if_true, if_false, Bool.false_eq_true, Bool.not_true, Bool.not_false, reduceIte, Nat.reduceAdd, Nat.reduceSub]
    refine ⟨_, rfl, names_lt hok nd (fun x hx => (mem x).mp hx), fun ys pm srt => ?_⟩
    exact hk _ (done ys (pm.nodup_iff.mpr nd) (fun x => pm.mem_iff.trans (mem x)) srt)

open Dl in
def lackD (g : Gd) : List Str → Option Str
  | [] => none
  | n :: r => if (dval g (.inr n)).isSome = true then lackD g r else some n
open Dl in
def S_require_variables (C : Addr) : Dl.DSpX := fun ss Q Ed => ∃ x : List Str × Gd, ss = [.d (.tuple (strsD x.1)), .d (dicD x.2)] ∧ match x with
  | (ns, g) => (lackD g ns = none → Q (.d .none)) ∧ ∀ n, lackD g ns = some n → Ed (.ref C) [("name", .str n)]
open Dl in
theorem lack_take {g : Gd} : ∀ {ns : List Str} {i : Nat} {n : Str}, ns[i]? = some n → (∀ m ∈ ns.take i, (dval g (.inr m)).isSome = true) → (dval g (.inr n)).isSome = false → lackD g ns = some n
  | [], _, _, h, _, _ => by simp at h
  | m :: ns, 0, n, h, _, e => by
    cases h
    unfold lackD
    rw [e]; rfl
  | m :: ns, i + 1, n, h, a, e => by
    unfold lackD
    rw [a m (by simp), if_pos rfl]
    exact lack_take (by simpa using h) (fun x hx => a x (by simp [hx])) e
open Dl in
theorem lack_none {g : Gd} : ∀ {ns : List Str}, (∀ m ∈ ns, (dval g (.inr m)).isSome = true) → lackD g ns = none
  | [], _ => rfl
  | m :: ns, a => by
    unfold lackD
    rw [a m (List.mem_cons_self ..), if_pos rfl]
    exact lack_none fun x hx => a x (List.mem_cons_of_mem _ hx)

abbrev s_require_variables : Stmt := top 3
theorem sc_require_variables : FnScope ["names", "assignment", "name"] ["names", "assignment"] (defScope s_require_variables) := ⟨rfl, rfl, rfl, by decide +kernel, rfl, by decide +kernel, by decide +kernel⟩
open Dl in
theorem ok_require_variables {f : Addr} {fd : FuncData} (F : Fun K "require_variables" "require_variables" s_require_variables f fd) (T_MissingVariable : Dl.X1 K mg "MissingVariable" "name" "MissingVariable.__init__" C_MissingVariable I_MissingVariable) : FnG P w K mg base (L2.CX P w) 3 f fd ["names", "assignment"] (Dl.spX K (S_require_variables C_MissingVariable)) := by
  refine okDX F sc_require_variables (fun ss Q Ed h => by obtain ⟨x, rfl, _⟩ := h; rfl) (fun cdv A o s H E hr => (qs_one (q_for (passes_of rfl) rfl (qi_any (pd_var (pv 0))) (qg_name (i := 2) sc_require_variables.nd rfl (Or.inl rfl)) (qs_one (q_if (pt_notInU (hu_of hr.r) (pd_var (pv 2)) (pu_var (pv 1))) (qs_one (q_raise1 rfl T_MissingVariable.er T_MissingVariable.xc hr.r (by rfl) (pa_consD (pv_var (pv 2)) pa_nilD))) qs_nil))))) (fun ss Q Ed h => ?_)
  obtain ⟨⟨ns, g⟩, rfl, q1, q2⟩ := h
  refine S_for (strsD ns) (fun i E => ∃ x2, (∀ m ∈ ns.take i, (dval g (.inr m)).isSome = true) ∧ E = [some (.d (.tuple (strsD ns))), some (.d (dicD g)), x2]) (fun k hk => ?_) ⟨none, by simp, rfl⟩ ?_ ?_
  · try simp only [Dl.sSeq, Dl.sCut, Dl.sNext, Dl.sNever, Dl.sIf, Dl.sExpr, Dl.sRet, Dl.sRetF, Dl.sRetO, Dl.sAsg, Dl.sSet, Dl.sSetF, Dl.sFrz, Dl.sMove, Dl.sAug, Dl.sApp, Dl.sPut, Dl.sFor, Dl.sPar, Dl.wVar, Dl.wVarH, Dl.wC, Dl.wOp, Dl.wOpF, Dl.gB, Dl.wAnd, Dl.wOr, Dl.wNot, Dl.wAndV, Dl.wOrV, Dl.wNotV, Dl.wIf, Dl.wChain, Dl.vD, Dl.vVar, Dl.aNil, Dl.aCons, Dl.lNil, Dl.lCons, Dl.lStar, Dl.wTup, Dl.wLst, Dl.dName, Dl.dNil, Dl.dCons, Dl.dTup, Dl.wUn, Dl.wUnF, Dl.wIsi, Dl.isD, Dl.w2I, Dl.wCall, Dl.wCallF, Dl.wCallK, Dl.rD, Dl.rF, Dl.mkS, Dl.iSeq, Dl.iTupl, Dl.iAny, Dl.iRg1, Dl.iRg2, Dl.iRev, Dl.rg1, Dl.rg2, Dl.iEn, Dl.iZp, Dl.iStrD, Dl.wLc, Dl.wipeE, Dl.wYes, Dl.wSl, Dl.wSlF, Dl.oNone, Dl.oSome, Dl.gSl, Dl.gAdd, Dl.gCat, Dl.gRep, Dl.gSub, Dl.gMul, Dl.gMod, Dl.gDiv, Dl.gPow, Dl.gLt, Dl.gLe, Dl.gGt, Dl.gGe, Dl.gEq, Dl.gNe, Dl.gIsN, Dl.gNotN, Dl.isN, Dl.gIx, Dl.gLen, Dl.gTupOf, Dl.gListOf, Dl.gSum, Dl.gRep1, Dl.gInt, Dl.gAll, Dl.gNeg, Dl.xF, Dl.wZip2, Dl.wZipS, Dl.sAugS, Dl.sExt, Dl.sNewU, Dl.sPutU, Dl.wTupU, Dl.gRev, Dl.gIn, Dl.gNotIn, Dl.wLenS, Dl.uVar, Dl.uD, Dl.wGetU, Dl.wInU, Dl.gDictP, Dl.gSortS, Dl.gSortSet, Dl.wReprU, Dl.wReprL, Dl.gReprU, Dl.sRaise, Dl.mkD1, Dl.mkD2, Dl.sCallX, Dl.sRetX, Dl.sSetX, List.map_cons, List.map_nil, List.length_cons, List.length_nil, List.replicate_succ, List.replicate_zero, List.cons_append, List.nil_append, List.set_cons_zero, List.set_cons_succ, List.getElem?_cons_zero, List.getElem?_cons_succ, if_true, if_false, Bool.false_eq_true, Bool.not_true, Bool.not_false, reduceIte, Nat.reduceAdd, Nat.reduceSub]
    exact hk
  · rintro i d E' hd ⟨x2, a, rfl⟩
    obtain ⟨n, hn, rfl⟩ : ∃ n, ns[i]? = some n ∧ PyData.str n = d := by
      unfold strsD at hd
      rw [List.getElem?_map] at hd
      cases e : ns[i]? with
      | none => rw [e] at hd; cases hd
      | some t => rw [e] at hd; exact ⟨t, rfl, Option.some.inj hd⟩
    try simp only [Dl.sSeq, Dl.sCut, Dl.sNext, Dl.sNever, Dl.sIf, Dl.sExpr, Dl.sRet, Dl.sRetF, Dl.sRetO, Dl.sAsg, Dl.sSet, Dl.sSetF, Dl.sFrz, Dl.sMove, Dl.sAug, Dl.sApp, Dl.sPut, Dl.sFor, Dl.sPar, Dl.wVar, Dl.wVarH, Dl.wC, Dl.wOp, Dl.wOpF, Dl.gB, Dl.wAnd, Dl.wOr, Dl.wNot, Dl.wAndV, Dl.wOrV, Dl.wNotV, Dl.wIf, Dl.wChain, Dl.vD, Dl.vVar, Dl.aNil, Dl.aCons, Dl.lNil, Dl.lCons, Dl.lStar, Dl.wTup, Dl.wLst, Dl.dName, Dl.dNil, Dl.dCons, Dl.dTup, Dl.wUn, Dl.wUnF, Dl.wIsi, Dl.isD, Dl.w2I, Dl.wCall, Dl.wCallF, Dl.wCallK, Dl.rD, Dl.rF, Dl.mkS, Dl.iSeq, Dl.iTupl, Dl.iAny, Dl.iRg1, Dl.iRg2, Dl.iRev, Dl.rg1, Dl.rg2, Dl.iEn, Dl.iZp, Dl.iStrD, Dl.wLc, Dl.wipeE, Dl.wYes, Dl.wSl, Dl.wSlF, Dl.oNone, Dl.oSome, Dl.gSl, Dl.gAdd, Dl.gCat, Dl.gRep, Dl.gSub, Dl.gMul, Dl.gMod, Dl.gDiv, Dl.gPow, Dl.gLt, Dl.gLe, Dl.gGt, Dl.gGe, Dl.gEq, Dl.gNe, Dl.gIsN, Dl.gNotN, Dl.isN, Dl.gIx, Dl.gLen, Dl.gTupOf, Dl.gListOf, Dl.gSum, Dl.gRep1, Dl.gInt, Dl.gAll, Dl.gNeg, Dl.xF, Dl.wZip2, Dl.wZipS, Dl.sAugS, Dl.sExt, Dl.sNewU, Dl.sPutU, Dl.wTupU, Dl.gRev, Dl.gIn, Dl.gNotIn, Dl.wLenS, Dl.uVar, Dl.uD, Dl.wGetU, Dl.wInU, Dl.gDictP, Dl.gSortS, Dl.gSortSet, Dl.wReprU, Dl.wReprL, Dl.gReprU, Dl.sRaise, Dl.mkD1, Dl.mkD2, Dl.sCallX, Dl.sRetX, Dl.sSetX, List.map_cons, List.map_nil, List.length_cons, List.length_nil, List.replicate_succ, List.replicate_zero, List.cons_append, List.nil_append, List.set_cons_zero, List.set_cons_succ, List.getElem?_cons_zero, List.getElem?_cons_succ, if_true, if_false, Bool.false_eq_true, Bool.not_true, Bool.not_false, reduceIte, Nat.reduceAdd, Nat.reduceSub]
    refine ⟨g, rfl, .inr n, rfl, ?_⟩
    cases c : (dval g (.inr n)).isSome with
    | true =>
      try simp only [Dl.sSeq, Dl.sCut, Dl.sNext, Dl.sNever, Dl.sIf, Dl.sExpr, Dl.sRet, Dl.sRetF, Dl.sRetO, Dl.sAsg, Dl.sSet, Dl.sSetF, Dl.sFrz, Dl.sMove, Dl.sAug, Dl.sApp, Dl.sPut, Dl.sFor, Dl.sPar, Dl.wVar, Dl.wVarH, Dl.wC, Dl.wOp, Dl.wOpF, Dl.gB, Dl.wAnd, Dl.wOr, Dl.wNot, Dl.wAndV, Dl.wOrV, Dl.wNotV, Dl.wIf, Dl.wChain, Dl.vD, Dl.vVar, Dl.aNil, Dl.aCons, Dl.lNil, Dl.lCons, Dl.lStar, Dl.wTup, Dl.wLst, Dl.dName, Dl.dNil, Dl.dCons, Dl.dTup, Dl.wUn, Dl.wUnF, Dl.wIsi, Dl.isD, Dl.w2I, Dl.wCall, Dl.wCallF, Dl.wCallK, Dl.rD, Dl.rF, Dl.mkS, Dl.iSeq, Dl.iTupl, Dl.iAny, Dl.iRg1, Dl.iRg2, Dl.iRev, Dl.rg1, Dl.rg2, Dl.iEn, Dl.iZp, Dl.iStrD, Dl.wLc, Dl.wipeE, Dl.wYes, Dl.wSl, Dl.wSlF, Dl.oNone, Dl.oSome, Dl.gSl, Dl.gAdd, Dl.gCat, Dl.gRep, Dl.gSub, Dl.gMul, Dl.gMod, Dl.gDiv, Dl.gPow, Dl.gLt, Dl.gLe, Dl.gGt, Dl.gGe, Dl.gEq, Dl.gNe, Dl.gIsN, Dl.gNotN, Dl.isN, Dl.gIx, Dl.gLen, Dl.gTupOf, Dl.gListOf, Dl.gSum, Dl.gRep1, Dl.gInt, Dl.gAll, Dl.gNeg, Dl.xF, Dl.wZip2, Dl.wZipS, Dl.sAugS, Dl.sExt, Dl.sNewU, Dl.sPutU, Dl.wTupU, Dl.gRev, Dl.gIn, Dl.gNotIn, Dl.wLenS, Dl.uVar, Dl.uD, Dl.wGetU, Dl.wInU, Dl.gDictP, Dl.gSortS, Dl.gSortSet, Dl.wReprU, Dl.wReprL, Dl.gReprU, Dl.sRaise, Dl.mkD1, Dl.mkD2, Dl.sCallX, Dl.sRetX, Dl.sSetX, List.map_cons, List.map_nil, List.length_cons, List.length_nil, List.replicate_succ, List.replicate_zero, List.cons_append, List.nil_append, List.set_cons_zero, List.set_cons_succ, List.getElem?_cons_zero, List.getElem?_cons_succ, if_true, if_false, Bool.false_eq_true, Bool.not_true, Bool.not_false, reduceIte, Nat.reduceAdd, Nat.reduceSub]
      refine ⟨_, fun m hm => ?_, rfl⟩
      obtain ⟨hi, rfl⟩ := List.getElem?_eq_some_iff.mp hn
      rw [List.take_succ_eq_append_getElem hi] at hm
      rcases List.mem_append.mp hm with h | h
      · exact a m h
      · rw [List.mem_singleton.mp h]; exact c
    | false =>
      try simp only [Dl.sSeq, Dl.sCut, Dl.sNext, Dl.sNever, Dl.sIf, Dl.sExpr, Dl.sRet, Dl.sRetF, Dl.sRetO, Dl.sAsg, Dl.sSet, Dl.sSetF, Dl.sFrz, Dl.sMove, Dl.sAug, Dl.sApp, Dl.sPut, Dl.sFor, Dl.sPar, Dl.wVar, Dl.wVarH, Dl.wC, Dl.wOp, Dl.wOpF, Dl.gB, Dl.wAnd, Dl.wOr, Dl.wNot, Dl.wAndV, Dl.wOrV, Dl.wNotV, Dl.wIf, Dl.wChain, Dl.vD, Dl.vVar, Dl.aNil, Dl.aCons, Dl.lNil, Dl.lCons, Dl.lStar, Dl.wTup, Dl.wLst, Dl.dName, Dl.dNil, Dl.dCons, Dl.dTup, Dl.wUn, Dl.wUnF, Dl.wIsi, Dl.isD, Dl.w2I, Dl.wCall, Dl.wCallF, Dl.wCallK, Dl.rD, Dl.rF, Dl.mkS, Dl.iSeq, Dl.iTupl, Dl.iAny, Dl.iRg1, Dl.iRg2, Dl.iRev, Dl.rg1, Dl.rg2, Dl.iEn, Dl.iZp, Dl.iStrD, Dl.wLc, Dl.wipeE, Dl.wYes, Dl.wSl, Dl.wSlF, Dl.oNone, Dl.oSome, Dl.gSl, Dl.gAdd, Dl.gCat, Dl.gRep, Dl.gSub, Dl.gMul, Dl.gMod, Dl.gDiv, Dl.gPow, Dl.gLt, Dl.gLe, Dl.gGt, Dl.gGe, Dl.gEq, Dl.gNe, Dl.gIsN, Dl.gNotN, Dl.isN, Dl.gIx, Dl.gLen, Dl.gTupOf, Dl.gListOf, Dl.gSum, Dl.gRep1, Dl.gInt, Dl.gAll, Dl.gNeg, Dl.xF, Dl.wZip2, Dl.wZipS, Dl.sAugS, Dl.sExt, Dl.sNewU, Dl.sPutU, Dl.wTupU, Dl.gRev, Dl.gIn, Dl.gNotIn, Dl.wLenS, Dl.uVar, Dl.uD, Dl.wGetU, Dl.wInU, Dl.gDictP, Dl.gSortS, Dl.gSortSet, Dl.wReprU, Dl.wReprL, Dl.gReprU, Dl.sRaise, Dl.mkD1, Dl.mkD2, Dl.sCallX, Dl.sRetX, Dl.sSetX, List.map_cons, List.map_nil, List.length_cons, List.length_nil, List.replicate_succ, List.replicate_zero, List.cons_append, List.nil_append, List.set_cons_zero, List.set_cons_succ, List.getElem?_cons_zero, List.getElem?_cons_succ, if_true, if_false, Bool.false_eq_true, Bool.not_true, Bool.not_false, reduceIte, Nat.reduceAdd, Nat.reduceSub]
      exact ⟨_, rfl, q2 n (lack_take hn a c)⟩
  · rintro E' ⟨x2, a, rfl⟩
    unfold strsD at a
    rw [List.length_map, List.take_length] at a
    exact q1 (lack_none a)

open Dl in
/-- names with numbers -/
def asgG (ns : List Str) (val : Str → Int) : Gd := ns.map fun n => (.inr n, .int (val n))
open Dl in
theorem asg_val {ns : List Str} {val : Str → Int} {n : Str} (h : n ∈ ns) : dval (asgG ns val) (.inr n) = some (.int (val n)) := by
  induction ns with
  | nil => cases h
  | cons m ns ih =>
    by_cases c : m = n
    · subst c
      simp [asgG, dval]
    · have hn : n ∈ ns := (List.mem_cons.mp h).elim (fun e => absurd e.symm c) id
      have : ¬ (Sum.inr m : Key) = Sum.inr n := fun z => c (Sum.inr.inj z)
      have e : dval (asgG (m :: ns) val) (.inr n) = dval (asgG ns val) (.inr n) := by simp [asgG, dval, List.find?_cons, this]
      rw [e]; exact ih hn
open Dl in
theorem asg_non {ns : List Str} {val : Str → Int} {n : Str} (h : n ∉ ns) : dval (asgG ns val) (.inr n) = none := by
  induction ns with
  | nil => rfl
  | cons m ns ih =>
    have c : ¬ m = n := fun z => h (by rw [z]; exact List.mem_cons_self ..)
    have : ¬ (Sum.inr m : Key) = Sum.inr n := fun z => c (Sum.inr.inj z)
    have e : dval (asgG (m :: ns) val) (.inr n) = dval (asgG ns val) (.inr n) := by simp [asgG, dval, List.find?_cons, this]
    rw [e]; exact ih fun z => h (List.mem_cons_of_mem _ z)
/-- what a cell is worth -/
def cellV (val : Str → Int) (us : List Int) (c : Cell) : Int := match c.2 with
  | .inr n => val n
  | .inl i => us.getD i.toNat 0
def termV (val : Str → Int) (us : List Int) (t : Term) : Int := t.2.foldl (fun v c => v * cellV val us c) t.1
def polyV (val : Str → Int) (us : List Int) (p : List Term) : Int := (p.map (termV val us)).sum
/-- values at hand for these cells -/
structure Has (L : Int) (g : Dl.Gd) (val : Str → Int) (us : List Int) (cs : List Cell) : Prop where
  ok : ∀ c ∈ cs, CellOk L c
  ns : ∀ n, (Str.ofString "input", (Sum.inr n : Key)) ∈ cs → Dl.dval g (.inr n) = some (.int (val n))
  vb : ∀ n, 0 ≤ val n ∧ val n ≤ 1000
  ub : ∀ u ∈ us, 0 ≤ u ∧ u ≤ 1000
  ul : L ≤ us.length
theorem Has.sub {L : Int} {g : Dl.Gd} {val : Str → Int} {us : List Int} {cs ds : List Cell} (h : Has L g val us cs) (s : ∀ c ∈ ds, c ∈ cs) : Has L g val us ds := ⟨fun c hc => h.ok c (s c hc), fun n hn => h.ns n (s _ hn), h.vb, h.ub, h.ul⟩
theorem us_at {us : List Int} {i : Int} (h0 : 0 ≤ i) (h : i < us.length) : atI (us.map PyData.int) i = some (.int (us.getD i.toNat 0)) := by
  obtain ⟨n, rfl⟩ := Int.eq_ofNat_of_zero_le h0
  refine Dl.atD ?_
  have hn : n < us.length := by omega
  rw [List.getElem?_map, List.getElem?_eq_getElem hn]
  show some (PyData.int us[n]) = some (PyData.int (us.getD ((n : Int).toNat) 0))
  rw [Int.toNat_natCast, List.getD_eq_getElem?_getD, List.getElem?_eq_getElem hn]; rfl
theorem Has.bnd {L : Int} {g : Dl.Gd} {val : Str → Int} {us : List Int} {cs : List Cell} (h : Has L g val us cs) {c : Cell} (hc : c ∈ cs) : 0 ≤ cellV val us c ∧ cellV val us c ≤ 1000 := by
  obtain ⟨a, k⟩ := c
  rcases h.ok _ hc with ⟨_, n, e, _⟩ | ⟨_, i, e, h0, h1⟩
  · cases e; exact h.vb n
  · cases e
    have hi : i.toNat < us.length := by have := h.ul; omega
    show 0 ≤ us.getD i.toNat 0 ∧ us.getD i.toNat 0 ≤ 1000
    rw [List.getD_eq_getElem?_getD, List.getElem?_eq_getElem hi]
    exact h.ub _ (List.getElem_mem hi)
def S_term_value : Dl.DSp := Dl.mkS (fun (x : Term × Int × Dl.Gd × (Str → Int) × List Int) => [.d (termD x.1), .d (Dl.dicD x.2.2.1), .d (rowD x.2.2.2.2)]) fun (t, L, g, val, us) Q => Has L g val us t.2 ∧ Q (.d (.int (termV val us t)))

abbrev s_term_value : Stmt := top 6
theorem sc_term_value : FnScope ["term", "assignment", "coins", "value", "cells", "kind", "name"] ["term", "assignment", "coins"] (defScope s_term_value) := ⟨rfl, rfl, rfl, by decide +kernel, rfl, by decide +kernel, by decide +kernel⟩
open Dl in
theorem ok_term_value {f : Addr} {fd : FuncData} (F : Fun K "_term_value" "_term_value" s_term_value f fd)  : FnG P w K mg base CX0 1 f fd ["term", "assignment", "coins"] (Dl.spD K S_term_value) := by
  refine okD F sc_term_value (fun ss Q h => by obtain ⟨x, rfl, _⟩ := h; rfl) (fun cdv A o s H E hr => (qs_cons (q_asg (pd_var (pv 0)) (qg_tup (n := 2) rfl (qgs_cons (qg_name (i := 3) sc_term_value.nd rfl (Or.inl rfl)) (qgs_cons (qg_name (i := 4) sc_term_value.nd rfl (Or.inl rfl)) qgs_nil))))
      (qs_cons (q_for PassesOwn.never rfl (qi_any (pd_var (pv 4))) (qg_tup (n := 2) rfl (qgs_cons (qg_name (i := 5) sc_term_value.nd rfl (Or.inl rfl)) (qgs_cons (qg_name (i := 6) sc_term_value.nd rfl (Or.inl rfl)) qgs_nil))) (qs_one (q_set (i := 3) sc_term_value.nd rfl (Or.inl rfl) (pd_op op_mulA mul_d (ph_var (pv 3)) (ph_of (pd_ifExp (pt_cmpD (op_eqD hr.r.units) eq_d (ph_var (pv 5)) (ph_of pd_str) (nomark _)) (pd_getU (hu_of hr.r) (pu_var (pv 1)) (pd_var (pv 6)) (fun _ _ => rfl)) (pd_ix ix_seq ix_d (ph_var (pv 2)) (ph_var (pv 6)) (fun _ _ => rfl))))))))
      (qs_one (q_ret (pd_var (pv 3))))))) (fun ss Q h => ?_)
  obtain ⟨⟨t, L, g, val, us⟩, rfl, hh, done⟩ := h
  unfold termD rowD
  refine S_seq ?_
  refine S_asg fun k hk => ?_
  try simp only [Dl.sSeq, Dl.sCut, Dl.sNext, Dl.sNever, Dl.sIf, Dl.sExpr, Dl.sRet, Dl.sRetF, Dl.sRetO, Dl.sAsg, Dl.sSet, Dl.sSetF, Dl.sFrz, Dl.sMove, Dl.sAug, Dl.sApp, Dl.sPut, Dl.sFor, Dl.sPar, Dl.wVar, Dl.wVarH, Dl.wC, Dl.wOp, Dl.wOpF, Dl.gB, Dl.wAnd, Dl.wOr, Dl.wNot, Dl.wAndV, Dl.wOrV, Dl.wNotV, Dl.wIf, Dl.wChain, Dl.vD, Dl.vVar, Dl.aNil, Dl.aCons, Dl.lNil, Dl.lCons, Dl.lStar, Dl.wTup, Dl.wLst, Dl.dName, Dl.dNil, Dl.dCons, Dl.dTup, Dl.wUn, Dl.wUnF, Dl.wIsi, Dl.isD, Dl.w2I, Dl.wCall, Dl.wCallF, Dl.wCallK, Dl.rD, Dl.rF, Dl.mkS, Dl.iSeq, Dl.iTupl, Dl.iAny, Dl.iRg1, Dl.iRg2, Dl.iRev, Dl.rg1, Dl.rg2, Dl.iEn, Dl.iZp, Dl.iStrD, Dl.wLc, Dl.wipeE, Dl.wYes, Dl.wSl, Dl.wSlF, Dl.oNone, Dl.oSome, Dl.gSl, Dl.gAdd, Dl.gCat, Dl.gRep, Dl.gSub, Dl.gMul, Dl.gMod, Dl.gDiv, Dl.gPow, Dl.gLt, Dl.gLe, Dl.gGt, Dl.gGe, Dl.gEq, Dl.gNe, Dl.gIsN, Dl.gNotN, Dl.isN, Dl.gIx, Dl.gLen, Dl.gTupOf, Dl.gListOf, Dl.gSum, Dl.gRep1, Dl.gInt, Dl.gAll, Dl.gNeg, Dl.xF, Dl.wZip2, Dl.wZipS, Dl.sAugS, Dl.sExt, Dl.sNewU, Dl.sPutU, Dl.wTupU, Dl.gRev, Dl.gIn, Dl.gNotIn, Dl.wLenS, Dl.uVar, Dl.uD, Dl.wGetU, Dl.wInU, Dl.gDictP, Dl.gSortS, Dl.gSortSet, Dl.wReprU, Dl.wReprL, Dl.gReprU, Dl.sRaise, Dl.mkD1, Dl.mkD2, Dl.sCallX, Dl.sRetX, Dl.sSetX, List.map_cons, List.map_nil, List.length_cons, List.length_nil, List.replicate_succ, List.replicate_zero, List.cons_append, List.nil_append, List.set_cons_zero, List.set_cons_succ, List.getElem?_cons_zero, List.getElem?_cons_succ, if_true, if_false, Bool.false_eq_true, Bool.not_true, Bool.not_false, reduceIte, Nat.reduceAdd, Nat.reduceSub]
  refine hk _ ?_
  clear hk k
  dsimp only [Dl.dTup, Dl.dCons, Dl.dName, Dl.dNil, Dl.sNext, List.set_cons_zero, List.set_cons_succ]
  refine ⟨rfl, ?_⟩
  refine S_seq ?_
  refine S_for (t.2.map cellD) (fun j E => ∃ x5 x6, E = [some (.d (.tuple [.int t.1, .tuple (t.2.map cellD)])), some (.d (Dl.dicD g)), some (.d (.tuple (us.map PyData.int))), some (.d (.int ((t.2.take j).foldl (fun v c => v * cellV val us c) t.1))), some (.d (.tuple (t.2.map cellD))), x5, x6]) (fun k hk => ?_) ⟨_, _, rfl⟩ ?_ ?_
  · try simp only [Dl.sSeq, Dl.sCut, Dl.sNext, Dl.sNever, Dl.sIf, Dl.sExpr, Dl.sRet, Dl.sRetF, Dl.sRetO, Dl.sAsg, Dl.sSet, Dl.sSetF, Dl.sFrz, Dl.sMove, Dl.sAug, Dl.sApp, Dl.sPut, Dl.sFor, Dl.sPar, Dl.wVar, Dl.wVarH, Dl.wC, Dl.wOp, Dl.wOpF, Dl.gB, Dl.wAnd, Dl.wOr, Dl.wNot, Dl.wAndV, Dl.wOrV, Dl.wNotV, Dl.wIf, Dl.wChain, Dl.vD, Dl.vVar, Dl.aNil, Dl.aCons, Dl.lNil, Dl.lCons, Dl.lStar, Dl.wTup, Dl.wLst, Dl.dName, Dl.dNil, Dl.dCons, Dl.dTup, Dl.wUn, Dl.wUnF, Dl.wIsi, Dl.isD, Dl.w2I, Dl.wCall, Dl.wCallF, Dl.wCallK, Dl.rD, Dl.rF, Dl.mkS, Dl.iSeq, Dl.iTupl, Dl.iAny, Dl.iRg1, Dl.iRg2, Dl.iRev, Dl.rg1, Dl.rg2, Dl.iEn, Dl.iZp, Dl.iStrD, Dl.wLc, Dl.wipeE, Dl.wYes, Dl.wSl, Dl.wSlF, Dl.oNone, Dl.oSome, Dl.gSl, Dl.gAdd, Dl.gCat, Dl.gRep, Dl.gSub, Dl.gMul, Dl.gMod, Dl.gDiv, Dl.gPow, Dl.gLt, Dl.gLe, Dl.gGt, Dl.gGe, Dl.gEq, Dl.gNe, Dl.gIsN, Dl.gNotN, Dl.isN, Dl.gIx, Dl.gLen, Dl.gTupOf, Dl.gListOf, Dl.gSum, Dl.gRep1, Dl.gInt, Dl.gAll, Dl.gNeg, Dl.xF, Dl.wZip2, Dl.wZipS, Dl.sAugS, Dl.sExt, Dl.sNewU, Dl.sPutU, Dl.wTupU, Dl.gRev, Dl.gIn, Dl.gNotIn, Dl.wLenS, Dl.uVar, Dl.uD, Dl.wGetU, Dl.wInU, Dl.gDictP, Dl.gSortS, Dl.gSortSet, Dl.wReprU, Dl.wReprL, Dl.gReprU, Dl.sRaise, Dl.mkD1, Dl.mkD2, Dl.sCallX, Dl.sRetX, Dl.sSetX, List.map_cons, List.map_nil, List.length_cons, List.length_nil, List.replicate_succ, List.replicate_zero, List.cons_append, List.nil_append, List.set_cons_zero, List.set_cons_succ, List.getElem?_cons_zero, List.getElem?_cons_succ, if_true, if_false, Bool.false_eq_true, Bool.not_true, Bool.not_false, reduceIte, Nat.reduceAdd, Nat.reduceSub]
    exact hk
  · rintro j d E' hd ⟨x5, x6, rfl⟩
    obtain ⟨c, hc, rfl⟩ : ∃ c, t.2[j]? = some c ∧ cellD c = d := by
      rw [List.getElem?_map] at hd
      cases e : t.2[j]? with
      | none => rw [e] at hd; cases hd
      | some t => rw [e] at hd; exact ⟨t, rfl, Option.some.inj hd⟩
    have hm : c ∈ t.2 := List.mem_of_getElem? hc
    have hb := hh.bnd hm
    rw [take_cells hc, List.foldl_append]
    generalize (t.2.take j).foldl (fun v c => v * cellV val us c) t.1 = z
    have fin : MulOk z (cellV val us c) := Dl.mulOkR (by omega) (by omega)
    have ns := hh.ns
    obtain ⟨a, k⟩ := c
    rcases hh.ok _ hm with ⟨rfl, n, rfl, hn⟩ | ⟨rfl, i, rfl, h0, h1⟩
    · rw [show cellD (Str.ofString "input", Sum.inr n) = .tuple [.str (Str.ofString "input"), .str n] from rfl]
      try simp only [Dl.sSeq, Dl.sCut, Dl.sNext, Dl.sNever, Dl.sIf, Dl.sExpr, Dl.sRet, Dl.sRetF, Dl.sRetO, Dl.sAsg, Dl.sSet, Dl.sSetF, Dl.sFrz, Dl.sMove, Dl.sAug, Dl.sApp, Dl.sPut, Dl.sFor, Dl.sPar, Dl.wVar, Dl.wVarH, Dl.wC, Dl.wOp, Dl.wOpF, Dl.gB, Dl.wAnd, Dl.wOr, Dl.wNot, Dl.wAndV, Dl.wOrV, Dl.wNotV, Dl.wIf, Dl.wChain, Dl.vD, Dl.vVar, Dl.aNil, Dl.aCons, Dl.lNil, Dl.lCons, Dl.lStar, Dl.wTup, Dl.wLst, Dl.dName, Dl.dNil, Dl.dCons, Dl.dTup, Dl.wUn, Dl.wUnF, Dl.wIsi, Dl.isD, Dl.w2I, Dl.wCall, Dl.wCallF, Dl.wCallK, Dl.rD, Dl.rF, Dl.mkS, Dl.iSeq, Dl.iTupl, Dl.iAny, Dl.iRg1, Dl.iRg2, Dl.iRev, Dl.rg1, Dl.rg2, Dl.iEn, Dl.iZp, Dl.iStrD, Dl.wLc, Dl.wipeE, Dl.wYes, Dl.wSl, Dl.wSlF, Dl.oNone, Dl.oSome, Dl.gSl, Dl.gAdd, Dl.gCat, Dl.gRep, Dl.gSub, Dl.gMul, Dl.gMod, Dl.gDiv, Dl.gPow, Dl.gLt, Dl.gLe, Dl.gGt, Dl.gGe, Dl.gEq, Dl.gNe, Dl.gIsN, Dl.gNotN, Dl.isN, Dl.gIx, Dl.gLen, Dl.gTupOf, Dl.gListOf, Dl.gSum, Dl.gRep1, Dl.gInt, Dl.gAll, Dl.gNeg, Dl.xF, Dl.wZip2, Dl.wZipS, Dl.sAugS, Dl.sExt, Dl.sNewU, Dl.sPutU, Dl.wTupU, Dl.gRev, Dl.gIn, Dl.gNotIn, Dl.wLenS, Dl.uVar, Dl.uD, Dl.wGetU, Dl.wInU, Dl.gDictP, Dl.gSortS, Dl.gSortSet, Dl.wReprU, Dl.wReprL, Dl.gReprU, Dl.sRaise, Dl.mkD1, Dl.mkD2, Dl.sCallX, Dl.sRetX, Dl.sSetX, List.map_cons, List.map_nil, List.length_cons, List.length_nil, List.replicate_succ, List.replicate_zero, List.cons_append, List.nil_append, List.set_cons_zero, List.set_cons_succ, List.getElem?_cons_zero, List.getElem?_cons_succ, if_true, if_false, Bool.false_eq_true, Bool.not_true, Bool.not_false, reduceIte, Nat.reduceAdd, Nat.reduceSub]
      refine ⟨trivial, Dl.shaped_str (Dl.okc_of _), Dl.shaped_str (Dl.okc_of _), Dl.iteP (by decide +kernel) ?_⟩
      exact ⟨g, rfl, .inr n, _, rfl, ns n hm, fin, _, _, rfl⟩
    · rw [show cellD (Str.ofString "coin", Sum.inl i) = .tuple [.str (Str.ofString "coin"), .int i] from rfl]
      try simp only [Dl.sSeq, Dl.sCut, Dl.sNext, Dl.sNever, Dl.sIf, Dl.sExpr, Dl.sRet, Dl.sRetF, Dl.sRetO, Dl.sAsg, Dl.sSet, Dl.sSetF, Dl.sFrz, Dl.sMove, Dl.sAug, Dl.sApp, Dl.sPut, Dl.sFor, Dl.sPar, Dl.wVar, Dl.wVarH, Dl.wC, Dl.wOp, Dl.wOpF, Dl.gB, Dl.wAnd, Dl.wOr, Dl.wNot, Dl.wAndV, Dl.wOrV, Dl.wNotV, Dl.wIf, Dl.wChain, Dl.vD, Dl.vVar, Dl.aNil, Dl.aCons, Dl.lNil, Dl.lCons, Dl.lStar, Dl.wTup, Dl.wLst, Dl.dName, Dl.dNil, Dl.dCons, Dl.dTup, Dl.wUn, Dl.wUnF, Dl.wIsi, Dl.isD, Dl.w2I, Dl.wCall, Dl.wCallF, Dl.wCallK, Dl.rD, Dl.rF, Dl.mkS, Dl.iSeq, Dl.iTupl, Dl.iAny, Dl.iRg1, Dl.iRg2, Dl.iRev, Dl.rg1, Dl.rg2, Dl.iEn, Dl.iZp, Dl.iStrD, Dl.wLc, Dl.wipeE, Dl.wYes, Dl.wSl, Dl.wSlF, Dl.oNone, Dl.oSome, Dl.gSl, Dl.gAdd, Dl.gCat, Dl.gRep, Dl.gSub, Dl.gMul, Dl.gMod, Dl.gDiv, Dl.gPow, Dl.gLt, Dl.gLe, Dl.gGt, Dl.gGe, Dl.gEq, Dl.gNe, Dl.gIsN, Dl.gNotN, Dl.isN, Dl.gIx, Dl.gLen, Dl.gTupOf, Dl.gListOf, Dl.gSum, Dl.gRep1, Dl.gInt, Dl.gAll, Dl.gNeg, Dl.xF, Dl.wZip2, Dl.wZipS, Dl.sAugS, Dl.sExt, Dl.sNewU, Dl.sPutU, Dl.wTupU, Dl.gRev, Dl.gIn, Dl.gNotIn, Dl.wLenS, Dl.uVar, Dl.uD, Dl.wGetU, Dl.wInU, Dl.gDictP, Dl.gSortS, Dl.gSortSet, Dl.wReprU, Dl.wReprL, Dl.gReprU, Dl.sRaise, Dl.mkD1, Dl.mkD2, Dl.sCallX, Dl.sRetX, Dl.sSetX, List.map_cons, List.map_nil, List.length_cons, List.length_nil, List.replicate_succ, List.replicate_zero, List.cons_append, List.nil_append, List.set_cons_zero, List.set_cons_succ, List.getElem?_cons_zero, List.getElem?_cons_succ, if_true, if_false, Bool.false_eq_true, Bool.not_true, Bool.not_false, reduceIte, Nat.reduceAdd, Nat.reduceSub]
      refine ⟨trivial, Dl.shaped_str (Dl.okc_of _), Dl.shaped_str (Dl.okc_of _), Dl.iteQ (by decide +kernel) ?_⟩
      exact ⟨_, us_at h0 (by have := hh.ul; omega), fin, _, _, rfl⟩
  · rintro E' ⟨x5, x6, rfl⟩
    rw [List.length_map, List.take_length]
    try simp only [Dl.sSeq, Dl.sCut, Dl.sNext, Dl.sNever, Dl.sIf, Dl.sExpr, Dl.sRet, Dl.sRetF, Dl.sRetO, Dl.sAsg, Dl.sSet, Dl.sSetF, Dl.sFrz, Dl.sMove, Dl.sAug, Dl.sApp, Dl.sPut, Dl.sFor, Dl.sPar, Dl.wVar, Dl.wVarH, Dl.wC, Dl.wOp, Dl.wOpF, Dl.gB, Dl.wAnd, Dl.wOr, Dl.wNot, Dl.wAndV, Dl.wOrV, Dl.wNotV, Dl.wIf, Dl.wChain, Dl.vD, Dl.vVar, Dl.aNil, Dl.aCons, Dl.lNil, Dl.lCons, Dl.lStar, Dl.wTup, Dl.wLst, Dl.dName, Dl.dNil, Dl.dCons, Dl.dTup, Dl.wUn, Dl.wUnF, Dl.wIsi, Dl.isD, Dl.w2I, Dl.wCall, Dl.wCallF, Dl.wCallK, Dl.rD, Dl.rF, Dl.mkS, Dl.iSeq, Dl.iTupl, Dl.iAny, Dl.iRg1, Dl.iRg2, Dl.iRev, Dl.rg1, Dl.rg2, Dl.iEn, Dl.iZp, Dl.iStrD, Dl.wLc, Dl.wipeE, Dl.wYes, Dl.wSl, Dl.wSlF, Dl.oNone, Dl.oSome, Dl.gSl, Dl.gAdd, Dl.gCat, Dl.gRep, Dl.gSub, Dl.gMul, Dl.gMod, Dl.gDiv, Dl.gPow, Dl.gLt, Dl.gLe, Dl.gGt, Dl.gGe, Dl.gEq, Dl.gNe, Dl.gIsN, Dl.gNotN, Dl.isN, Dl.gIx, Dl.gLen, Dl.gTupOf, Dl.gListOf, Dl.gSum, Dl.gRep1, Dl.gInt, Dl.gAll, Dl.gNeg, Dl.xF, Dl.wZip2, Dl.wZipS, Dl.sAugS, Dl.sExt, Dl.sNewU, Dl.sPutU, Dl.wTupU, Dl.gRev, Dl.gIn, Dl.gNotIn, Dl.wLenS, Dl.uVar, Dl.uD, Dl.wGetU, Dl.wInU, Dl.gDictP, Dl.gSortS, Dl.gSortSet, Dl.wReprU, Dl.wReprL, Dl.gReprU, Dl.sRaise, Dl.mkD1, Dl.mkD2, Dl.sCallX, Dl.sRetX, Dl.sSetX, List.map_cons, List.map_nil, List.length_cons, List.length_nil, List.replicate_succ, List.replicate_zero, List.cons_append, List.nil_append, List.set_cons_zero, List.set_cons_succ, List.getElem?_cons_zero, List.getElem?_cons_succ, if_true, if_false, Bool.false_eq_true, Bool.not_true, Bool.not_false, reduceIte, Nat.reduceAdd, Nat.reduceSub]
    exact done

open Dl in
def S_evaluate_polynomial (C : Addr) : Dl.DSpX := fun ss Q Ed => ∃ x : List Term × Int × Int × Gd × (Str → Int) × List Int, ss = [.d (polyD x.1), .d (.int x.2.1), .d (dicD x.2.2.2.1), .d (rowD x.2.2.2.2.2)] ∧ match x with
  | (p, q, L, g, val, us) => 0 < q ∧ p.length ≤ 1000 ∧ (∀ t ∈ p, t.2.length ≤ 4) ∧ (∀ c ∈ cellsP p, CellOk L c) ∧ ∀ ys : List Str, ys.Nodup → (∀ x, x ∈ ys ↔ x ∈ inNames p) → sortedS ys = true →
    (lackD g ys = none → Has L g val us (cellsP p) ∧ Q (.d (.int (polyV val us p % q)))) ∧ ∀ n, lackD g ys = some n → Ed (.ref C) [("name", .str n)]

abbrev s_evaluate_polynomial : Stmt := top 5
theorem sc_evaluate_polynomial : FnScope ["polynomial", "modulus", "assignment", "coins", "values", "term"] ["polynomial", "modulus", "assignment", "coins"] (defScope s_evaluate_polynomial) := ⟨rfl, rfl, rfl, by decide +kernel, rfl, by decide +kernel, by decide +kernel⟩
open Dl in
theorem ok_evaluate_polynomial {f : Addr} {fd : FuncData} (F : Fun K "evaluate_polynomial" "evaluate_polynomial" s_evaluate_polynomial f fd) (m_sum : mg "sum" = none) (c_require_variables : CalX P w K mg base "require_variables" 3 ["names", "assignment"] (Dl.spX K (S_require_variables C_MissingVariable))) (c_polynomial_variables : Cal P w K mg base "polynomial_variables" 2 ["polynomial"] (Dl.spD K S_polynomial_variables)) (c__term_value : Cal P w K mg base "_term_value" 1 ["term", "assignment", "coins"] (Dl.spD K S_term_value)) : FnG P w K mg base (L2.CX P w) 6 f fd ["polynomial", "modulus", "assignment", "coins"] (Dl.spX K (S_evaluate_polynomial C_MissingVariable)) := by
  obtain ⟨f_require_variables, fd_require_variables, G_require_variables, m_require_variables, k_require_variables, b_require_variables⟩ := c_require_variables.ex
  have H_require_variables := Dl.FnG.calm G_require_variables
  obtain ⟨f_polynomial_variables, fd_polynomial_variables, G_polynomial_variables, m_polynomial_variables, k_polynomial_variables, b_polynomial_variables⟩ := c_polynomial_variables.ex
  obtain ⟨f__term_value, fd__term_value, G__term_value, m__term_value, k__term_value, b__term_value⟩ := c__term_value.ex
  refine okDX F sc_evaluate_polynomial (fun ss Q Ed h => by obtain ⟨x, rfl, _⟩ := h; rfl) (fun cdv A o s H E hr => (qs_cons (q_callX G_require_variables (hr.mono (by first | decide | omega)) (by rfl) m_require_variables k_require_variables b_require_variables (pa_consD (pv_d (pd_call G_polynomial_variables (hr.mono (by first | decide | omega)) (by rfl) m_polynomial_variables k_polynomial_variables b_polynomial_variables (pa_consD (pv_var (pv 0)) pa_nilD))) (pa_consD (pv_var (pv 2)) pa_nilD)))
      (qs_cons (q_setLc (i := 4) (own := [("term", 5)]) (by rfl) sc_evaluate_polynomial.nd rfl rfl (sw_true rfl rfl rfl (by decide +kernel)) (qi_any (pd_var (pv 0))) (blkOk_by (own := [("term", 5)]) (by kernel_rfl)) (fun _ _ _ _ _ => (qg_name (i := 5) sc_evaluate_polynomial.nd rfl (Or.inl rfl))) (fun _ _ _ _ _ => qts_nil) (fun _ _ _ _ _ => (pd_call G__term_value (hr.mono (by first | decide | omega)) (by rfl) m__term_value k__term_value b__term_value (pa_consD (pv_var (pv 5)) (pa_consD (pv_var (pv 2)) (pa_consD (pv_var (pv 3)) pa_nilD))))))
      (qs_frz (i := 4) (qs_one (q_ret (pd_op op_mod mod_d (ph_of (pd_bltn (cr_sum rfl) sum_d (by rfl) m_sum (by decide +kernel) (ph_var (pv 4)))) (ph_var (pv 1))))))))) (fun ss Q Ed h => ?_)
  obtain ⟨⟨p, q, L, g, val, us⟩, rfl, hq, hl, h4, hok, done⟩ := h
  simp only [rowD]
  refine S_seq ?_
  try simp only [Dl.sSeq, Dl.sCut, Dl.sNext, Dl.sNever, Dl.sIf, Dl.sExpr, Dl.sRet, Dl.sRetF, Dl.sRetO, Dl.sAsg, Dl.sSet, Dl.sSetF, Dl.sFrz, Dl.sMove, Dl.sAug, Dl.sApp, Dl.sPut, Dl.sFor, Dl.sPar, Dl.wVar, Dl.wVarH, Dl.wC, Dl.wOp, Dl.wOpF, Dl.gB, Dl.wAnd, Dl.wOr, Dl.wNot, Dl.wAndV, Dl.wOrV, Dl.wNotV, Dl.wIf, Dl.wChain, Dl.vD, Dl.vVar, Dl.aNil, Dl.aCons, Dl.lNil, Dl.lCons, Dl.lStar, Dl.wTup, Dl.wLst, Dl.dName, Dl.dNil, Dl.dCons, Dl.dTup, Dl.wUn, Dl.wUnF, Dl.wIsi, Dl.isD, Dl.w2I, Dl.wCall, Dl.wCallF, Dl.wCallK, Dl.rD, Dl.rF, Dl.mkS, Dl.iSeq, Dl.iTupl, Dl.iAny, Dl.iRg1, Dl.iRg2, Dl.iRev, Dl.rg1, Dl.rg2, Dl.iEn, Dl.iZp, Dl.iStrD, Dl.wLc, Dl.wipeE, Dl.wYes, Dl.wSl, Dl.wSlF, Dl.oNone, Dl.oSome, Dl.gSl, Dl.gAdd, Dl.gCat, Dl.gRep, Dl.gSub, Dl.gMul, Dl.gMod, Dl.gDiv, Dl.gPow, Dl.gLt, Dl.gLe, Dl.gGt, Dl.gGe, Dl.gEq, Dl.gNe, Dl.gIsN, Dl.gNotN, Dl.isN, Dl.gIx, Dl.gLen, Dl.gTupOf, Dl.gListOf, Dl.gSum, Dl.gRep1, Dl.gInt, Dl.gAll, Dl.gNeg, Dl.xF, Dl.wZip2, Dl.wZipS, Dl.sAugS, Dl.sExt, Dl.sNewU, Dl.sPutU, Dl.wTupU, Dl.gRev, Dl.gIn, Dl.gNotIn, Dl.wLenS, Dl.uVar, Dl.uD, Dl.wGetU, Dl.wInU, Dl.gDictP, Dl.gSortS, Dl.gSortSet, Dl.wReprU, Dl.wReprL, Dl.gReprU, Dl.sRaise, Dl.mkD1, Dl.mkD2, Dl.sCallX, Dl.sRetX, Dl.sSetX, List.map_cons, List.map_nil, List.length_cons, List.length_nil, List.replicate_succ, List.replicate_zero, List.cons_append, List.nil_append, List.set_cons_zero, List.set_cons_succ, List.getElem?_cons_zero, List.getElem?_cons_succ, if_true, if_false, Bool.false_eq_true, Bool.not_true, Bool.not_false, reduceIte, Nat.reduceAdd, Nat.reduceSub]
  refine ⟨(p, L), rfl, hl, h4, hok, fun ys nd mem srt => ?_⟩
  obtain ⟨d1, d2⟩ := done ys nd mem srt
  try simp only [Dl.sSeq, Dl.sCut, Dl.sNext, Dl.sNever, Dl.sIf, Dl.sExpr, Dl.sRet, Dl.sRetF, Dl.sRetO, Dl.sAsg, Dl.sSet, Dl.sSetF, Dl.sFrz, Dl.sMove, Dl.sAug, Dl.sApp, Dl.sPut, Dl.sFor, Dl.sPar, Dl.wVar, Dl.wVarH, Dl.wC, Dl.wOp, Dl.wOpF, Dl.gB, Dl.wAnd, Dl.wOr, Dl.wNot, Dl.wAndV, Dl.wOrV, Dl.wNotV, Dl.wIf, Dl.wChain, Dl.vD, Dl.vVar, Dl.aNil, Dl.aCons, Dl.lNil, Dl.lCons, Dl.lStar, Dl.wTup, Dl.wLst, Dl.dName, Dl.dNil, Dl.dCons, Dl.dTup, Dl.wUn, Dl.wUnF, Dl.wIsi, Dl.isD, Dl.w2I, Dl.wCall, Dl.wCallF, Dl.wCallK, Dl.rD, Dl.rF, Dl.mkS, Dl.iSeq, Dl.iTupl, Dl.iAny, Dl.iRg1, Dl.iRg2, Dl.iRev, Dl.rg1, Dl.rg2, Dl.iEn, Dl.iZp, Dl.iStrD, Dl.wLc, Dl.wipeE, Dl.wYes, Dl.wSl, Dl.wSlF, Dl.oNone, Dl.oSome, Dl.gSl, Dl.gAdd, Dl.gCat, Dl.gRep, Dl.gSub, Dl.gMul, Dl.gMod, Dl.gDiv, Dl.gPow, Dl.gLt, Dl.gLe, Dl.gGt, Dl.gGe, Dl.gEq, Dl.gNe, Dl.gIsN, Dl.gNotN, Dl.isN, Dl.gIx, Dl.gLen, Dl.gTupOf, Dl.gListOf, Dl.gSum, Dl.gRep1, Dl.gInt, Dl.gAll, Dl.gNeg, Dl.xF, Dl.wZip2, Dl.wZipS, Dl.sAugS, Dl.sExt, Dl.sNewU, Dl.sPutU, Dl.wTupU, Dl.gRev, Dl.gIn, Dl.gNotIn, Dl.wLenS, Dl.uVar, Dl.uD, Dl.wGetU, Dl.wInU, Dl.gDictP, Dl.gSortS, Dl.gSortSet, Dl.wReprU, Dl.wReprL, Dl.gReprU, Dl.sRaise, Dl.mkD1, Dl.mkD2, Dl.sCallX, Dl.sRetX, Dl.sSetX, List.map_cons, List.map_nil, List.length_cons, List.length_nil, List.replicate_succ, List.replicate_zero, List.cons_append, List.nil_append, List.set_cons_zero, List.set_cons_succ, List.getElem?_cons_zero, List.getElem?_cons_succ, if_true, if_false, Bool.false_eq_true, Bool.not_true, Bool.not_false, reduceIte, Nat.reduceAdd, Nat.reduceSub]
  refine ⟨(ys, g), rfl, fun hn => ?_, d2⟩
  obtain ⟨hh, fin⟩ := d1 hn
  unfold polyD
  try simp only [Dl.sSeq, Dl.sCut, Dl.sNext, Dl.sNever, Dl.sIf, Dl.sExpr, Dl.sRet, Dl.sRetF, Dl.sRetO, Dl.sAsg, Dl.sSet, Dl.sSetF, Dl.sFrz, Dl.sMove, Dl.sAug, Dl.sApp, Dl.sPut, Dl.sFor, Dl.sPar, Dl.wVar, Dl.wVarH, Dl.wC, Dl.wOp, Dl.wOpF, Dl.gB, Dl.wAnd, Dl.wOr, Dl.wNot, Dl.wAndV, Dl.wOrV, Dl.wNotV, Dl.wIf, Dl.wChain, Dl.vD, Dl.vVar, Dl.aNil, Dl.aCons, Dl.lNil, Dl.lCons, Dl.lStar, Dl.wTup, Dl.wLst, Dl.dName, Dl.dNil, Dl.dCons, Dl.dTup, Dl.wUn, Dl.wUnF, Dl.wIsi, Dl.isD, Dl.w2I, Dl.wCall, Dl.wCallF, Dl.wCallK, Dl.rD, Dl.rF, Dl.mkS, Dl.iSeq, Dl.iTupl, Dl.iAny, Dl.iRg1, Dl.iRg2, Dl.iRev, Dl.rg1, Dl.rg2, Dl.iEn, Dl.iZp, Dl.iStrD, Dl.wLc, Dl.wipeE, Dl.wYes, Dl.wSl, Dl.wSlF, Dl.oNone, Dl.oSome, Dl.gSl, Dl.gAdd, Dl.gCat, Dl.gRep, Dl.gSub, Dl.gMul, Dl.gMod, Dl.gDiv, Dl.gPow, Dl.gLt, Dl.gLe, Dl.gGt, Dl.gGe, Dl.gEq, Dl.gNe, Dl.gIsN, Dl.gNotN, Dl.isN, Dl.gIx, Dl.gLen, Dl.gTupOf, Dl.gListOf, Dl.gSum, Dl.gRep1, Dl.gInt, Dl.gAll, Dl.gNeg, Dl.xF, Dl.wZip2, Dl.wZipS, Dl.sAugS, Dl.sExt, Dl.sNewU, Dl.sPutU, Dl.wTupU, Dl.gRev, Dl.gIn, Dl.gNotIn, Dl.wLenS, Dl.uVar, Dl.uD, Dl.wGetU, Dl.wInU, Dl.gDictP, Dl.gSortS, Dl.gSortSet, Dl.wReprU, Dl.wReprL, Dl.gReprU, Dl.sRaise, Dl.mkD1, Dl.mkD2, Dl.sCallX, Dl.sRetX, Dl.sSetX, List.map_cons, List.map_nil, List.length_cons, List.length_nil, List.replicate_succ, List.replicate_zero, List.cons_append, List.nil_append, List.set_cons_zero, List.set_cons_succ, List.getElem?_cons_zero, List.getElem?_cons_succ, if_true, if_false, Bool.false_eq_true, Bool.not_true, Bool.not_false, reduceIte, Nat.reduceAdd, Nat.reduceSub]
  refine ⟨by rw [List.length_map]; exact line_lt (by omega), lcW_map (fun t => .int (termV val us t)) (fun t ok skip ht h => ?_) ⟨p.map (termV val us), by rw [List.map_map]; rfl, hq, fin⟩⟩
  exact ⟨(t, L, g, val, us), rfl, hh.sub fun c hc => List.mem_flatMap.mpr ⟨t, ht, hc⟩, h⟩

end
end Vk34

namespace Vk34
open PySem PySem.Spec PyProof.Rows L2 Vx
section
variable {P : Program} {w : World} {K : PySem.W.Frag} {mg : Str → Option Value} {base : Heap} {C_MissingVariable I_MissingVariable : Addr}
theorem fold_sum {α : Type} (f : α → Int) (xs : List α) (z : Int) : xs.foldl (fun v x => v + f x) z = z + (xs.map f).sum := by
  induction xs generalizing z with
  | nil => simp
  | cons x xs ih => rw [List.foldl_cons, ih, List.map_cons, List.sum_cons]; omega
def S_law_value : Dl.DSp := Dl.mkS (fun (x : List Term × Int × Int × Dl.Gd × (Str → Int) × List Int) => [.d (polyD x.1), .d (.int x.2.1), .d (Dl.dicD x.2.2.2.1), .d (rowD x.2.2.2.2.2)]) fun (p, q, L, g, val, us) Q => 0 < q ∧ Has L g val us (cellsP p) ∧ Q (.d (.int (polyV val us p % q)))
theorem take_map_sum {f : Term → Int} {p : List Term} {i : Nat} {t : Term} (h : p[i]? = some t) : ((p.take (i + 1)).map f).sum = ((p.take i).map f).sum + f t := by
  obtain ⟨hi, rfl⟩ := List.getElem?_eq_some_iff.mp h
  rw [List.take_succ_eq_append_getElem hi, List.map_append, List.sum_append]; simp

abbrev s_law_value : Stmt := top 17
theorem sc_law_value : FnScope ["line", "q", "values", "tosses", "total", "factor", "cells", "tag", "content"] ["line", "q", "values", "tosses"] (defScope s_law_value) := ⟨rfl, rfl, rfl, by decide +kernel, rfl, by decide +kernel, by decide +kernel⟩
open Dl in
theorem ok_law_value {f : Addr} {fd : FuncData} (F : Fun K "_law_value" "_law_value" s_law_value f fd)  : FnG P w K mg base CX0 1 f fd ["line", "q", "values", "tosses"] (Dl.spD K S_law_value) := by
  refine okD F sc_law_value (fun ss Q h => by obtain ⟨x, rfl, _⟩ := h; rfl) (fun cdv A o s H E hr => (qs_cons (q_set (i := 4) sc_law_value.nd rfl (Or.inl rfl) pd_int)
      (qs_cons (q_for PassesOwn.never rfl (qi_any (pd_var (pv 0))) (qg_tup (n := 2) rfl (qgs_cons (qg_name (i := 5) sc_law_value.nd rfl (Or.inl rfl)) (qgs_cons (qg_name (i := 6) sc_law_value.nd rfl (Or.inl rfl)) qgs_nil))) (qs_cons (q_for PassesOwn.never rfl (qi_any (pd_var (pv 6))) (qg_tup (n := 2) rfl (qgs_cons (qg_name (i := 7) sc_law_value.nd rfl (Or.inl rfl)) (qgs_cons (qg_name (i := 8) sc_law_value.nd rfl (Or.inl rfl)) qgs_nil))) (qs_one (q_set (i := 5) sc_law_value.nd rfl (Or.inl rfl) (pd_op op_mulA mul_d (ph_var (pv 5)) (ph_of (pd_ifExp (pt_cmpD (op_eqD hr.r.units) eq_d (ph_var (pv 7)) (ph_of pd_str) (nomark _)) (pd_getU (hu_of hr.r) (pu_var (pv 2)) (pd_var (pv 8)) (fun _ _ => rfl)) (pd_ix ix_seq ix_d (ph_var (pv 3)) (ph_var (pv 8)) (fun _ _ => rfl))))))))
      (qs_one (q_set (i := 4) sc_law_value.nd rfl (Or.inl rfl) (pd_op op_addA add_d (ph_var (pv 4)) (ph_var (pv 5)))))))
      (qs_one (q_ret (pd_op op_mod mod_d (ph_var (pv 4)) (ph_var (pv 1)))))))) (fun ss Q h => ?_)
  obtain ⟨⟨p, q, L, g, val, us⟩, rfl, hq, hh, done⟩ := h
  simp only [rowD]
  refine S_seq ?_
  refine S_set fun k hk => ?_
  try simp only [Dl.sSeq, Dl.sCut, Dl.sNext, Dl.sNever, Dl.sIf, Dl.sExpr, Dl.sRet, Dl.sRetF, Dl.sRetO, Dl.sAsg, Dl.sSet, Dl.sSetF, Dl.sFrz, Dl.sMove, Dl.sAug, Dl.sApp, Dl.sPut, Dl.sFor, Dl.sPar, Dl.wVar, Dl.wVarH, Dl.wC, Dl.wOp, Dl.wOpF, Dl.gB, Dl.wAnd, Dl.wOr, Dl.wNot, Dl.wAndV, Dl.wOrV, Dl.wNotV, Dl.wIf, Dl.wChain, Dl.vD, Dl.vVar, Dl.aNil, Dl.aCons, Dl.lNil, Dl.lCons, Dl.lStar, Dl.wTup, Dl.wLst, Dl.dName, Dl.dNil, Dl.dCons, Dl.dTup, Dl.wUn, Dl.wUnF, Dl.wIsi, Dl.isD, Dl.w2I, Dl.wCall, Dl.wCallF, Dl.wCallK, Dl.rD, Dl.rF, Dl.mkS, Dl.iSeq, Dl.iTupl, Dl.iAny, Dl.iRg1, Dl.iRg2, Dl.iRev, Dl.rg1, Dl.rg2, Dl.iEn, Dl.iZp, Dl.iStrD, Dl.wLc, Dl.wipeE, Dl.wYes, Dl.wSl, Dl.wSlF, Dl.oNone, Dl.oSome, Dl.gSl, Dl.gAdd, Dl.gCat, Dl.gRep, Dl.gSub, Dl.gMul, Dl.gMod, Dl.gDiv, Dl.gPow, Dl.gLt, Dl.gLe, Dl.gGt, Dl.gGe, Dl.gEq, Dl.gNe, Dl.gIsN, Dl.gNotN, Dl.isN, Dl.gIx, Dl.gLen, Dl.gTupOf, Dl.gListOf, Dl.gSum, Dl.gRep1, Dl.gInt, Dl.gAll, Dl.gNeg, Dl.xF, Dl.wZip2, Dl.wZipS, Dl.sAugS, Dl.sExt, Dl.sNewU, Dl.sPutU, Dl.wTupU, Dl.gRev, Dl.gIn, Dl.gNotIn, Dl.wLenS, Dl.uVar, Dl.uD, Dl.wGetU, Dl.wInU, Dl.gDictP, Dl.gSortS, Dl.gSortSet, Dl.wReprU, Dl.wReprL, Dl.gReprU, Dl.sRaise, Dl.mkD1, Dl.mkD2, Dl.sCallX, Dl.sRetX, Dl.sSetX, List.map_cons, List.map_nil, List.length_cons, List.length_nil, List.replicate_succ, List.replicate_zero, List.cons_append, List.nil_append, List.set_cons_zero, List.set_cons_succ, List.getElem?_cons_zero, List.getElem?_cons_succ, if_true, if_false, Bool.false_eq_true, Bool.not_true, Bool.not_false, reduceIte, Nat.reduceAdd, Nat.reduceSub]
  refine hk _ [some (.d (polyD p)), some (.d (.int q)), some (.d (Dl.dicD g)), some (.d (.tuple (us.map PyData.int))), some (.d (.int 0)), none, none, none, none] rfl ?_
  clear hk k
  dsimp only [Dl.dTup, Dl.dCons, Dl.dName, Dl.dNil, Dl.sNext, List.set_cons_zero, List.set_cons_succ]
  refine S_seq ?_
  refine S_for (p.map termD) (fun i E => ∃ x5 x6 x7 x8, E = [some (.d (polyD p)), some (.d (.int q)), some (.d (Dl.dicD g)), some (.d (.tuple (us.map PyData.int))), some (.d (.int ((p.take i).map (termV val us)).sum)), x5, x6, x7, x8]) (fun k hk => ?_) ⟨_, _, _, _, rfl⟩ ?_ ?_
  · unfold polyD
    try simp only [Dl.sSeq, Dl.sCut, Dl.sNext, Dl.sNever, Dl.sIf, Dl.sExpr, Dl.sRet, Dl.sRetF, Dl.sRetO, Dl.sAsg, Dl.sSet, Dl.sSetF, Dl.sFrz, Dl.sMove, Dl.sAug, Dl.sApp, Dl.sPut, Dl.sFor, Dl.sPar, Dl.wVar, Dl.wVarH, Dl.wC, Dl.wOp, Dl.wOpF, Dl.gB, Dl.wAnd, Dl.wOr, Dl.wNot, Dl.wAndV, Dl.wOrV, Dl.wNotV, Dl.wIf, Dl.wChain, Dl.vD, Dl.vVar, Dl.aNil, Dl.aCons, Dl.lNil, Dl.lCons, Dl.lStar, Dl.wTup, Dl.wLst, Dl.dName, Dl.dNil, Dl.dCons, Dl.dTup, Dl.wUn, Dl.wUnF, Dl.wIsi, Dl.isD, Dl.w2I, Dl.wCall, Dl.wCallF, Dl.wCallK, Dl.rD, Dl.rF, Dl.mkS, Dl.iSeq, Dl.iTupl, Dl.iAny, Dl.iRg1, Dl.iRg2, Dl.iRev, Dl.rg1, Dl.rg2, Dl.iEn, Dl.iZp, Dl.iStrD, Dl.wLc, Dl.wipeE, Dl.wYes, Dl.wSl, Dl.wSlF, Dl.oNone, Dl.oSome, Dl.gSl, Dl.gAdd, Dl.gCat, Dl.gRep, Dl.gSub, Dl.gMul, Dl.gMod, Dl.gDiv, Dl.gPow, Dl.gLt, Dl.gLe, Dl.gGt, Dl.gGe, Dl.gEq, Dl.gNe, Dl.gIsN, Dl.gNotN, Dl.isN, Dl.gIx, Dl.gLen, Dl.gTupOf, Dl.gListOf, Dl.gSum, Dl.gRep1, Dl.gInt, Dl.gAll, Dl.gNeg, Dl.xF, Dl.wZip2, Dl.wZipS, Dl.sAugS, Dl.sExt, Dl.sNewU, Dl.sPutU, Dl.wTupU, Dl.gRev, Dl.gIn, Dl.gNotIn, Dl.wLenS, Dl.uVar, Dl.uD, Dl.wGetU, Dl.wInU, Dl.gDictP, Dl.gSortS, Dl.gSortSet, Dl.wReprU, Dl.wReprL, Dl.gReprU, Dl.sRaise, Dl.mkD1, Dl.mkD2, Dl.sCallX, Dl.sRetX, Dl.sSetX, List.map_cons, List.map_nil, List.length_cons, List.length_nil, List.replicate_succ, List.replicate_zero, List.cons_append, List.nil_append, List.set_cons_zero, List.set_cons_succ, List.getElem?_cons_zero, List.getElem?_cons_succ, if_true, if_false, Bool.false_eq_true, Bool.not_true, Bool.not_false, reduceIte, Nat.reduceAdd, Nat.reduceSub]
    exact hk
  · rintro i d E' hd ⟨x5, x6, x7, x8, rfl⟩
    obtain ⟨t, ht, rfl⟩ : ∃ t, p[i]? = some t ∧ termD t = d := by
      rw [List.getElem?_map] at hd
      cases e : p[i]? with
      | none => rw [e] at hd; cases hd
      | some t => rw [e] at hd; exact ⟨t, rfl, Option.some.inj hd⟩
    have ht2 := hh.sub (ds := t.2) fun c hc => List.mem_flatMap.mpr ⟨t, List.mem_of_getElem? ht, hc⟩
    rw [take_map_sum ht]
    generalize ((p.take i).map (termV val us)).sum = s0
    unfold termD
    dsimp only [Dl.dTup, Dl.dCons, Dl.dName, Dl.dNil, Dl.sNext, List.set_cons_zero, List.set_cons_succ]
    refine ⟨rfl, ?_⟩
    refine S_seq ?_
    refine S_for (t.2.map cellD) (fun j E => ∃ x7 x8, E = [some (.d (polyD p)), some (.d (.int q)), some (.d (Dl.dicD g)), some (.d (.tuple (us.map PyData.int))), some (.d (.int s0)), some (.d (.int ((t.2.take j).foldl (fun v c => v * cellV val us c) t.1))), some (.d (.tuple (t.2.map cellD))), x7, x8]) (fun k hk => ?_) ⟨_, _, rfl⟩ ?_ ?_
    · try simp only [Dl.sSeq, Dl.sCut, Dl.sNext, Dl.sNever, Dl.sIf, Dl.sExpr, Dl.sRet, Dl.sRetF, Dl.sRetO, Dl.sAsg, Dl.sSet, Dl.sSetF, Dl.sFrz, Dl.sMove, Dl.sAug, Dl.sApp, Dl.sPut, Dl.sFor, Dl.sPar, Dl.wVar, Dl.wVarH, Dl.wC, Dl.wOp, Dl.wOpF, Dl.gB, Dl.wAnd, Dl.wOr, Dl.wNot, Dl.wAndV, Dl.wOrV, Dl.wNotV, Dl.wIf, Dl.wChain, Dl.vD, Dl.vVar, Dl.aNil, Dl.aCons, Dl.lNil, Dl.lCons, Dl.lStar, Dl.wTup, Dl.wLst, Dl.dName, Dl.dNil, Dl.dCons, Dl.dTup, Dl.wUn, Dl.wUnF, Dl.wIsi, Dl.isD, Dl.w2I, Dl.wCall, Dl.wCallF, Dl.wCallK, Dl.rD, Dl.rF, Dl.mkS, Dl.iSeq, Dl.iTupl, Dl.iAny, Dl.iRg1, Dl.iRg2, Dl.iRev, Dl.rg1, Dl.rg2, Dl.iEn, Dl.iZp, Dl.iStrD, Dl.wLc, Dl.wipeE, Dl.wYes, Dl.wSl, Dl.wSlF, Dl.oNone, Dl.oSome, Dl.gSl, Dl.gAdd, Dl.gCat, Dl.gRep, Dl.gSub, Dl.gMul, Dl.gMod, Dl.gDiv, Dl.gPow, Dl.gLt, Dl.gLe, Dl.gGt, Dl.gGe, Dl.gEq, Dl.gNe, Dl.gIsN, Dl.gNotN, Dl.isN, Dl.gIx, Dl.gLen, Dl.gTupOf, Dl.gListOf, Dl.gSum, Dl.gRep1, Dl.gInt, Dl.gAll, Dl.gNeg, Dl.xF, Dl.wZip2, Dl.wZipS, Dl.sAugS, Dl.sExt, Dl.sNewU, Dl.sPutU, Dl.wTupU, Dl.gRev, Dl.gIn, Dl.gNotIn, Dl.wLenS, Dl.uVar, Dl.uD, Dl.wGetU, Dl.wInU, Dl.gDictP, Dl.gSortS, Dl.gSortSet, Dl.wReprU, Dl.wReprL, Dl.gReprU, Dl.sRaise, Dl.mkD1, Dl.mkD2, Dl.sCallX, Dl.sRetX, Dl.sSetX, List.map_cons, List.map_nil, List.length_cons, List.length_nil, List.replicate_succ, List.replicate_zero, List.cons_append, List.nil_append, List.set_cons_zero, List.set_cons_succ, List.getElem?_cons_zero, List.getElem?_cons_succ, if_true, if_false, Bool.false_eq_true, Bool.not_true, Bool.not_false, reduceIte, Nat.reduceAdd, Nat.reduceSub]
      exact hk
    · rintro j d E' hd ⟨x7, x8, rfl⟩
      obtain ⟨c, hc, rfl⟩ : ∃ c, t.2[j]? = some c ∧ cellD c = d := by
        rw [List.getElem?_map] at hd
        cases e : t.2[j]? with
        | none => rw [e] at hd; cases hd
        | some t => rw [e] at hd; exact ⟨t, rfl, Option.some.inj hd⟩
      have hm : c ∈ t.2 := List.mem_of_getElem? hc
      have hb := ht2.bnd hm
      rw [take_cells hc, List.foldl_append]
      generalize (t.2.take j).foldl (fun v c => v * cellV val us c) t.1 = z
      have fin : MulOk z (cellV val us c) := Dl.mulOkR (by omega) (by omega)
      have ns := ht2.ns
      obtain ⟨a, k⟩ := c
      rcases ht2.ok _ hm with ⟨rfl, n, rfl, hn⟩ | ⟨rfl, i, rfl, h0, h1⟩
      · rw [show cellD (Str.ofString "input", Sum.inr n) = .tuple [.str (Str.ofString "input"), .str n] from rfl]
        try simp only [Dl.sSeq, Dl.sCut, Dl.sNext, Dl.sNever, Dl.sIf, Dl.sExpr, Dl.sRet, Dl.sRetF, Dl.sRetO, Dl.sAsg, Dl.sSet, Dl.sSetF, Dl.sFrz, Dl.sMove, Dl.sAug, Dl.sApp, Dl.sPut, Dl.sFor, Dl.sPar, Dl.wVar, Dl.wVarH, Dl.wC, Dl.wOp, Dl.wOpF, Dl.gB, Dl.wAnd, Dl.wOr, Dl.wNot, Dl.wAndV, Dl.wOrV, Dl.wNotV, Dl.wIf, Dl.wChain, Dl.vD, Dl.vVar, Dl.aNil, Dl.aCons, Dl.lNil, Dl.lCons, Dl.lStar, Dl.wTup, Dl.wLst, Dl.dName, Dl.dNil, Dl.dCons, Dl.dTup, Dl.wUn, Dl.wUnF, Dl.wIsi, Dl.isD, Dl.w2I, Dl.wCall, Dl.wCallF, Dl.wCallK, Dl.rD, Dl.rF, Dl.mkS, Dl.iSeq, Dl.iTupl, Dl.iAny, Dl.iRg1, Dl.iRg2, Dl.iRev, Dl.rg1, Dl.rg2, Dl.iEn, Dl.iZp, Dl.iStrD, Dl.wLc, Dl.wipeE, Dl.wYes, Dl.wSl, Dl.wSlF, Dl.oNone, Dl.oSome, Dl.gSl, Dl.gAdd, Dl.gCat, Dl.gRep, Dl.gSub, Dl.gMul, Dl.gMod, Dl.gDiv, Dl.gPow, Dl.gLt, Dl.gLe, Dl.gGt, Dl.gGe, Dl.gEq, Dl.gNe, Dl.gIsN, Dl.gNotN, Dl.isN, Dl.gIx, Dl.gLen, Dl.gTupOf, Dl.gListOf, Dl.gSum, Dl.gRep1, Dl.gInt, Dl.gAll, Dl.gNeg, Dl.xF, Dl.wZip2, Dl.wZipS, Dl.sAugS, Dl.sExt, Dl.sNewU, Dl.sPutU, Dl.wTupU, Dl.gRev, Dl.gIn, Dl.gNotIn, Dl.wLenS, Dl.uVar, Dl.uD, Dl.wGetU, Dl.wInU, Dl.gDictP, Dl.gSortS, Dl.gSortSet, Dl.wReprU, Dl.wReprL, Dl.gReprU, Dl.sRaise, Dl.mkD1, Dl.mkD2, Dl.sCallX, Dl.sRetX, Dl.sSetX, List.map_cons, List.map_nil, List.length_cons, List.length_nil, List.replicate_succ, List.replicate_zero, List.cons_append, List.nil_append, List.set_cons_zero, List.set_cons_succ, List.getElem?_cons_zero, List.getElem?_cons_succ, if_true, if_false, Bool.false_eq_true, Bool.not_true, Bool.not_false, reduceIte, Nat.reduceAdd, Nat.reduceSub]
        refine ⟨trivial, Dl.shaped_str (Dl.okc_of _), Dl.shaped_str (Dl.okc_of _), Dl.iteP (by decide +kernel) ?_⟩
        exact ⟨g, rfl, .inr n, _, rfl, ns n hm, fin, _, _, rfl⟩
      · rw [show cellD (Str.ofString "coin", Sum.inl i) = .tuple [.str (Str.ofString "coin"), .int i] from rfl]
        try simp only [Dl.sSeq, Dl.sCut, Dl.sNext, Dl.sNever, Dl.sIf, Dl.sExpr, Dl.sRet, Dl.sRetF, Dl.sRetO, Dl.sAsg, Dl.sSet, Dl.sSetF, Dl.sFrz, Dl.sMove, Dl.sAug, Dl.sApp, Dl.sPut, Dl.sFor, Dl.sPar, Dl.wVar, Dl.wVarH, Dl.wC, Dl.wOp, Dl.wOpF, Dl.gB, Dl.wAnd, Dl.wOr, Dl.wNot, Dl.wAndV, Dl.wOrV, Dl.wNotV, Dl.wIf, Dl.wChain, Dl.vD, Dl.vVar, Dl.aNil, Dl.aCons, Dl.lNil, Dl.lCons, Dl.lStar, Dl.wTup, Dl.wLst, Dl.dName, Dl.dNil, Dl.dCons, Dl.dTup, Dl.wUn, Dl.wUnF, Dl.wIsi, Dl.isD, Dl.w2I, Dl.wCall, Dl.wCallF, Dl.wCallK, Dl.rD, Dl.rF, Dl.mkS, Dl.iSeq, Dl.iTupl, Dl.iAny, Dl.iRg1, Dl.iRg2, Dl.iRev, Dl.rg1, Dl.rg2, Dl.iEn, Dl.iZp, Dl.iStrD, Dl.wLc, Dl.wipeE, Dl.wYes, Dl.wSl, Dl.wSlF, Dl.oNone, Dl.oSome, Dl.gSl, Dl.gAdd, Dl.gCat, Dl.gRep, Dl.gSub, Dl.gMul, Dl.gMod, Dl.gDiv, Dl.gPow, Dl.gLt, Dl.gLe, Dl.gGt, Dl.gGe, Dl.gEq, Dl.gNe, Dl.gIsN, Dl.gNotN, Dl.isN, Dl.gIx, Dl.gLen, Dl.gTupOf, Dl.gListOf, Dl.gSum, Dl.gRep1, Dl.gInt, Dl.gAll, Dl.gNeg, Dl.xF, Dl.wZip2, Dl.wZipS, Dl.sAugS, Dl.sExt, Dl.sNewU, Dl.sPutU, Dl.wTupU, Dl.gRev, Dl.gIn, Dl.gNotIn, Dl.wLenS, Dl.uVar, Dl.uD, Dl.wGetU, Dl.wInU, Dl.gDictP, Dl.gSortS, Dl.gSortSet, Dl.wReprU, Dl.wReprL, Dl.gReprU, Dl.sRaise, Dl.mkD1, Dl.mkD2, Dl.sCallX, Dl.sRetX, Dl.sSetX, List.map_cons, List.map_nil, List.length_cons, List.length_nil, List.replicate_succ, List.replicate_zero, List.cons_append, List.nil_append, List.set_cons_zero, List.set_cons_succ, List.getElem?_cons_zero, List.getElem?_cons_succ, if_true, if_false, Bool.false_eq_true, Bool.not_true, Bool.not_false, reduceIte, Nat.reduceAdd, Nat.reduceSub]
        refine ⟨trivial, Dl.shaped_str (Dl.okc_of _), Dl.shaped_str (Dl.okc_of _), Dl.iteQ (by decide +kernel) ?_⟩
        exact ⟨_, us_at h0 (by have := ht2.ul; omega), fin, _, _, rfl⟩
    · rintro E' ⟨x7, x8, rfl⟩
      rw [List.length_map, List.take_length]
      try simp only [Dl.sSeq, Dl.sCut, Dl.sNext, Dl.sNever, Dl.sIf, Dl.sExpr, Dl.sRet, Dl.sRetF, Dl.sRetO, Dl.sAsg, Dl.sSet, Dl.sSetF, Dl.sFrz, Dl.sMove, Dl.sAug, Dl.sApp, Dl.sPut, Dl.sFor, Dl.sPar, Dl.wVar, Dl.wVarH, Dl.wC, Dl.wOp, Dl.wOpF, Dl.gB, Dl.wAnd, Dl.wOr, Dl.wNot, Dl.wAndV, Dl.wOrV, Dl.wNotV, Dl.wIf, Dl.wChain, Dl.vD, Dl.vVar, Dl.aNil, Dl.aCons, Dl.lNil, Dl.lCons, Dl.lStar, Dl.wTup, Dl.wLst, Dl.dName, Dl.dNil, Dl.dCons, Dl.dTup, Dl.wUn, Dl.wUnF, Dl.wIsi, Dl.isD, Dl.w2I, Dl.wCall, Dl.wCallF, Dl.wCallK, Dl.rD, Dl.rF, Dl.mkS, Dl.iSeq, Dl.iTupl, Dl.iAny, Dl.iRg1, Dl.iRg2, Dl.iRev, Dl.rg1, Dl.rg2, Dl.iEn, Dl.iZp, Dl.iStrD, Dl.wLc, Dl.wipeE, Dl.wYes, Dl.wSl, Dl.wSlF, Dl.oNone, Dl.oSome, Dl.gSl, Dl.gAdd, Dl.gCat, Dl.gRep, Dl.gSub, Dl.gMul, Dl.gMod, Dl.gDiv, Dl.gPow, Dl.gLt, Dl.gLe, Dl.gGt, Dl.gGe, Dl.gEq, Dl.gNe, Dl.gIsN, Dl.gNotN, Dl.isN, Dl.gIx, Dl.gLen, Dl.gTupOf, Dl.gListOf, Dl.gSum, Dl.gRep1, Dl.gInt, Dl.gAll, Dl.gNeg, Dl.xF, Dl.wZip2, Dl.wZipS, Dl.sAugS, Dl.sExt, Dl.sNewU, Dl.sPutU, Dl.wTupU, Dl.gRev, Dl.gIn, Dl.gNotIn, Dl.wLenS, Dl.uVar, Dl.uD, Dl.wGetU, Dl.wInU, Dl.gDictP, Dl.gSortS, Dl.gSortSet, Dl.wReprU, Dl.wReprL, Dl.gReprU, Dl.sRaise, Dl.mkD1, Dl.mkD2, Dl.sCallX, Dl.sRetX, Dl.sSetX, List.map_cons, List.map_nil, List.length_cons, List.length_nil, List.replicate_succ, List.replicate_zero, List.cons_append, List.nil_append, List.set_cons_zero, List.set_cons_succ, List.getElem?_cons_zero, List.getElem?_cons_succ, if_true, if_false, Bool.false_eq_true, Bool.not_true, Bool.not_false, reduceIte, Nat.reduceAdd, Nat.reduceSub]
      exact ⟨_, _, _, _, rfl⟩
  · rintro E' ⟨x5, x6, x7, x8, rfl⟩
    rw [List.length_map, List.take_length]
    try simp only [Dl.sSeq, Dl.sCut, Dl.sNext, Dl.sNever, Dl.sIf, Dl.sExpr, Dl.sRet, Dl.sRetF, Dl.sRetO, Dl.sAsg, Dl.sSet, Dl.sSetF, Dl.sFrz, Dl.sMove, Dl.sAug, Dl.sApp, Dl.sPut, Dl.sFor, Dl.sPar, Dl.wVar, Dl.wVarH, Dl.wC, Dl.wOp, Dl.wOpF, Dl.gB, Dl.wAnd, Dl.wOr, Dl.wNot, Dl.wAndV, Dl.wOrV, Dl.wNotV, Dl.wIf, Dl.wChain, Dl.vD, Dl.vVar, Dl.aNil, Dl.aCons, Dl.lNil, Dl.lCons, Dl.lStar, Dl.wTup, Dl.wLst, Dl.dName, Dl.dNil, Dl.dCons, Dl.dTup, Dl.wUn, Dl.wUnF, Dl.wIsi, Dl.isD, Dl.w2I, Dl.wCall, Dl.wCallF, Dl.wCallK, Dl.rD, Dl.rF, Dl.mkS, Dl.iSeq, Dl.iTupl, Dl.iAny, Dl.iRg1, Dl.iRg2, Dl.iRev, Dl.rg1, Dl.rg2, Dl.iEn, Dl.iZp, Dl.iStrD, Dl.wLc, Dl.wipeE, Dl.wYes, Dl.wSl, Dl.wSlF, Dl.oNone, Dl.oSome, Dl.gSl, Dl.gAdd, Dl.gCat, Dl.gRep, Dl.gSub, Dl.gMul, Dl.gMod, Dl.gDiv, Dl.gPow, Dl.gLt, Dl.gLe, Dl.gGt, Dl.gGe, Dl.gEq, Dl.gNe, Dl.gIsN, Dl.gNotN, Dl.isN, Dl.gIx, Dl.gLen, Dl.gTupOf, Dl.gListOf, Dl.gSum, Dl.gRep1, Dl.gInt, Dl.gAll, Dl.gNeg, Dl.xF, Dl.wZip2, Dl.wZipS, Dl.sAugS, Dl.sExt, Dl.sNewU, Dl.sPutU, Dl.wTupU, Dl.gRev, Dl.gIn, Dl.gNotIn, Dl.wLenS, Dl.uVar, Dl.uD, Dl.wGetU, Dl.wInU, Dl.gDictP, Dl.gSortS, Dl.gSortSet, Dl.wReprU, Dl.wReprL, Dl.gReprU, Dl.sRaise, Dl.mkD1, Dl.mkD2, Dl.sCallX, Dl.sRetX, Dl.sSetX, List.map_cons, List.map_nil, List.length_cons, List.length_nil, List.replicate_succ, List.replicate_zero, List.cons_append, List.nil_append, List.set_cons_zero, List.set_cons_succ, List.getElem?_cons_zero, List.getElem?_cons_succ, if_true, if_false, Bool.false_eq_true, Bool.not_true, Bool.not_false, reduceIte, Nat.reduceAdd, Nat.reduceSub]
    exact ⟨hq, done⟩

def S_law_names_in : Dl.DSp := Dl.mkS (fun (x : List Term × Int) => [.d (polyD x.1)]) fun (p, L) Q => p.length ≤ 200 ∧ (∀ t ∈ p, t.2.length ≤ 4) ∧ (∀ c ∈ cellsP p, CellOk L c) ∧ ∀ ys : List Str, ys.Nodup → (∀ x, x ∈ ys ↔ x ∈ inNames p) → sortedS ys = true → Q (.own (Dl.strsD ys))

abbrev s_law_names_in : Stmt := top 18
theorem sc_law_names_in : FnScope ["line", "names", "factor", "cells", "tag", "content"] ["line"] (defScope s_law_names_in) := ⟨rfl, rfl, rfl, by decide +kernel, rfl, by decide +kernel, by decide +kernel⟩
open Dl in
theorem ok_law_names_in {f : Addr} {fd : FuncData} (F : Fun K "_law_names_in" "_law_names_in" s_law_names_in f fd) (m_sorted : mg "sorted" = none) (m_set : mg "set" = none) : FnG P w K mg base CX0 1 f fd ["line"] (Dl.spD K S_law_names_in) := by
  refine okD F sc_law_names_in (fun ss Q h => by obtain ⟨x, rfl, _⟩ := h; rfl) (fun cdv A o s H E hr => (qs_cons (q_set (i := 1) sc_law_names_in.nd rfl (Or.inl rfl) (pd_new (pf_lst pl_nil)))
      (qs_cons (q_for PassesOwn.never rfl (qi_any (pd_var (pv 0))) (qg_tup (n := 2) rfl (qgs_cons (qg_name (i := 2) sc_law_names_in.nd rfl (Or.inl rfl)) (qgs_cons (qg_name (i := 3) sc_law_names_in.nd rfl (Or.inl rfl)) qgs_nil))) (qs_one (q_set (i := 1) sc_law_names_in.nd rfl (Or.inl rfl) (pd_new (pf_op op_cat cat_f (ph_var (pv 1)) (ph_of (pd_new (pf_lc (own := [("tag", 4), ("content", 5)]) (by rfl) sc_law_names_in.nd (qi_any (pd_var (pv 3))) (blkOk_by (own := [("tag", 4), ("content", 5)]) (by kernel_rfl)) (fun _ _ _ _ _ => (qg_tup (n := 2) rfl (qgs_cons (qg_name (i := 4) sc_law_names_in.nd rfl (Or.inl rfl)) (qgs_cons (qg_name (i := 5) sc_law_names_in.nd rfl (Or.inl rfl)) qgs_nil)))) (fun _ _ _ _ _ => (qts_one (pt_cmpD (op_eqD hr.r.units) eq_d (ph_var (pv 4)) (ph_of pd_str) (nomark _)))) (fun _ _ _ _ _ => (pd_var (pv 5)))))))))))
      (qs_one (q_retF (pf_sortSet rfl (by rfl) m_sorted (by rfl) m_set (ph_var (pv 1)))))))) (fun ss Q h => ?_)
  obtain ⟨⟨p, L⟩, rfl, hl, h4, hok, done⟩ := h
  refine S_seq ?_
  refine S_set fun k hk => ?_
  try simp only [Dl.sSeq, Dl.sCut, Dl.sNext, Dl.sNever, Dl.sIf, Dl.sExpr, Dl.sRet, Dl.sRetF, Dl.sRetO, Dl.sAsg, Dl.sSet, Dl.sSetF, Dl.sFrz, Dl.sMove, Dl.sAug, Dl.sApp, Dl.sPut, Dl.sFor, Dl.sPar, Dl.wVar, Dl.wVarH, Dl.wC, Dl.wOp, Dl.wOpF, Dl.gB, Dl.wAnd, Dl.wOr, Dl.wNot, Dl.wAndV, Dl.wOrV, Dl.wNotV, Dl.wIf, Dl.wChain, Dl.vD, Dl.vVar, Dl.aNil, Dl.aCons, Dl.lNil, Dl.lCons, Dl.lStar, Dl.wTup, Dl.wLst, Dl.dName, Dl.dNil, Dl.dCons, Dl.dTup, Dl.wUn, Dl.wUnF, Dl.wIsi, Dl.isD, Dl.w2I, Dl.wCall, Dl.wCallF, Dl.wCallK, Dl.rD, Dl.rF, Dl.mkS, Dl.iSeq, Dl.iTupl, Dl.iAny, Dl.iRg1, Dl.iRg2, Dl.iRev, Dl.rg1, Dl.rg2, Dl.iEn, Dl.iZp, Dl.iStrD, Dl.wLc, Dl.wipeE, Dl.wYes, Dl.wSl, Dl.wSlF, Dl.oNone, Dl.oSome, Dl.gSl, Dl.gAdd, Dl.gCat, Dl.gRep, Dl.gSub, Dl.gMul, Dl.gMod, Dl.gDiv, Dl.gPow, Dl.gLt, Dl.gLe, Dl.gGt, Dl.gGe, Dl.gEq, Dl.gNe, Dl.gIsN, Dl.gNotN, Dl.isN, Dl.gIx, Dl.gLen, Dl.gTupOf, Dl.gListOf, Dl.gSum, Dl.gRep1, Dl.gInt, Dl.gAll, Dl.gNeg, Dl.xF, Dl.wZip2, Dl.wZipS, Dl.sAugS, Dl.sExt, Dl.sNewU, Dl.sPutU, Dl.wTupU, Dl.gRev, Dl.gIn, Dl.gNotIn, Dl.wLenS, Dl.uVar, Dl.uD, Dl.wGetU, Dl.wInU, Dl.gDictP, Dl.gSortS, Dl.gSortSet, Dl.wReprU, Dl.wReprL, Dl.gReprU, Dl.sRaise, Dl.mkD1, Dl.mkD2, Dl.sCallX, Dl.sRetX, Dl.sSetX, List.map_cons, List.map_nil, List.length_cons, List.length_nil, List.replicate_succ, List.replicate_zero, List.cons_append, List.nil_append, List.set_cons_zero, List.set_cons_succ, List.getElem?_cons_zero, List.getElem?_cons_succ, if_true, if_false, Bool.false_eq_true, Bool.not_true, Bool.not_false, reduceIte, Nat.reduceAdd, Nat.reduceSub]
  refine ⟨Nat.zero_le _, ?_⟩
  refine hk _ [some (.d (polyD p)), some (.d (.list [])), none, none, none, none] rfl ?_
  clear hk k
  dsimp only [Dl.dTup, Dl.dCons, Dl.dName, Dl.dNil, Dl.sNext, List.set_cons_zero, List.set_cons_succ]
  refine S_seq ?_
  refine S_for (p.map termD) (fun i E => ∃ x2 x3 x4 x5, E = [some (.d (polyD p)), some (.d (.list (Dl.strsD (inNames (p.take i))))), x2, x3, x4, x5]) (fun k hk => ?_) ⟨_, _, _, _, rfl⟩ ?_ ?_
  · unfold polyD
    try simp only [Dl.sSeq, Dl.sCut, Dl.sNext, Dl.sNever, Dl.sIf, Dl.sExpr, Dl.sRet, Dl.sRetF, Dl.sRetO, Dl.sAsg, Dl.sSet, Dl.sSetF, Dl.sFrz, Dl.sMove, Dl.sAug, Dl.sApp, Dl.sPut, Dl.sFor, Dl.sPar, Dl.wVar, Dl.wVarH, Dl.wC, Dl.wOp, Dl.wOpF, Dl.gB, Dl.wAnd, Dl.wOr, Dl.wNot, Dl.wAndV, Dl.wOrV, Dl.wNotV, Dl.wIf, Dl.wChain, Dl.vD, Dl.vVar, Dl.aNil, Dl.aCons, Dl.lNil, Dl.lCons, Dl.lStar, Dl.wTup, Dl.wLst, Dl.dName, Dl.dNil, Dl.dCons, Dl.dTup, Dl.wUn, Dl.wUnF, Dl.wIsi, Dl.isD, Dl.w2I, Dl.wCall, Dl.wCallF, Dl.wCallK, Dl.rD, Dl.rF, Dl.mkS, Dl.iSeq, Dl.iTupl, Dl.iAny, Dl.iRg1, Dl.iRg2, Dl.iRev, Dl.rg1, Dl.rg2, Dl.iEn, Dl.iZp, Dl.iStrD, Dl.wLc, Dl.wipeE, Dl.wYes, Dl.wSl, Dl.wSlF, Dl.oNone, Dl.oSome, Dl.gSl, Dl.gAdd, Dl.gCat, Dl.gRep, Dl.gSub, Dl.gMul, Dl.gMod, Dl.gDiv, Dl.gPow, Dl.gLt, Dl.gLe, Dl.gGt, Dl.gGe, Dl.gEq, Dl.gNe, Dl.gIsN, Dl.gNotN, Dl.isN, Dl.gIx, Dl.gLen, Dl.gTupOf, Dl.gListOf, Dl.gSum, Dl.gRep1, Dl.gInt, Dl.gAll, Dl.gNeg, Dl.xF, Dl.wZip2, Dl.wZipS, Dl.sAugS, Dl.sExt, Dl.sNewU, Dl.sPutU, Dl.wTupU, Dl.gRev, Dl.gIn, Dl.gNotIn, Dl.wLenS, Dl.uVar, Dl.uD, Dl.wGetU, Dl.wInU, Dl.gDictP, Dl.gSortS, Dl.gSortSet, Dl.wReprU, Dl.wReprL, Dl.gReprU, Dl.sRaise, Dl.mkD1, Dl.mkD2, Dl.sCallX, Dl.sRetX, Dl.sSetX, List.map_cons, List.map_nil, List.length_cons, List.length_nil, List.replicate_succ, List.replicate_zero, List.cons_append, List.nil_append, List.set_cons_zero, List.set_cons_succ, List.getElem?_cons_zero, List.getElem?_cons_succ, if_true, if_false, Bool.false_eq_true, Bool.not_true, Bool.not_false, reduceIte, Nat.reduceAdd, Nat.reduceSub]
    exact hk
  · rintro i d E' hd ⟨x2, x3, x4, x5, rfl⟩
    obtain ⟨t, ht, rfl⟩ : ∃ t, p[i]? = some t ∧ termD t = d := by
      rw [List.getElem?_map] at hd
      cases e : p[i]? with
      | none => rw [e] at hd; cases hd
      | some t => rw [e] at hd; exact ⟨t, rfl, Option.some.inj hd⟩
    have hto : ∀ c ∈ t.2, CellOk L c := fun c hc => hok c (List.mem_flatMap.mpr ⟨t, List.mem_of_getElem? ht, hc⟩)
    have ht4 := h4 t (List.mem_of_getElem? ht)
    unfold termD
    dsimp only [Dl.dTup, Dl.dCons, Dl.dName, Dl.dNil, Dl.sNext, List.set_cons_zero, List.set_cons_succ]
    refine ⟨rfl, ?_⟩
    refine S_set fun k hk => ?_
    try simp only [Dl.sSeq, Dl.sCut, Dl.sNext, Dl.sNever, Dl.sIf, Dl.sExpr, Dl.sRet, Dl.sRetF, Dl.sRetO, Dl.sAsg, Dl.sSet, Dl.sSetF, Dl.sFrz, Dl.sMove, Dl.sAug, Dl.sApp, Dl.sPut, Dl.sFor, Dl.sPar, Dl.wVar, Dl.wVarH, Dl.wC, Dl.wOp, Dl.wOpF, Dl.gB, Dl.wAnd, Dl.wOr, Dl.wNot, Dl.wAndV, Dl.wOrV, Dl.wNotV, Dl.wIf, Dl.wChain, Dl.vD, Dl.vVar, Dl.aNil, Dl.aCons, Dl.lNil, Dl.lCons, Dl.lStar, Dl.wTup, Dl.wLst, Dl.dName, Dl.dNil, Dl.dCons, Dl.dTup, Dl.wUn, Dl.wUnF, Dl.wIsi, Dl.isD, Dl.w2I, Dl.wCall, Dl.wCallF, Dl.wCallK, Dl.rD, Dl.rF, Dl.mkS, Dl.iSeq, Dl.iTupl, Dl.iAny, Dl.iRg1, Dl.iRg2, Dl.iRev, Dl.rg1, Dl.rg2, Dl.iEn, Dl.iZp, Dl.iStrD, Dl.wLc, Dl.wipeE, Dl.wYes, Dl.wSl, Dl.wSlF, Dl.oNone, Dl.oSome, Dl.gSl, Dl.gAdd, Dl.gCat, Dl.gRep, Dl.gSub, Dl.gMul, Dl.gMod, Dl.gDiv, Dl.gPow, Dl.gLt, Dl.gLe, Dl.gGt, Dl.gGe, Dl.gEq, Dl.gNe, Dl.gIsN, Dl.gNotN, Dl.isN, Dl.gIx, Dl.gLen, Dl.gTupOf, Dl.gListOf, Dl.gSum, Dl.gRep1, Dl.gInt, Dl.gAll, Dl.gNeg, Dl.xF, Dl.wZip2, Dl.wZipS, Dl.sAugS, Dl.sExt, Dl.sNewU, Dl.sPutU, Dl.wTupU, Dl.gRev, Dl.gIn, Dl.gNotIn, Dl.wLenS, Dl.uVar, Dl.uD, Dl.wGetU, Dl.wInU, Dl.gDictP, Dl.gSortS, Dl.gSortSet, Dl.wReprU, Dl.wReprL, Dl.gReprU, Dl.sRaise, Dl.mkD1, Dl.mkD2, Dl.sCallX, Dl.sRetX, Dl.sSetX, List.map_cons, List.map_nil, List.length_cons, List.length_nil, List.replicate_succ, List.replicate_zero, List.cons_append, List.nil_append, List.set_cons_zero, List.set_cons_succ, List.getElem?_cons_zero, List.getElem?_cons_succ, if_true, if_false, Bool.false_eq_true, Bool.not_true, Bool.not_false, reduceIte, Nat.reduceAdd, Nat.reduceSub]
    refine ⟨by rw [List.length_map]; exact line_lt (by omega), lcW_fm (fun c => (inName c).map PyData.str) (fun c ok skip hc h1 h2 => ?_) ?_⟩
    · obtain ⟨a, k2⟩ := c
      rcases hto _ hc with ⟨rfl, m, rfl, hm⟩ | ⟨rfl, j, rfl, _⟩
      · refine ⟨rfl, ?_⟩
        show SeqAt.shaped (PyData.str (Str.ofString "input")) = true ∧ _
        refine ⟨Dl.shaped_str (Dl.okc_of _), Dl.shaped_str (Dl.okc_of _), ?_⟩
        exact Dl.iteP (show PyData.eqv (PyData.str (Str.ofString "input")) (PyData.str (Str.ofString "input")) = true by decide +kernel) (h1 _ (by rw [inName_in]; rfl))
      · refine ⟨rfl, ?_⟩
        show SeqAt.shaped (PyData.str (Str.ofString "coin")) = true ∧ _
        refine ⟨Dl.shaped_str (Dl.okc_of _), Dl.shaped_str (Dl.okc_of _), ?_⟩
        exact Dl.iteQ (show ¬ PyData.eqv (PyData.str (Str.ofString "coin")) (PyData.str (Str.ofString "input")) = true by decide +kernel) (h2 rfl)
    · have e : Dl.strsD (inNames (p.take i)) ++ t.2.filterMap (fun c => (inName c).map PyData.str) = Dl.strsD (inNames (p.take (i + 1))) := by
        unfold inNames
        rw [cellsP_take ht, List.filterMap_append]
        unfold Dl.strsD
        rw [List.map_append, List.map_filterMap (l := t.2)]
      rw [e]
      refine ⟨?_, hk _ [some (.d (polyD p)), some (.d (.list (Dl.strsD (inNames (p.take (i + 1)))))), some (.d (.int t.1)), some (.d (.tuple (t.2.map cellD))), x4, x5] rfl ⟨_, _, _, _, rfl⟩⟩
      have h1 := cellsP_len (p := p.take i) fun x hx => h4 x (List.mem_of_mem_take hx)
      have h2 := List.length_filterMap_le inName (cellsP (p.take i))
      have h3 := List.length_filterMap_le (fun c => (inName c).map PyData.str) t.2
      have h5 : (p.take i).length ≤ p.length := by rw [List.length_take]; omega
      unfold Dl.strsD inNames
      rw [List.length_map]
      exact line_of (by omega)
  · rintro E' ⟨x2, x3, x4, x5, rfl⟩
    rw [List.length_map, List.take_length]
    try simp only [Dl.sSeq, Dl.sCut, Dl.sNext, Dl.sNever, Dl.sIf, Dl.sExpr, Dl.sRet, Dl.sRetF, Dl.sRetO, Dl.sAsg, Dl.sSet, Dl.sSetF, Dl.sFrz, Dl.sMove, Dl.sAug, Dl.sApp, Dl.sPut, Dl.sFor, Dl.sPar, Dl.wVar, Dl.wVarH, Dl.wC, Dl.wOp, Dl.wOpF, Dl.gB, Dl.wAnd, Dl.wOr, Dl.wNot, Dl.wAndV, Dl.wOrV, Dl.wNotV, Dl.wIf, Dl.wChain, Dl.vD, Dl.vVar, Dl.aNil, Dl.aCons, Dl.lNil, Dl.lCons, Dl.lStar, Dl.wTup, Dl.wLst, Dl.dName, Dl.dNil, Dl.dCons, Dl.dTup, Dl.wUn, Dl.wUnF, Dl.wIsi, Dl.isD, Dl.w2I, Dl.wCall, Dl.wCallF, Dl.wCallK, Dl.rD, Dl.rF, Dl.mkS, Dl.iSeq, Dl.iTupl, Dl.iAny, Dl.iRg1, Dl.iRg2, Dl.iRev, Dl.rg1, Dl.rg2, Dl.iEn, Dl.iZp, Dl.iStrD, Dl.wLc, Dl.wipeE, Dl.wYes, Dl.wSl, Dl.wSlF, Dl.oNone, Dl.oSome, Dl.gSl, Dl.gAdd, Dl.gCat, Dl.gRep, Dl.gSub, Dl.gMul, Dl.gMod, Dl.gDiv, Dl.gPow, Dl.gLt, Dl.gLe, Dl.gGt, Dl.gGe, Dl.gEq, Dl.gNe, Dl.gIsN, Dl.gNotN, Dl.isN, Dl.gIx, Dl.gLen, Dl.gTupOf, Dl.gListOf, Dl.gSum, Dl.gRep1, Dl.gInt, Dl.gAll, Dl.gNeg, Dl.xF, Dl.wZip2, Dl.wZipS, Dl.sAugS, Dl.sExt, Dl.sNewU, Dl.sPutU, Dl.wTupU, Dl.gRev, Dl.gIn, Dl.gNotIn, Dl.wLenS, Dl.uVar, Dl.uD, Dl.wGetU, Dl.wInU, Dl.gDictP, Dl.gSortS, Dl.gSortSet, Dl.wReprU, Dl.wReprL, Dl.gReprU, Dl.sRaise, Dl.mkD1, Dl.mkD2, Dl.sCallX, Dl.sRetX, Dl.sSetX, List.map_cons, List.map_nil, List.length_cons, List.length_nil, List.replicate_succ, List.replicate_zero, List.cons_append, List.nil_append, List.set_cons_zero, List.set_cons_succ, List.getElem?_cons_zero, List.getElem?_cons_succ, if_true, if_false, Bool.false_eq_true, Bool.not_true, Bool.not_false, reduceIte, Nat.reduceAdd, Nat.reduceSub]
    have hcl := cellsP_len h4
    refine ⟨_, rfl, ?_, fun ks nd mem => names_lt hok nd fun x hx => (mem x).mp hx, done⟩
    have := List.length_filterMap_le inName (cellsP p)
    unfold inNames; omega

theorem merge_asg {ns : List Str} {val : Str → Int} (nd : ns.Nodup) : Dl.mergeD [] (asgG ns val) = asgG ns val := by
  have : ∀ (ms : List Str) (g : Dl.Gd), ms.Nodup → (∀ m ∈ ms, ∀ p ∈ g, p.1 ≠ (Sum.inr m : Key)) → Dl.mergeD g (asgG ms val) = g ++ asgG ms val := by
    intro ms
    induction ms with
    | nil => intro g _ _; simp [Dl.mergeD, asgG]
    | cons m ms ih =>
      intro g n h
      obtain ⟨n1, n2⟩ := List.nodup_cons.mp n
      have e1 : Dl.dput g (Sum.inr m : Key) (PyData.int (val m)) = g ++ [(Sum.inr m, PyData.int (val m))] := by
        unfold Dl.dput
        rw [if_neg]
        intro z
        obtain ⟨x, hx, e⟩ := List.any_eq_true.mp z
        exact h m (List.mem_cons_self ..) x hx (of_decide_eq_true e)
      show Dl.mergeD (Dl.dput g (Sum.inr m : Key) (PyData.int (val m))) (asgG ms val) = g ++ ((Sum.inr m, PyData.int (val m)) :: asgG ms val)
      rw [e1, ih _ n2 fun x hx y hy => ?_]
      · simp
      · rcases List.mem_append.mp hy with hy | hy
        · exact h x (List.mem_cons_of_mem _ hx) y hy
        · rw [List.mem_singleton.mp hy]
          intro z
          exact n1 (by rw [Sum.inr.inj z]; exact hx)
  have := this ns [] nd fun _ _ _ h => by cases h
  simpa using this
theorem vals_fun {q : Int} (hq : 0 < q) : ∀ {ns : List Str} {rs : List PyData}, ns.Nodup → rs.length = ns.length → (∀ (i : Nat) r, rs[i]? = some r → ∃ (n : Str) (v : Int), ns[i]? = some n ∧ r = Dl.pairD (.inr n, .int v) ∧ 0 ≤ v ∧ v < q) → ∃ val : Str → Int, rs = (asgG ns val).map Dl.pairD ∧ ∀ n, 0 ≤ val n ∧ val n < q
  | [], [], _, _, _ => ⟨fun _ => 0, rfl, fun _ => ⟨Int.le_refl _, hq⟩⟩
  | [], _ :: _, _, h, _ => by cases h
  | _ :: _, [], _, h, _ => by cases h
  | n :: ns, r :: rs, nd, hl, h => by
    obtain ⟨n1, n2⟩ := List.nodup_cons.mp nd
    obtain ⟨val, e, hb⟩ := vals_fun hq (rs := rs) n2 (by simpa using hl) fun i r' hr => h (i + 1) r' (by simpa using hr)
    obtain ⟨m, v, em, rfl, v0, v1⟩ := h 0 r rfl
    cases em
    refine ⟨fun x => if x = n then v else val x, ?_, fun x => ?_⟩
    · rw [e]
      show _ = Dl.pairD (.inr n, .int (if n = n then v else val n)) :: (asgG ns fun x => if x = n then v else val x).map Dl.pairD
      rw [if_pos rfl]
      congr 2
      unfold asgG
      refine List.map_congr_left fun x hx => ?_
      show (Sum.inr x, PyData.int (val x)) = (Sum.inr x, PyData.int (if x = n then v else val x))
      rw [if_neg (fun z => n1 (by rw [← z]; exact hx))]
    · show 0 ≤ (if x = n then v else val x) ∧ (if x = n then v else val x) < q
      split
      · exact ⟨v0, v1⟩
      · exact hb x
def S_law_values : Dl.DSp := Dl.mkS (fun (x : Int × List Str) => [.pen, .d (.int x.1), .d (.list (Dl.strsD x.2))]) fun (q, ns) Q => 0 < q ∧ q ≤ 1000 ∧ ns.Nodup ∧ ns.length ≤ 1000 ∧ ∀ val : Str → Int, (∀ n, 0 ≤ val n ∧ val n < q) → Q (.d (Dl.dicD (asgG ns val)))

abbrev s_law_values : Stmt := top 19
theorem sc_law_values : FnScope ["pen", "q", "names", "name"] ["pen", "q", "names"] (defScope s_law_values) := ⟨rfl, rfl, rfl, by decide +kernel, rfl, by decide +kernel, by decide +kernel⟩
open Dl in
theorem ok_law_values {f : Addr} {fd : FuncData} (F : Fun K "_law_values" "_law_values" s_law_values f fd) (m_dict : mg "dict" = none) (c__law_draw : Cal P w K mg base "_law_draw" 2 ["pen", "bound"] (Dl.spD K S_law_draw)) : FnG P w K mg base CX0 3 f fd ["pen", "q", "names"] (Dl.spD K S_law_values) := by
  obtain ⟨f__law_draw, fd__law_draw, G__law_draw, m__law_draw, k__law_draw, b__law_draw⟩ := c__law_draw.ex
  refine okD F sc_law_values (fun ss Q h => by obtain ⟨x, rfl, _⟩ := h; rfl) (fun cdv A o s H E hr => (qs_one (q_ret (pd_dictP rfl (by rfl) m_dict (ph_of (pd_new (pf_lc (own := [("name", 3)]) (by rfl) sc_law_values.nd (qi_any (pd_var (pv 2))) (blkOk_by (own := [("name", 3)]) (by kernel_rfl)) (fun _ _ _ _ _ => (qg_name (i := 3) sc_law_values.nd rfl (Or.inl rfl))) (fun _ _ _ _ _ => qts_nil) (fun _ _ _ _ _ => (pd_tup (pl_cons (pd_var (pv 3)) (pl_cons (pd_call G__law_draw (hr.mono (by first | decide | omega)) (by rfl) m__law_draw k__law_draw b__law_draw (pa_consD (pv_var (pv 0)) (pa_consD (pv_var (pv 1)) pa_nilD))) pl_nil))))))))))) (fun ss Q h => ?_)
  obtain ⟨⟨q, ns⟩, rfl, hq, hq2, nd, hl, done⟩ := h
  try simp only [Dl.sSeq, Dl.sCut, Dl.sNext, Dl.sNever, Dl.sIf, Dl.sExpr, Dl.sRet, Dl.sRetF, Dl.sRetO, Dl.sAsg, Dl.sSet, Dl.sSetF, Dl.sFrz, Dl.sMove, Dl.sAug, Dl.sApp, Dl.sPut, Dl.sFor, Dl.sPar, Dl.wVar, Dl.wVarH, Dl.wC, Dl.wOp, Dl.wOpF, Dl.gB, Dl.wAnd, Dl.wOr, Dl.wNot, Dl.wAndV, Dl.wOrV, Dl.wNotV, Dl.wIf, Dl.wChain, Dl.vD, Dl.vVar, Dl.aNil, Dl.aCons, Dl.lNil, Dl.lCons, Dl.lStar, Dl.wTup, Dl.wLst, Dl.dName, Dl.dNil, Dl.dCons, Dl.dTup, Dl.wUn, Dl.wUnF, Dl.wIsi, Dl.isD, Dl.w2I, Dl.wCall, Dl.wCallF, Dl.wCallK, Dl.rD, Dl.rF, Dl.mkS, Dl.iSeq, Dl.iTupl, Dl.iAny, Dl.iRg1, Dl.iRg2, Dl.iRev, Dl.rg1, Dl.rg2, Dl.iEn, Dl.iZp, Dl.iStrD, Dl.wLc, Dl.wipeE, Dl.wYes, Dl.wSl, Dl.wSlF, Dl.oNone, Dl.oSome, Dl.gSl, Dl.gAdd, Dl.gCat, Dl.gRep, Dl.gSub, Dl.gMul, Dl.gMod, Dl.gDiv, Dl.gPow, Dl.gLt, Dl.gLe, Dl.gGt, Dl.gGe, Dl.gEq, Dl.gNe, Dl.gIsN, Dl.gNotN, Dl.isN, Dl.gIx, Dl.gLen, Dl.gTupOf, Dl.gListOf, Dl.gSum, Dl.gRep1, Dl.gInt, Dl.gAll, Dl.gNeg, Dl.xF, Dl.wZip2, Dl.wZipS, Dl.sAugS, Dl.sExt, Dl.sNewU, Dl.sPutU, Dl.wTupU, Dl.gRev, Dl.gIn, Dl.gNotIn, Dl.wLenS, Dl.uVar, Dl.uD, Dl.wGetU, Dl.wInU, Dl.gDictP, Dl.gSortS, Dl.gSortSet, Dl.wReprU, Dl.wReprL, Dl.gReprU, Dl.sRaise, Dl.mkD1, Dl.mkD2, Dl.sCallX, Dl.sRetX, Dl.sSetX, List.map_cons, List.map_nil, List.length_cons, List.length_nil, List.replicate_succ, List.replicate_zero, List.cons_append, List.nil_append, List.set_cons_zero, List.set_cons_succ, List.getElem?_cons_zero, List.getElem?_cons_succ, if_true, if_false, Bool.false_eq_true, Bool.not_true, Bool.not_false, reduceIte, Nat.reduceAdd, Nat.reduceSub]
  refine ⟨by unfold Dl.strsD; rw [List.length_map]; exact line_lt (by omega), lcW_any (fun i r => ∃ (n : Str) (v : Int), ns[i]? = some n ∧ r = Dl.pairD (.inr n, .int v) ∧ 0 ≤ v ∧ v < q) (fun i d ok skip hd h => ?_) fun rs hrl hr => ?_⟩
  · obtain ⟨n, hn, rfl⟩ : ∃ n, ns[i]? = some n ∧ PyData.str n = d := by
      unfold Dl.strsD at hd
      rw [List.getElem?_map] at hd
      cases e : ns[i]? with
      | none => rw [e] at hd; cases hd
      | some t => rw [e] at hd; exact ⟨t, rfl, Option.some.inj hd⟩
    try simp only [Dl.sSeq, Dl.sCut, Dl.sNext, Dl.sNever, Dl.sIf, Dl.sExpr, Dl.sRet, Dl.sRetF, Dl.sRetO, Dl.sAsg, Dl.sSet, Dl.sSetF, Dl.sFrz, Dl.sMove, Dl.sAug, Dl.sApp, Dl.sPut, Dl.sFor, Dl.sPar, Dl.wVar, Dl.wVarH, Dl.wC, Dl.wOp, Dl.wOpF, Dl.gB, Dl.wAnd, Dl.wOr, Dl.wNot, Dl.wAndV, Dl.wOrV, Dl.wNotV, Dl.wIf, Dl.wChain, Dl.vD, Dl.vVar, Dl.aNil, Dl.aCons, Dl.lNil, Dl.lCons, Dl.lStar, Dl.wTup, Dl.wLst, Dl.dName, Dl.dNil, Dl.dCons, Dl.dTup, Dl.wUn, Dl.wUnF, Dl.wIsi, Dl.isD, Dl.w2I, Dl.wCall, Dl.wCallF, Dl.wCallK, Dl.rD, Dl.rF, Dl.mkS, Dl.iSeq, Dl.iTupl, Dl.iAny, Dl.iRg1, Dl.iRg2, Dl.iRev, Dl.rg1, Dl.rg2, Dl.iEn, Dl.iZp, Dl.iStrD, Dl.wLc, Dl.wipeE, Dl.wYes, Dl.wSl, Dl.wSlF, Dl.oNone, Dl.oSome, Dl.gSl, Dl.gAdd, Dl.gCat, Dl.gRep, Dl.gSub, Dl.gMul, Dl.gMod, Dl.gDiv, Dl.gPow, Dl.gLt, Dl.gLe, Dl.gGt, Dl.gGe, Dl.gEq, Dl.gNe, Dl.gIsN, Dl.gNotN, Dl.isN, Dl.gIx, Dl.gLen, Dl.gTupOf, Dl.gListOf, Dl.gSum, Dl.gRep1, Dl.gInt, Dl.gAll, Dl.gNeg, Dl.xF, Dl.wZip2, Dl.wZipS, Dl.sAugS, Dl.sExt, Dl.sNewU, Dl.sPutU, Dl.wTupU, Dl.gRev, Dl.gIn, Dl.gNotIn, Dl.wLenS, Dl.uVar, Dl.uD, Dl.wGetU, Dl.wInU, Dl.gDictP, Dl.gSortS, Dl.gSortSet, Dl.wReprU, Dl.wReprL, Dl.gReprU, Dl.sRaise, Dl.mkD1, Dl.mkD2, Dl.sCallX, Dl.sRetX, Dl.sSetX, List.map_cons, List.map_nil, List.length_cons, List.length_nil, List.replicate_succ, List.replicate_zero, List.cons_append, List.nil_append, List.set_cons_zero, List.set_cons_succ, List.getElem?_cons_zero, List.getElem?_cons_succ, if_true, if_false, Bool.false_eq_true, Bool.not_true, Bool.not_false, reduceIte, Nat.reduceAdd, Nat.reduceSub]
    refine ⟨q, rfl, hq, Nat.lt_of_le_of_lt (show q.natAbs ≤ 1000 by omega) (by decide), fun r r0 r1 => ?_⟩
    exact ⟨by decide, h _ ⟨n, r, hn, rfl, r0, r1⟩⟩
  · obtain ⟨val, rfl, hb⟩ := vals_fun hq nd (by rw [hrl]; unfold Dl.strsD; rw [List.length_map]) hr
    refine ⟨_, rfl, ?_⟩
    rw [merge_asg nd]
    exact done val hb

end
end Vk34

namespace Vk34
open PySem PySem.Spec PyProof.Rows L2 Vx
section
variable {P : Program} {w : World} {K : PySem.W.Frag} {mg : Str → Option Value} {base : Heap} {C_MissingVariable I_MissingVariable : Addr}
abbrev sp_law (K : PySem.W.Frag) : Sp := Dl.sp_law0 K
theorem polyD_cat (p r : List Term) : PyData.tuple (p.map termD ++ r.map termD) = polyD (p ++ r) := by unfold polyD; rw [List.map_append]
theorem terms_of {q : Int} : ∀ {rs : List PyData}, (∀ (i : Nat) r, rs[i]? = some r → ∃ z : Int, r = termD (z, []) ∧ 1 ≤ z ∧ z < q) → ∃ p : List Term, rs = p.map termD ∧ p.length = rs.length ∧ ∀ L, PolyOk q L p
  | [], _ => ⟨[], rfl, rfl, fun _ _ h => by cases h⟩
  | r :: rs, h => by
    obtain ⟨z, rfl, h0, h1⟩ := h 0 r rfl
    obtain ⟨p, rfl, hl, hp⟩ := terms_of (q := q) fun i r e => h (i + 1) r (by simpa using e)
    exact ⟨(z, []) :: p, rfl, by simp, fun L t ht => (List.mem_cons.mp ht).elim (fun e => e ▸ ⟨h0, h1, Nat.zero_le _, fun _ h => by cases h⟩) (hp L t)⟩
theorem names_nd : names6.Nodup := by decide +kernel
theorem asg_ext {us vs : List Int} {val : Str → Int} {p : List Term} {L : Int} (hp : ∀ c ∈ cellsP p, CellOk L c) (hL : L ≤ us.length) : polyV val (us ++ vs) p = polyV val us p := by
  unfold polyV
  congr 1
  refine List.map_congr_left fun t ht => ?_
  have hc : ∀ c ∈ t.2, cellV val (us ++ vs) c = cellV val us c := fun c hc => by
    have := hp c (List.mem_flatMap.mpr ⟨t, ht, hc⟩)
    obtain ⟨a, k⟩ := c
    rcases this with ⟨_, n, e, _⟩ | ⟨_, i, e, h0, h1⟩
    · cases e; rfl
    · cases e
      show (us ++ vs).getD i.toNat 0 = us.getD i.toNat 0
      rw [List.getD_eq_getElem?_getD, List.getD_eq_getElem?_getD, List.getElem?_append_left (by omega)]
  unfold termV
  have : ∀ (cs : List Cell) (z : Int), (∀ c ∈ cs, cellV val (us ++ vs) c = cellV val us c) → cs.foldl (fun v c => v * cellV val (us ++ vs) c) z = cs.foldl (fun v c => v * cellV val us c) z := by
    intro cs
    induction cs with
    | nil => intro z _; rfl
    | cons c cs ih =>
      intro z h
      rw [List.foldl_cons, List.foldl_cons, h c (List.mem_cons_self ..)]
      exact ih _ fun x hx => h x (List.mem_cons_of_mem _ hx)
  exact this _ _ hc
open Dl in
theorem lack_asg {ns ys : List Str} {val : Str → Int} (h : ∀ y ∈ ys, y ∈ ns) : lackD (asgG ns val) ys = none := lack_none fun m hm => by rw [asg_val (h m hm)]; rfl
open Dl in
theorem nlks_map {α : Type} (f : α → PyData) (h : ∀ x, nlk (f x) = true) : ∀ xs : List α, nlks (xs.map f) = true
  | [] => rfl
  | x :: xs => by
    show (nlk (f x) && nlks (xs.map f)) = true
    rw [h x, nlks_map f h xs]; rfl
open Dl in
theorem nlk_key : ∀ k : Key, nlk (keyD k) = true
  | .inl _ => rfl
  | .inr _ => rfl
open Dl in
theorem nlk_poly (p : List Term) : nlk (polyD p) = true := nlks_map termD (fun t => by
  show (true && (nlks (t.2.map cellD) && true)) = true
  rw [nlks_map cellD (fun c => nlks_map keyD nlk_key (ckey c))]; rfl) p
open Dl in
theorem nlk_asg (ns : List Str) (val : Str → Int) : nlk (dicD (asgG ns val)) = true := by
  show nlkv ((asgG ns val).map fun p => (keyD p.1, p.2)) = true
  unfold asgG
  rw [List.map_map]
  induction ns with
  | nil => rfl
  | cons n ns ih => exact ih
open Dl in
theorem nlk_row (us : List Int) : nlk (rowD us) = true := nlks_map PyData.int (fun _ => rfl) us
open Dl in
theorem rep_I {z : Int} {k : PyData → Prop} (h : z.natAbs < 10 ^ 12) (q : k (.str (PyData.int z).shown)) : gRep1 (.int z) k := ⟨h, q⟩

abbrev s_law : Stmt := top 21
theorem sc_law : FnScope ["script", "pen", "turn", "q", "length", "line", "values", "tosses", "constants", "k", "polynomial_here", "before", "expected", "again", "needed", "name"] ["script"] (defScope s_law) := ⟨rfl, rfl, rfl, by decide +kernel, rfl, by decide +kernel, by decide +kernel⟩
open Dl in
theorem ok_law {f : Addr} {fd : FuncData} (F : Fun K "law" "law" s_law f fd) (m_range : mg "range" = none) (m_max : mg "max" = none) (m_tuple : mg "tuple" = none) (m_dict : mg "dict" = none) (m_min : mg "min" = none) (m_repr : mg "repr" = none) (m_len : mg "len" = none) (c__law_pen : Cal P w K mg base "_law_pen" 1 ["script"] (sp_law_pen K)) (c__law_polynomial : Cal P w K mg base "_law_polynomial" 5 ["pen", "q", "length", "most"] (Dl.spD K S_law_polynomial)) (c__law_values : Cal P w K mg base "_law_values" 3 ["pen", "q", "names"] (Dl.spD K S_law_values)) (c__law_residues : Cal P w K mg base "_law_residues" 3 ["pen", "q", "length"] (Dl.spD K S_law_residues)) (c__law_modulus : Cal P w K mg base "_law_modulus" 3 ["pen"] (Dl.spD K S_law_modulus)) (c__law_draw : Cal P w K mg base "_law_draw" 2 ["pen", "bound"] (Dl.spD K S_law_draw)) (c_evaluate_polynomial : Dl.CalXK P w K mg base "evaluate_polynomial" 6 ["polynomial", "modulus", "assignment", "coins"] (Dl.spX K (S_evaluate_polynomial C_MissingVariable)) ["coins", "assignment", "modulus", "polynomial"] kg_evaluate_polynomial) (c__law_value : Cal P w K mg base "_law_value" 1 ["line", "q", "values", "tosses"] (Dl.spD K S_law_value)) (c__law_names_in : Cal P w K mg base "_law_names_in" 1 ["line"] (Dl.spD K S_law_names_in)) : FnG P w K mg base CX0 7 f fd ["script"] (sp_law0 K) := by
  obtain ⟨f__law_pen, fd__law_pen, G__law_pen, m__law_pen, k__law_pen, b__law_pen⟩ := c__law_pen.ex
  obtain ⟨f__law_polynomial, fd__law_polynomial, G__law_polynomial, m__law_polynomial, k__law_polynomial, b__law_polynomial⟩ := c__law_polynomial.ex
  obtain ⟨f__law_values, fd__law_values, G__law_values, m__law_values, k__law_values, b__law_values⟩ := c__law_values.ex
  obtain ⟨f__law_residues, fd__law_residues, G__law_residues, m__law_residues, k__law_residues, b__law_residues⟩ := c__law_residues.ex
  obtain ⟨f__law_modulus, fd__law_modulus, G__law_modulus, m__law_modulus, k__law_modulus, b__law_modulus⟩ := c__law_modulus.ex
  obtain ⟨f__law_draw, fd__law_draw, G__law_draw, m__law_draw, k__law_draw, b__law_draw⟩ := c__law_draw.ex
  obtain ⟨f_evaluate_polynomial, fd_evaluate_polynomial, G_evaluate_polynomial, m_evaluate_polynomial, k_evaluate_polynomial, b_evaluate_polynomial, kb_evaluate_polynomial⟩ := c_evaluate_polynomial.ex
  have H_evaluate_polynomial := Dl.FnG.calm G_evaluate_polynomial
  obtain ⟨f__law_value, fd__law_value, G__law_value, m__law_value, k__law_value, b__law_value⟩ := c__law_value.ex
  obtain ⟨f__law_names_in, fd__law_names_in, G__law_names_in, m__law_names_in, k__law_names_in, b__law_names_in⟩ := c__law_names_in.ex
  refine okLawS F sc_law rfl (by decide) (fun cdv A o s H E hr => (ps_set (i := 1) sc_law.nd rfl (Or.inr rfl) (ge_call G__law_pen (hr.mono (by first | decide | omega)) (by rfl) m__law_pen k__law_pen b__law_pen .nil pass0 (pa_cons (pv 0) pa_nil)))) (fun cdv A o s H E hr => (qs_cons (q_for PassesOwn.never rfl (qi_range1 rfl m_range (pd_max2 pd_int (pd_min2 pd_int (pd_lenS (pv 0) (by rfl) m_len) rfl (by rfl) m_min) rfl (by rfl) m_max)) (qg_name (i := 2) sc_law.nd rfl (Or.inl rfl)) (qs_cons (q_asg (pd_tup (pl_cons (pd_call G__law_modulus (hr.mono (by first | decide | omega)) (by rfl) m__law_modulus k__law_modulus b__law_modulus (pa_consD (pv_var (pv 1)) pa_nilD)) (pl_cons (pd_call G__law_draw (hr.mono (by first | decide | omega)) (by rfl) m__law_draw k__law_draw b__law_draw (pa_consD (pv_var (pv 1)) (pa_consD (pv_d pd_int) pa_nilD))) pl_nil))) (qg_tup (n := 2) rfl (qgs_cons (qg_name (i := 3) sc_law.nd rfl (Or.inr rfl)) (qgs_cons (qg_name (i := 4) sc_law.nd rfl (Or.inl rfl)) qgs_nil))))
      (qs_cons (q_set (i := 5) sc_law.nd rfl (Or.inl rfl) (pd_call G__law_polynomial (hr.mono (by first | decide | omega)) (by rfl) m__law_polynomial k__law_polynomial b__law_polynomial (pa_consD (pv_var (pv 1)) (pa_consD (pv_var (pv 3)) (pa_consD (pv_var (pv 4)) (pa_consD (pv_d pd_int) pa_nilD))))))
      (qs_cons (q_set (i := 6) sc_law.nd rfl (Or.inr rfl) (pd_call G__law_values (hr.mono (by first | decide | omega)) (by rfl) m__law_values k__law_values b__law_values (pa_consD (pv_var (pv 1)) (pa_consD (pv_var (pv 3)) (pa_consD (pv_d (pd_new (pf_lst (pl_cons pd_str (pl_cons pd_str (pl_cons pd_str (pl_cons pd_str (pl_cons pd_str (pl_cons pd_str pl_nil))))))))) pa_nilD)))))
      (qs_cons (q_set (i := 7) sc_law.nd rfl (Or.inl rfl) (pd_call G__law_residues (hr.mono (by first | decide | omega)) (by rfl) m__law_residues k__law_residues b__law_residues (pa_consD (pv_var (pv 1)) (pa_consD (pv_var (pv 3)) (pa_consD (pv_var (pv 4)) pa_nilD)))))
      (qs_cons (q_set (i := 8) sc_law.nd rfl (Or.inl rfl) (pd_type (call_tuple_ofK K) tupOf_d (by rfl) m_tuple (by decide +kernel) (ph_of (pd_new (pf_lc (own := [("k", 9)]) (by rfl) sc_law.nd (qi_range1 rfl m_range pd_int) (blkOk_by (own := [("k", 9)]) (by kernel_rfl)) (fun _ _ _ _ _ => (qg_name (i := 9) sc_law.nd rfl (Or.inl rfl))) (fun _ _ _ _ _ => qts_nil) (fun _ _ _ _ _ => (pd_tup (pl_cons (pd_op op_addA add_d (ph_of pd_int) (ph_of (pd_call G__law_draw (hr.mono (by first | decide | omega)) (by rfl) m__law_draw k__law_draw b__law_draw (pa_consD (pv_var (pv 1)) (pa_consD (pv_d (pd_op op_sub sub_d (ph_var (pv 3)) (ph_of pd_int))) pa_nilD))))) (pl_cons (pd_tup pl_nil) pl_nil)))))))))
      (qs_cons (q_for PassesOwn.never rfl (qi_any (pd_tup (pl_cons (pd_var (pv 5)) (pl_cons (pd_tup pl_nil) (pl_cons (pd_var (pv 8)) (pl_cons (pd_op op_addA add_d (ph_var (pv 5)) (ph_var (pv 8))) pl_nil)))))) (qg_name (i := 10) sc_law.nd rfl (Or.inl rfl)) (qs_cons (q_set (i := 11) sc_law.nd rfl (Or.inl rfl) (pd_reprL hr.g hr.r.units (pl_cons (pd_var (pv 10)) (pl_cons (pd_var (pv 6)) (pl_cons (pd_var (pv 7)) pl_nil))) (by rfl) m_repr))
      (qs_cons (q_set (i := 12) sc_law.nd rfl (Or.inl rfl) (pd_bltn (call_reprA hr.g hr.r.units) repr_d (by rfl) m_repr (by decide +kernel) (ph_of (pd_call G__law_value (hr.mono (by first | decide | omega)) (by rfl) m__law_value k__law_value b__law_value (pa_consD (pv_var (pv 10)) (pa_consD (pv_var (pv 3)) (pa_consD (pv_var (pv 6)) (pa_consD (pv_var (pv 7)) pa_nilD))))))))
      (qs_cons (q_if (pt_cmpD (op_neD hr.r.units) ne_d (ph_of (pd_bltn (call_reprA hr.g hr.r.units) repr_d (by rfl) m_repr (by decide +kernel) (ph_of (pd_call H_evaluate_polynomial (hr.mono (by first | decide | omega)) (by rfl) m_evaluate_polynomial k_evaluate_polynomial b_evaluate_polynomial (pa_consD (pv_var (pv 10)) (pa_consD (pv_var (pv 3)) (pa_consD (pv_var (pv 6)) (pa_consD (pv_var (pv 7)) pa_nilD)))))))) (ph_var (pv 12)) (nomark _)) (qs_one (q_ret pd_bl)) qs_nil)
      (qs_cons (q_set (i := 13) sc_law.nd rfl (Or.inl rfl) (pd_callK kp_evaluate_polynomial H_evaluate_polynomial (hr.mono (by first | decide | omega)) (by rfl) m_evaluate_polynomial k_evaluate_polynomial kb_evaluate_polynomial (pk_consD (pv_var (pv 7)) (pk_consD (pv_var (pv 6)) (pk_consD (pv_var (pv 3)) (pk_consD (pv_var (pv 10)) pk_nilD))))))
      (qs_cons (q_if (pt_cmpD (op_neD hr.r.units) ne_d (ph_of (pd_bltn (call_reprA hr.g hr.r.units) repr_d (by rfl) m_repr (by decide +kernel) (ph_var (pv 13)))) (ph_var (pv 12)) (nomark _)) (qs_one (q_ret pd_bl)) qs_nil)
      (qs_one (q_if (pt_cmpD (op_neD hr.r.units) ne_d (ph_of (pd_reprL hr.g hr.r.units (pl_cons (pd_var (pv 10)) (pl_cons (pd_var (pv 6)) (pl_cons (pd_var (pv 7)) pl_nil))) (by rfl) m_repr)) (ph_var (pv 11)) (nomark _)) (qs_one (q_ret pd_bl)) qs_nil))))))))
      (qs_cons (q_set (i := 14) sc_law.nd rfl (Or.inl rfl) (pd_dictP rfl (by rfl) m_dict (ph_of (pd_new (pf_lc (own := [("name", 15)]) (by rfl) sc_law.nd (qi_any (pd_call G__law_names_in (hr.mono (by first | decide | omega)) (by rfl) m__law_names_in k__law_names_in b__law_names_in (pa_consD (pv_var (pv 5)) pa_nilD))) (blkOk_by (own := [("name", 15)]) (by kernel_rfl)) (fun _ _ _ _ _ => (qg_name (i := 15) sc_law.nd rfl (Or.inl rfl))) (fun _ _ _ _ _ => qts_nil) (fun _ _ _ _ _ => (pd_tup (pl_cons (pd_var (pv 15)) (pl_cons (pd_getU (hu_of hr.r) (pu_var (pv 6)) (pd_var (pv 15)) (fun _ _ => rfl)) pl_nil)))))))))
      (qs_one (q_if (pt_cmpD (op_neD hr.r.units) ne_d (ph_of (pd_call H_evaluate_polynomial (hr.mono (by first | decide | omega)) (by rfl) m_evaluate_polynomial k_evaluate_polynomial b_evaluate_polynomial (pa_consD (pv_var (pv 5)) (pa_consD (pv_var (pv 3)) (pa_consD (pv_var (pv 14)) (pa_consD (pv_d (pd_op op_addA add_d (ph_var (pv 7)) (ph_of (pd_tup (pl_cons (pd_op op_sub sub_d (ph_var (pv 3)) (ph_of pd_int)) pl_nil))))) pa_nilD)))))) (ph_of (pd_call G__law_value (hr.mono (by first | decide | omega)) (by rfl) m__law_value k__law_value b__law_value (pa_consD (pv_var (pv 5)) (pa_consD (pv_var (pv 3)) (pa_consD (pv_var (pv 6)) (pa_consD (pv_var (pv 7)) pa_nilD)))))) (nomark _)) (qs_one (q_ret pd_bl)) qs_nil))))))))))
      (qs_one (q_ret pd_bl)))) (fun ns hns => ?_)
  refine S_seq ?_
  refine S_forP (fun _ => True) (fun _ E => ∃ x0 x2 x3 x4 x5 x6 x7 x8 x9 x10 x11 x12 x13 x14 x15, E = [x0, some .pen, x2, x3, x4, x5, x6, x7, x8, x9, x10, x11, x12, x13, x14, x15]) (fun k hk => ?_) ⟨_, _, _, _, _, _, _, _, _, _, _, _, _, _, _, rfl⟩ ?_ ?_
  · try simp only [Dl.sSeq, Dl.sCut, Dl.sNext, Dl.sNever, Dl.sIf, Dl.sExpr, Dl.sRet, Dl.sRetF, Dl.sRetO, Dl.sAsg, Dl.sSet, Dl.sSetF, Dl.sFrz, Dl.sMove, Dl.sAug, Dl.sApp, Dl.sPut, Dl.sFor, Dl.sPar, Dl.wVar, Dl.wVarH, Dl.wC, Dl.wOp, Dl.wOpF, Dl.gB, Dl.wAnd, Dl.wOr, Dl.wNot, Dl.wAndV, Dl.wOrV, Dl.wNotV, Dl.wIf, Dl.wChain, Dl.vD, Dl.vVar, Dl.aNil, Dl.aCons, Dl.lNil, Dl.lCons, Dl.lStar, Dl.wTup, Dl.wLst, Dl.dName, Dl.dNil, Dl.dCons, Dl.dTup, Dl.wUn, Dl.wUnF, Dl.wIsi, Dl.isD, Dl.w2I, Dl.wCall, Dl.wCallF, Dl.wCallK, Dl.rD, Dl.rF, Dl.mkS, Dl.iSeq, Dl.iTupl, Dl.iAny, Dl.iRg1, Dl.iRg2, Dl.iRev, Dl.rg1, Dl.rg2, Dl.iEn, Dl.iZp, Dl.iStrD, Dl.wLc, Dl.wipeE, Dl.wYes, Dl.wSl, Dl.wSlF, Dl.oNone, Dl.oSome, Dl.gSl, Dl.gAdd, Dl.gCat, Dl.gRep, Dl.gSub, Dl.gMul, Dl.gMod, Dl.gDiv, Dl.gPow, Dl.gLt, Dl.gLe, Dl.gGt, Dl.gGe, Dl.gEq, Dl.gNe, Dl.gIsN, Dl.gNotN, Dl.isN, Dl.gIx, Dl.gLen, Dl.gTupOf, Dl.gListOf, Dl.gSum, Dl.gRep1, Dl.gInt, Dl.gAll, Dl.gNeg, Dl.xF, Dl.wZip2, Dl.wZipS, Dl.sAugS, Dl.sExt, Dl.sNewU, Dl.sPutU, Dl.wTupU, Dl.gRev, Dl.gIn, Dl.gNotIn, Dl.wLenS, Dl.uVar, Dl.uD, Dl.wGetU, Dl.wInU, Dl.gDictP, Dl.gSortS, Dl.gSortSet, Dl.wReprU, Dl.wReprL, Dl.gReprU, Dl.sRaise, Dl.mkD1, Dl.mkD2, Dl.sCallX, Dl.sRetX, Dl.sSetX, List.map_cons, List.map_nil, List.length_cons, List.length_nil, List.replicate_succ, List.replicate_zero, List.cons_append, List.nil_append, List.set_cons_zero, List.set_cons_succ, List.getElem?_cons_zero, List.getElem?_cons_succ, if_true, if_false, Bool.false_eq_true, Bool.not_true, Bool.not_false, reduceIte, Nat.reduceAdd, Nat.reduceSub]
    have h63 : (ns.length : Int) ≤ 63 := by omega
    refine ⟨sm_i ?_ ?_, hk _ trivial⟩ <;> (repeat' split) <;> omega
  · rintro _ _ i d E' _ ⟨x0, x2, x3, x4, x5, x6, x7, x8, x9, x10, x11, x12, x13, x14, x15, rfl⟩
    dsimp only [Dl.dTup, Dl.dCons, Dl.dName, Dl.dNil, Dl.sNext, List.set_cons_zero, List.set_cons_succ]
    refine S_seq ?_
    refine S_asg fun k hk => ?_
    try simp only [Dl.sSeq, Dl.sCut, Dl.sNext, Dl.sNever, Dl.sIf, Dl.sExpr, Dl.sRet, Dl.sRetF, Dl.sRetO, Dl.sAsg, Dl.sSet, Dl.sSetF, Dl.sFrz, Dl.sMove, Dl.sAug, Dl.sApp, Dl.sPut, Dl.sFor, Dl.sPar, Dl.wVar, Dl.wVarH, Dl.wC, Dl.wOp, Dl.wOpF, Dl.gB, Dl.wAnd, Dl.wOr, Dl.wNot, Dl.wAndV, Dl.wOrV, Dl.wNotV, Dl.wIf, Dl.wChain, Dl.vD, Dl.vVar, Dl.aNil, Dl.aCons, Dl.lNil, Dl.lCons, Dl.lStar, Dl.wTup, Dl.wLst, Dl.dName, Dl.dNil, Dl.dCons, Dl.dTup, Dl.wUn, Dl.wUnF, Dl.wIsi, Dl.isD, Dl.w2I, Dl.wCall, Dl.wCallF, Dl.wCallK, Dl.rD, Dl.rF, Dl.mkS, Dl.iSeq, Dl.iTupl, Dl.iAny, Dl.iRg1, Dl.iRg2, Dl.iRev, Dl.rg1, Dl.rg2, Dl.iEn, Dl.iZp, Dl.iStrD, Dl.wLc, Dl.wipeE, Dl.wYes, Dl.wSl, Dl.wSlF, Dl.oNone, Dl.oSome, Dl.gSl, Dl.gAdd, Dl.gCat, Dl.gRep, Dl.gSub, Dl.gMul, Dl.gMod, Dl.gDiv, Dl.gPow, Dl.gLt, Dl.gLe, Dl.gGt, Dl.gGe, Dl.gEq, Dl.gNe, Dl.gIsN, Dl.gNotN, Dl.isN, Dl.gIx, Dl.gLen, Dl.gTupOf, Dl.gListOf, Dl.gSum, Dl.gRep1, Dl.gInt, Dl.gAll, Dl.gNeg, Dl.xF, Dl.wZip2, Dl.wZipS, Dl.sAugS, Dl.sExt, Dl.sNewU, Dl.sPutU, Dl.wTupU, Dl.gRev, Dl.gIn, Dl.gNotIn, Dl.wLenS, Dl.uVar, Dl.uD, Dl.wGetU, Dl.wInU, Dl.gDictP, Dl.gSortS, Dl.gSortSet, Dl.wReprU, Dl.wReprL, Dl.gReprU, Dl.sRaise, Dl.mkD1, Dl.mkD2, Dl.sCallX, Dl.sRetX, Dl.sSetX, List.map_cons, List.map_nil, List.length_cons, List.length_nil, List.replicate_succ, List.replicate_zero, List.cons_append, List.nil_append, List.set_cons_zero, List.set_cons_succ, List.getElem?_cons_zero, List.getElem?_cons_succ, if_true, if_false, Bool.false_eq_true, Bool.not_true, Bool.not_false, reduceIte, Nat.reduceAdd, Nat.reduceSub]
    refine ⟨(), rfl, fun q hq hq2 => ?_⟩
    try simp only [Dl.sSeq, Dl.sCut, Dl.sNext, Dl.sNever, Dl.sIf, Dl.sExpr, Dl.sRet, Dl.sRetF, Dl.sRetO, Dl.sAsg, Dl.sSet, Dl.sSetF, Dl.sFrz, Dl.sMove, Dl.sAug, Dl.sApp, Dl.sPut, Dl.sFor, Dl.sPar, Dl.wVar, Dl.wVarH, Dl.wC, Dl.wOp, Dl.wOpF, Dl.gB, Dl.wAnd, Dl.wOr, Dl.wNot, Dl.wAndV, Dl.wOrV, Dl.wNotV, Dl.wIf, Dl.wChain, Dl.vD, Dl.vVar, Dl.aNil, Dl.aCons, Dl.lNil, Dl.lCons, Dl.lStar, Dl.wTup, Dl.wLst, Dl.dName, Dl.dNil, Dl.dCons, Dl.dTup, Dl.wUn, Dl.wUnF, Dl.wIsi, Dl.isD, Dl.w2I, Dl.wCall, Dl.wCallF, Dl.wCallK, Dl.rD, Dl.rF, Dl.mkS, Dl.iSeq, Dl.iTupl, Dl.iAny, Dl.iRg1, Dl.iRg2, Dl.iRev, Dl.rg1, Dl.rg2, Dl.iEn, Dl.iZp, Dl.iStrD, Dl.wLc, Dl.wipeE, Dl.wYes, Dl.wSl, Dl.wSlF, Dl.oNone, Dl.oSome, Dl.gSl, Dl.gAdd, Dl.gCat, Dl.gRep, Dl.gSub, Dl.gMul, Dl.gMod, Dl.gDiv, Dl.gPow, Dl.gLt, Dl.gLe, Dl.gGt, Dl.gGe, Dl.gEq, Dl.gNe, Dl.gIsN, Dl.gNotN, Dl.isN, Dl.gIx, Dl.gLen, Dl.gTupOf, Dl.gListOf, Dl.gSum, Dl.gRep1, Dl.gInt, Dl.gAll, Dl.gNeg, Dl.xF, Dl.wZip2, Dl.wZipS, Dl.sAugS, Dl.sExt, Dl.sNewU, Dl.sPutU, Dl.wTupU, Dl.gRev, Dl.gIn, Dl.gNotIn, Dl.wLenS, Dl.uVar, Dl.uD, Dl.wGetU, Dl.wInU, Dl.gDictP, Dl.gSortS, Dl.gSortSet, Dl.wReprU, Dl.wReprL, Dl.gReprU, Dl.sRaise, Dl.mkD1, Dl.mkD2, Dl.sCallX, Dl.sRetX, Dl.sSetX, List.map_cons, List.map_nil, List.length_cons, List.length_nil, List.replicate_succ, List.replicate_zero, List.cons_append, List.nil_append, List.set_cons_zero, List.set_cons_succ, List.getElem?_cons_zero, List.getElem?_cons_succ, if_true, if_false, Bool.false_eq_true, Bool.not_true, Bool.not_false, reduceIte, Nat.reduceAdd, Nat.reduceSub]
    refine ⟨8, rfl, by decide, by decide, fun L L0 L1 => ?_⟩
    try simp only [Dl.sSeq, Dl.sCut, Dl.sNext, Dl.sNever, Dl.sIf, Dl.sExpr, Dl.sRet, Dl.sRetF, Dl.sRetO, Dl.sAsg, Dl.sSet, Dl.sSetF, Dl.sFrz, Dl.sMove, Dl.sAug, Dl.sApp, Dl.sPut, Dl.sFor, Dl.sPar, Dl.wVar, Dl.wVarH, Dl.wC, Dl.wOp, Dl.wOpF, Dl.gB, Dl.wAnd, Dl.wOr, Dl.wNot, Dl.wAndV, Dl.wOrV, Dl.wNotV, Dl.wIf, Dl.wChain, Dl.vD, Dl.vVar, Dl.aNil, Dl.aCons, Dl.lNil, Dl.lCons, Dl.lStar, Dl.wTup, Dl.wLst, Dl.dName, Dl.dNil, Dl.dCons, Dl.dTup, Dl.wUn, Dl.wUnF, Dl.wIsi, Dl.isD, Dl.w2I, Dl.wCall, Dl.wCallF, Dl.wCallK, Dl.rD, Dl.rF, Dl.mkS, Dl.iSeq, Dl.iTupl, Dl.iAny, Dl.iRg1, Dl.iRg2, Dl.iRev, Dl.rg1, Dl.rg2, Dl.iEn, Dl.iZp, Dl.iStrD, Dl.wLc, Dl.wipeE, Dl.wYes, Dl.wSl, Dl.wSlF, Dl.oNone, Dl.oSome, Dl.gSl, Dl.gAdd, Dl.gCat, Dl.gRep, Dl.gSub, Dl.gMul, Dl.gMod, Dl.gDiv, Dl.gPow, Dl.gLt, Dl.gLe, Dl.gGt, Dl.gGe, Dl.gEq, Dl.gNe, Dl.gIsN, Dl.gNotN, Dl.isN, Dl.gIx, Dl.gLen, Dl.gTupOf, Dl.gListOf, Dl.gSum, Dl.gRep1, Dl.gInt, Dl.gAll, Dl.gNeg, Dl.xF, Dl.wZip2, Dl.wZipS, Dl.sAugS, Dl.sExt, Dl.sNewU, Dl.sPutU, Dl.wTupU, Dl.gRev, Dl.gIn, Dl.gNotIn, Dl.wLenS, Dl.uVar, Dl.uD, Dl.wGetU, Dl.wInU, Dl.gDictP, Dl.gSortS, Dl.gSortSet, Dl.wReprU, Dl.wReprL, Dl.gReprU, Dl.sRaise, Dl.mkD1, Dl.mkD2, Dl.sCallX, Dl.sRetX, Dl.sSetX, List.map_cons, List.map_nil, List.length_cons, List.length_nil, List.replicate_succ, List.replicate_zero, List.cons_append, List.nil_append, List.set_cons_zero, List.set_cons_succ, List.getElem?_cons_zero, List.getElem?_cons_succ, if_true, if_false, Bool.false_eq_true, Bool.not_true, Bool.not_false, reduceIte, Nat.reduceAdd, Nat.reduceSub]
    refine ⟨by decide, hk _ ?_⟩
    clear hk k
    dsimp only [Dl.dTup, Dl.dCons, Dl.dName, Dl.dNil, Dl.sNext, List.set_cons_zero, List.set_cons_succ]
    refine ⟨rfl, ?_⟩
    obtain ⟨l, rfl⟩ := Int.eq_ofNat_of_zero_le L0
    refine S_seq ?_
    refine S_set fun k hk => ?_
    try simp only [Dl.sSeq, Dl.sCut, Dl.sNext, Dl.sNever, Dl.sIf, Dl.sExpr, Dl.sRet, Dl.sRetF, Dl.sRetO, Dl.sAsg, Dl.sSet, Dl.sSetF, Dl.sFrz, Dl.sMove, Dl.sAug, Dl.sApp, Dl.sPut, Dl.sFor, Dl.sPar, Dl.wVar, Dl.wVarH, Dl.wC, Dl.wOp, Dl.wOpF, Dl.gB, Dl.wAnd, Dl.wOr, Dl.wNot, Dl.wAndV, Dl.wOrV, Dl.wNotV, Dl.wIf, Dl.wChain, Dl.vD, Dl.vVar, Dl.aNil, Dl.aCons, Dl.lNil, Dl.lCons, Dl.lStar, Dl.wTup, Dl.wLst, Dl.dName, Dl.dNil, Dl.dCons, Dl.dTup, Dl.wUn, Dl.wUnF, Dl.wIsi, Dl.isD, Dl.w2I, Dl.wCall, Dl.wCallF, Dl.wCallK, Dl.rD, Dl.rF, Dl.mkS, Dl.iSeq, Dl.iTupl, Dl.iAny, Dl.iRg1, Dl.iRg2, Dl.iRev, Dl.rg1, Dl.rg2, Dl.iEn, Dl.iZp, Dl.iStrD, Dl.wLc, Dl.wipeE, Dl.wYes, Dl.wSl, Dl.wSlF, Dl.oNone, Dl.oSome, Dl.gSl, Dl.gAdd, Dl.gCat, Dl.gRep, Dl.gSub, Dl.gMul, Dl.gMod, Dl.gDiv, Dl.gPow, Dl.gLt, Dl.gLe, Dl.gGt, Dl.gGe, Dl.gEq, Dl.gNe, Dl.gIsN, Dl.gNotN, Dl.isN, Dl.gIx, Dl.gLen, Dl.gTupOf, Dl.gListOf, Dl.gSum, Dl.gRep1, Dl.gInt, Dl.gAll, Dl.gNeg, Dl.xF, Dl.wZip2, Dl.wZipS, Dl.sAugS, Dl.sExt, Dl.sNewU, Dl.sPutU, Dl.wTupU, Dl.gRev, Dl.gIn, Dl.gNotIn, Dl.wLenS, Dl.uVar, Dl.uD, Dl.wGetU, Dl.wInU, Dl.gDictP, Dl.gSortS, Dl.gSortSet, Dl.wReprU, Dl.wReprL, Dl.gReprU, Dl.sRaise, Dl.mkD1, Dl.mkD2, Dl.sCallX, Dl.sRetX, Dl.sSetX, List.map_cons, List.map_nil, List.length_cons, List.length_nil, List.replicate_succ, List.replicate_zero, List.cons_append, List.nil_append, List.set_cons_zero, List.set_cons_succ, List.getElem?_cons_zero, List.getElem?_cons_succ, if_true, if_false, Bool.false_eq_true, Bool.not_true, Bool.not_false, reduceIte, Nat.reduceAdd, Nat.reduceSub]
    refine ⟨(q, l, 10), rfl, hq, hq2, L0, by omega, by decide, fun p hp hl => ?_⟩
    refine hk _ [x0, some .pen, some (.d d), some (.d (.int q)), some (.d (.int l)), some (.d (polyD p)), x6, x7, x8, x9, x10, x11, x12, x13, x14, x15] rfl ?_
    clear hk k
    dsimp only [Dl.dTup, Dl.dCons, Dl.dName, Dl.dNil, Dl.sNext, List.set_cons_zero, List.set_cons_succ]
    refine S_seq ?_
    refine S_set fun k hk => ?_
    try simp only [Dl.sSeq, Dl.sCut, Dl.sNext, Dl.sNever, Dl.sIf, Dl.sExpr, Dl.sRet, Dl.sRetF, Dl.sRetO, Dl.sAsg, Dl.sSet, Dl.sSetF, Dl.sFrz, Dl.sMove, Dl.sAug, Dl.sApp, Dl.sPut, Dl.sFor, Dl.sPar, Dl.wVar, Dl.wVarH, Dl.wC, Dl.wOp, Dl.wOpF, Dl.gB, Dl.wAnd, Dl.wOr, Dl.wNot, Dl.wAndV, Dl.wOrV, Dl.wNotV, Dl.wIf, Dl.wChain, Dl.vD, Dl.vVar, Dl.aNil, Dl.aCons, Dl.lNil, Dl.lCons, Dl.lStar, Dl.wTup, Dl.wLst, Dl.dName, Dl.dNil, Dl.dCons, Dl.dTup, Dl.wUn, Dl.wUnF, Dl.wIsi, Dl.isD, Dl.w2I, Dl.wCall, Dl.wCallF, Dl.wCallK, Dl.rD, Dl.rF, Dl.mkS, Dl.iSeq, Dl.iTupl, Dl.iAny, Dl.iRg1, Dl.iRg2, Dl.iRev, Dl.rg1, Dl.rg2, Dl.iEn, Dl.iZp, Dl.iStrD, Dl.wLc, Dl.wipeE, Dl.wYes, Dl.wSl, Dl.wSlF, Dl.oNone, Dl.oSome, Dl.gSl, Dl.gAdd, Dl.gCat, Dl.gRep, Dl.gSub, Dl.gMul, Dl.gMod, Dl.gDiv, Dl.gPow, Dl.gLt, Dl.gLe, Dl.gGt, Dl.gGe, Dl.gEq, Dl.gNe, Dl.gIsN, Dl.gNotN, Dl.isN, Dl.gIx, Dl.gLen, Dl.gTupOf, Dl.gListOf, Dl.gSum, Dl.gRep1, Dl.gInt, Dl.gAll, Dl.gNeg, Dl.xF, Dl.wZip2, Dl.wZipS, Dl.sAugS, Dl.sExt, Dl.sNewU, Dl.sPutU, Dl.wTupU, Dl.gRev, Dl.gIn, Dl.gNotIn, Dl.wLenS, Dl.uVar, Dl.uD, Dl.wGetU, Dl.wInU, Dl.gDictP, Dl.gSortS, Dl.gSortSet, Dl.wReprU, Dl.wReprL, Dl.gReprU, Dl.sRaise, Dl.mkD1, Dl.mkD2, Dl.sCallX, Dl.sRetX, Dl.sSetX, List.map_cons, List.map_nil, List.length_cons, List.length_nil, List.replicate_succ, List.replicate_zero, List.cons_append, List.nil_append, List.set_cons_zero, List.set_cons_succ, List.getElem?_cons_zero, List.getElem?_cons_succ, if_true, if_false, Bool.false_eq_true, Bool.not_true, Bool.not_false, reduceIte, Nat.reduceAdd, Nat.reduceSub]
    refine ⟨by decide, (q, names6), rfl, by omega, hq2, names_nd, by decide, fun val hval => ?_⟩
    refine hk _ [x0, some .pen, some (.d d), some (.d (.int q)), some (.d (.int l)), some (.d (polyD p)), some (.d (Dl.dicD (asgG names6 val))), x7, x8, x9, x10, x11, x12, x13, x14, x15] rfl ?_
    clear hk k
    dsimp only [Dl.dTup, Dl.dCons, Dl.dName, Dl.dNil, Dl.sNext, List.set_cons_zero, List.set_cons_succ]
    refine S_seq ?_
    refine S_set fun k hk => ?_
    try simp only [Dl.sSeq, Dl.sCut, Dl.sNext, Dl.sNever, Dl.sIf, Dl.sExpr, Dl.sRet, Dl.sRetF, Dl.sRetO, Dl.sAsg, Dl.sSet, Dl.sSetF, Dl.sFrz, Dl.sMove, Dl.sAug, Dl.sApp, Dl.sPut, Dl.sFor, Dl.sPar, Dl.wVar, Dl.wVarH, Dl.wC, Dl.wOp, Dl.wOpF, Dl.gB, Dl.wAnd, Dl.wOr, Dl.wNot, Dl.wAndV, Dl.wOrV, Dl.wNotV, Dl.wIf, Dl.wChain, Dl.vD, Dl.vVar, Dl.aNil, Dl.aCons, Dl.lNil, Dl.lCons, Dl.lStar, Dl.wTup, Dl.wLst, Dl.dName, Dl.dNil, Dl.dCons, Dl.dTup, Dl.wUn, Dl.wUnF, Dl.wIsi, Dl.isD, Dl.w2I, Dl.wCall, Dl.wCallF, Dl.wCallK, Dl.rD, Dl.rF, Dl.mkS, Dl.iSeq, Dl.iTupl, Dl.iAny, Dl.iRg1, Dl.iRg2, Dl.iRev, Dl.rg1, Dl.rg2, Dl.iEn, Dl.iZp, Dl.iStrD, Dl.wLc, Dl.wipeE, Dl.wYes, Dl.wSl, Dl.wSlF, Dl.oNone, Dl.oSome, Dl.gSl, Dl.gAdd, Dl.gCat, Dl.gRep, Dl.gSub, Dl.gMul, Dl.gMod, Dl.gDiv, Dl.gPow, Dl.gLt, Dl.gLe, Dl.gGt, Dl.gGe, Dl.gEq, Dl.gNe, Dl.gIsN, Dl.gNotN, Dl.isN, Dl.gIx, Dl.gLen, Dl.gTupOf, Dl.gListOf, Dl.gSum, Dl.gRep1, Dl.gInt, Dl.gAll, Dl.gNeg, Dl.xF, Dl.wZip2, Dl.wZipS, Dl.sAugS, Dl.sExt, Dl.sNewU, Dl.sPutU, Dl.wTupU, Dl.gRev, Dl.gIn, Dl.gNotIn, Dl.wLenS, Dl.uVar, Dl.uD, Dl.wGetU, Dl.wInU, Dl.gDictP, Dl.gSortS, Dl.gSortSet, Dl.wReprU, Dl.wReprL, Dl.gReprU, Dl.sRaise, Dl.mkD1, Dl.mkD2, Dl.sCallX, Dl.sRetX, Dl.sSetX, List.map_cons, List.map_nil, List.length_cons, List.length_nil, List.replicate_succ, List.replicate_zero, List.cons_append, List.nil_append, List.set_cons_zero, List.set_cons_succ, List.getElem?_cons_zero, List.getElem?_cons_succ, if_true, if_false, Bool.false_eq_true, Bool.not_true, Bool.not_false, reduceIte, Nat.reduceAdd, Nat.reduceSub]
    refine ⟨(q, l), rfl, by omega, by omega, by omega, fun us hul hub => ?_⟩
    refine hk _ [x0, some .pen, some (.d d), some (.d (.int q)), some (.d (.int l)), some (.d (polyD p)), some (.d (Dl.dicD (asgG names6 val))), some (.d (rowD us)), x8, x9, x10, x11, x12, x13, x14, x15] rfl ?_
    clear hk k
    dsimp only [Dl.dTup, Dl.dCons, Dl.dName, Dl.dNil, Dl.sNext, List.set_cons_zero, List.set_cons_succ]
    refine S_seq ?_
    refine S_set fun k hk => ?_
    try simp only [Dl.sSeq, Dl.sCut, Dl.sNext, Dl.sNever, Dl.sIf, Dl.sExpr, Dl.sRet, Dl.sRetF, Dl.sRetO, Dl.sAsg, Dl.sSet, Dl.sSetF, Dl.sFrz, Dl.sMove, Dl.sAug, Dl.sApp, Dl.sPut, Dl.sFor, Dl.sPar, Dl.wVar, Dl.wVarH, Dl.wC, Dl.wOp, Dl.wOpF, Dl.gB, Dl.wAnd, Dl.wOr, Dl.wNot, Dl.wAndV, Dl.wOrV, Dl.wNotV, Dl.wIf, Dl.wChain, Dl.vD, Dl.vVar, Dl.aNil, Dl.aCons, Dl.lNil, Dl.lCons, Dl.lStar, Dl.wTup, Dl.wLst, Dl.dName, Dl.dNil, Dl.dCons, Dl.dTup, Dl.wUn, Dl.wUnF, Dl.wIsi, Dl.isD, Dl.w2I, Dl.wCall, Dl.wCallF, Dl.wCallK, Dl.rD, Dl.rF, Dl.mkS, Dl.iSeq, Dl.iTupl, Dl.iAny, Dl.iRg1, Dl.iRg2, Dl.iRev, Dl.rg1, Dl.rg2, Dl.iEn, Dl.iZp, Dl.iStrD, Dl.wLc, Dl.wipeE, Dl.wYes, Dl.wSl, Dl.wSlF, Dl.oNone, Dl.oSome, Dl.gSl, Dl.gAdd, Dl.gCat, Dl.gRep, Dl.gSub, Dl.gMul, Dl.gMod, Dl.gDiv, Dl.gPow, Dl.gLt, Dl.gLe, Dl.gGt, Dl.gGe, Dl.gEq, Dl.gNe, Dl.gIsN, Dl.gNotN, Dl.isN, Dl.gIx, Dl.gLen, Dl.gTupOf, Dl.gListOf, Dl.gSum, Dl.gRep1, Dl.gInt, Dl.gAll, Dl.gNeg, Dl.xF, Dl.wZip2, Dl.wZipS, Dl.sAugS, Dl.sExt, Dl.sNewU, Dl.sPutU, Dl.wTupU, Dl.gRev, Dl.gIn, Dl.gNotIn, Dl.wLenS, Dl.uVar, Dl.uD, Dl.wGetU, Dl.wInU, Dl.gDictP, Dl.gSortS, Dl.gSortSet, Dl.wReprU, Dl.wReprL, Dl.gReprU, Dl.sRaise, Dl.mkD1, Dl.mkD2, Dl.sCallX, Dl.sRetX, Dl.sSetX, List.map_cons, List.map_nil, List.length_cons, List.length_nil, List.replicate_succ, List.replicate_zero, List.cons_append, List.nil_append, List.set_cons_zero, List.set_cons_succ, List.getElem?_cons_zero, List.getElem?_cons_succ, if_true, if_false, Bool.false_eq_true, Bool.not_true, Bool.not_false, reduceIte, Nat.reduceAdd, Nat.reduceSub]
    refine ⟨sm_i (by omega) (by omega), lc_sz (by decide), lcW_rngA (fun _ r => ∃ z : Int, r = termD (z, []) ∧ 1 ≤ z ∧ z < q) (fun j ok skip hj h => ?_) fun rs hrs hr => ?_⟩
    · try simp only [Dl.sSeq, Dl.sCut, Dl.sNext, Dl.sNever, Dl.sIf, Dl.sExpr, Dl.sRet, Dl.sRetF, Dl.sRetO, Dl.sAsg, Dl.sSet, Dl.sSetF, Dl.sFrz, Dl.sMove, Dl.sAug, Dl.sApp, Dl.sPut, Dl.sFor, Dl.sPar, Dl.wVar, Dl.wVarH, Dl.wC, Dl.wOp, Dl.wOpF, Dl.gB, Dl.wAnd, Dl.wOr, Dl.wNot, Dl.wAndV, Dl.wOrV, Dl.wNotV, Dl.wIf, Dl.wChain, Dl.vD, Dl.vVar, Dl.aNil, Dl.aCons, Dl.lNil, Dl.lCons, Dl.lStar, Dl.wTup, Dl.wLst, Dl.dName, Dl.dNil, Dl.dCons, Dl.dTup, Dl.wUn, Dl.wUnF, Dl.wIsi, Dl.isD, Dl.w2I, Dl.wCall, Dl.wCallF, Dl.wCallK, Dl.rD, Dl.rF, Dl.mkS, Dl.iSeq, Dl.iTupl, Dl.iAny, Dl.iRg1, Dl.iRg2, Dl.iRev, Dl.rg1, Dl.rg2, Dl.iEn, Dl.iZp, Dl.iStrD, Dl.wLc, Dl.wipeE, Dl.wYes, Dl.wSl, Dl.wSlF, Dl.oNone, Dl.oSome, Dl.gSl, Dl.gAdd, Dl.gCat, Dl.gRep, Dl.gSub, Dl.gMul, Dl.gMod, Dl.gDiv, Dl.gPow, Dl.gLt, Dl.gLe, Dl.gGt, Dl.gGe, Dl.gEq, Dl.gNe, Dl.gIsN, Dl.gNotN, Dl.isN, Dl.gIx, Dl.gLen, Dl.gTupOf, Dl.gListOf, Dl.gSum, Dl.gRep1, Dl.gInt, Dl.gAll, Dl.gNeg, Dl.xF, Dl.wZip2, Dl.wZipS, Dl.sAugS, Dl.sExt, Dl.sNewU, Dl.sPutU, Dl.wTupU, Dl.gRev, Dl.gIn, Dl.gNotIn, Dl.wLenS, Dl.uVar, Dl.uD, Dl.wGetU, Dl.wInU, Dl.gDictP, Dl.gSortS, Dl.gSortSet, Dl.wReprU, Dl.wReprL, Dl.gReprU, Dl.sRaise, Dl.mkD1, Dl.mkD2, Dl.sCallX, Dl.sRetX, Dl.sSetX, List.map_cons, List.map_nil, List.length_cons, List.length_nil, List.replicate_succ, List.replicate_zero, List.cons_append, List.nil_append, List.set_cons_zero, List.set_cons_succ, List.getElem?_cons_zero, List.getElem?_cons_succ, if_true, if_false, Bool.false_eq_true, Bool.not_true, Bool.not_false, reduceIte, Nat.reduceAdd, Nat.reduceSub]
      refine ⟨q - 1, rfl, by omega, Nat.lt_of_le_of_lt (show (q - 1).natAbs ≤ 1000 by omega) (by decide), fun r r0 r1 => ?_⟩
      try simp only [Dl.sSeq, Dl.sCut, Dl.sNext, Dl.sNever, Dl.sIf, Dl.sExpr, Dl.sRet, Dl.sRetF, Dl.sRetO, Dl.sAsg, Dl.sSet, Dl.sSetF, Dl.sFrz, Dl.sMove, Dl.sAug, Dl.sApp, Dl.sPut, Dl.sFor, Dl.sPar, Dl.wVar, Dl.wVarH, Dl.wC, Dl.wOp, Dl.wOpF, Dl.gB, Dl.wAnd, Dl.wOr, Dl.wNot, Dl.wAndV, Dl.wOrV, Dl.wNotV, Dl.wIf, Dl.wChain, Dl.vD, Dl.vVar, Dl.aNil, Dl.aCons, Dl.lNil, Dl.lCons, Dl.lStar, Dl.wTup, Dl.wLst, Dl.dName, Dl.dNil, Dl.dCons, Dl.dTup, Dl.wUn, Dl.wUnF, Dl.wIsi, Dl.isD, Dl.w2I, Dl.wCall, Dl.wCallF, Dl.wCallK, Dl.rD, Dl.rF, Dl.mkS, Dl.iSeq, Dl.iTupl, Dl.iAny, Dl.iRg1, Dl.iRg2, Dl.iRev, Dl.rg1, Dl.rg2, Dl.iEn, Dl.iZp, Dl.iStrD, Dl.wLc, Dl.wipeE, Dl.wYes, Dl.wSl, Dl.wSlF, Dl.oNone, Dl.oSome, Dl.gSl, Dl.gAdd, Dl.gCat, Dl.gRep, Dl.gSub, Dl.gMul, Dl.gMod, Dl.gDiv, Dl.gPow, Dl.gLt, Dl.gLe, Dl.gGt, Dl.gGe, Dl.gEq, Dl.gNe, Dl.gIsN, Dl.gNotN, Dl.isN, Dl.gIx, Dl.gLen, Dl.gTupOf, Dl.gListOf, Dl.gSum, Dl.gRep1, Dl.gInt, Dl.gAll, Dl.gNeg, Dl.xF, Dl.wZip2, Dl.wZipS, Dl.sAugS, Dl.sExt, Dl.sNewU, Dl.sPutU, Dl.wTupU, Dl.gRev, Dl.gIn, Dl.gNotIn, Dl.wLenS, Dl.uVar, Dl.uD, Dl.wGetU, Dl.wInU, Dl.gDictP, Dl.gSortS, Dl.gSortSet, Dl.wReprU, Dl.wReprL, Dl.gReprU, Dl.sRaise, Dl.mkD1, Dl.mkD2, Dl.sCallX, Dl.sRetX, Dl.sSetX, List.map_cons, List.map_nil, List.length_cons, List.length_nil, List.replicate_succ, List.replicate_zero, List.cons_append, List.nil_append, List.set_cons_zero, List.set_cons_succ, List.getElem?_cons_zero, List.getElem?_cons_succ, if_true, if_false, Bool.false_eq_true, Bool.not_true, Bool.not_false, reduceIte, Nat.reduceAdd, Nat.reduceSub]
      exact ⟨Nat.zero_le _, by decide, h _ ⟨1 + r, rfl, by omega, by omega⟩⟩
    obtain ⟨ks, rfl, hkl, hks⟩ := terms_of hr
    have hk3 : ks.length = 3 := by rw [hkl, hrs]; rfl
    clear hr hrs hkl
    refine hk _ [x0, some .pen, some (.d d), some (.d (.int q)), some (.d (.int l)), some (.d (polyD p)), some (.d (Dl.dicD (asgG names6 val))), some (.d (rowD us)), some (.d (polyD ks)), x9, x10, x11, x12, x13, x14, x15] rfl ?_
    clear hk k
    dsimp only [Dl.dTup, Dl.dCons, Dl.dName, Dl.dNil, Dl.sNext, List.set_cons_zero, List.set_cons_succ]
    have hval2 : ∀ n, 0 ≤ val n ∧ val n ≤ 1000 := fun n => by have := hval n; omega
    have hub2 : ∀ u ∈ us, 0 ≤ u ∧ u ≤ 1000 := fun u hu => by have := hub u hu; omega
    have has : ∀ {r : List Term} {ms : List Str} {vs : List Int}, PolyOk q l r → (∀ n, (Str.ofString "input", (Sum.inr n : Key)) ∈ cellsP r → n ∈ ms) → (∀ u ∈ vs, 0 ≤ u ∧ u ≤ 1000) → Has l (asgG ms val) val (us ++ vs) (cellsP r) := fun {r ms vs} hr hm hv =>
      ⟨fun c hc => by obtain ⟨t, ht, h⟩ := List.mem_flatMap.mp hc; exact (hr t ht).2.2.2 c h, fun n hn => asg_val (hm n hn), hval2, fun u hu => (List.mem_append.mp hu).elim (hub2 u) (hv u), by rw [List.length_append]; omega⟩
    have in6 : ∀ {r : List Term}, PolyOk q l r → ∀ n, (Str.ofString "input", (Sum.inr n : Key)) ∈ cellsP r → n ∈ names6 := fun {r} hr n hn => by
      obtain ⟨t, ht, h⟩ := List.mem_flatMap.mp hn
      rcases (hr t ht).2.2.2 _ h with ⟨_, m, e, hm⟩ | ⟨_, i, e, _⟩
      · cases e; exact hm
      · cases e
    have inm : ∀ {r : List Term} (n : Str), PolyOk q l r → (n ∈ inNames r ↔ (Str.ofString "input", (Sum.inr n : Key)) ∈ cellsP r) := fun {r} n hr => by
      unfold inNames
      rw [List.mem_filterMap]
      constructor
      · rintro ⟨c, hc, e⟩
        obtain ⟨t, ht, h⟩ := List.mem_flatMap.mp hc
        have := (inName_ok ((hr t ht).2.2.2 c h) e).2
        rwa [this] at hc
      · exact fun h => ⟨_, h, inName_in n⟩
    have cok : ∀ {r : List Term}, PolyOk q l r → ∀ c ∈ cellsP r, CellOk l c := fun {r} hr c hc => by obtain ⟨t, ht, h⟩ := List.mem_flatMap.mp hc; exact (hr t ht).2.2.2 c h
    have all : ∀ r ∈ [p, [], ks, p ++ ks], PolyOk q l r ∧ r.length ≤ 80 := by
      intro r hr
      simp only [List.mem_cons, List.not_mem_nil, or_false] at hr
      rcases hr with rfl | rfl | rfl | rfl
      · exact ⟨hp, by omega⟩
      · exact ⟨(fun t ht => by cases ht), Nat.zero_le _⟩
      · exact ⟨hks l, by omega⟩
      · exact ⟨fun t ht => (List.mem_append.mp ht).elim (hp t) (hks l t), by rw [List.length_append]; omega⟩
    refine S_seq ?_
    refine S_for ([p, [], ks, p ++ ks].map polyD) (fun _ E => ∃ x9 x10 x11 x12 x13 x14 x15, E = [x0, some .pen, some (.d d), some (.d (.int q)), some (.d (.int l)), some (.d (polyD p)), some (.d (Dl.dicD (asgG names6 val))), some (.d (rowD us)), some (.d (polyD ks)), x9, x10, x11, x12, x13, x14, x15]) (fun k hk => ?_) ⟨_, _, _, _, _, _, _, rfl⟩ ?_ ?_
    · unfold polyD
      try simp only [Dl.sSeq, Dl.sCut, Dl.sNext, Dl.sNever, Dl.sIf, Dl.sExpr, Dl.sRet, Dl.sRetF, Dl.sRetO, Dl.sAsg, Dl.sSet, Dl.sSetF, Dl.sFrz, Dl.sMove, Dl.sAug, Dl.sApp, Dl.sPut, Dl.sFor, Dl.sPar, Dl.wVar, Dl.wVarH, Dl.wC, Dl.wOp, Dl.wOpF, Dl.gB, Dl.wAnd, Dl.wOr, Dl.wNot, Dl.wAndV, Dl.wOrV, Dl.wNotV, Dl.wIf, Dl.wChain, Dl.vD, Dl.vVar, Dl.aNil, Dl.aCons, Dl.lNil, Dl.lCons, Dl.lStar, Dl.wTup, Dl.wLst, Dl.dName, Dl.dNil, Dl.dCons, Dl.dTup, Dl.wUn, Dl.wUnF, Dl.wIsi, Dl.isD, Dl.w2I, Dl.wCall, Dl.wCallF, Dl.wCallK, Dl.rD, Dl.rF, Dl.mkS, Dl.iSeq, Dl.iTupl, Dl.iAny, Dl.iRg1, Dl.iRg2, Dl.iRev, Dl.rg1, Dl.rg2, Dl.iEn, Dl.iZp, Dl.iStrD, Dl.wLc, Dl.wipeE, Dl.wYes, Dl.wSl, Dl.wSlF, Dl.oNone, Dl.oSome, Dl.gSl, Dl.gAdd, Dl.gCat, Dl.gRep, Dl.gSub, Dl.gMul, Dl.gMod, Dl.gDiv, Dl.gPow, Dl.gLt, Dl.gLe, Dl.gGt, Dl.gGe, Dl.gEq, Dl.gNe, Dl.gIsN, Dl.gNotN, Dl.isN, Dl.gIx, Dl.gLen, Dl.gTupOf, Dl.gListOf, Dl.gSum, Dl.gRep1, Dl.gInt, Dl.gAll, Dl.gNeg, Dl.xF, Dl.wZip2, Dl.wZipS, Dl.sAugS, Dl.sExt, Dl.sNewU, Dl.sPutU, Dl.wTupU, Dl.gRev, Dl.gIn, Dl.gNotIn, Dl.wLenS, Dl.uVar, Dl.uD, Dl.wGetU, Dl.wInU, Dl.gDictP, Dl.gSortS, Dl.gSortSet, Dl.wReprU, Dl.wReprL, Dl.gReprU, Dl.sRaise, Dl.mkD1, Dl.mkD2, Dl.sCallX, Dl.sRetX, Dl.sSetX, List.map_cons, List.map_nil, List.length_cons, List.length_nil, List.replicate_succ, List.replicate_zero, List.cons_append, List.nil_append, List.set_cons_zero, List.set_cons_succ, List.getElem?_cons_zero, List.getElem?_cons_succ, if_true, if_false, Bool.false_eq_true, Bool.not_true, Bool.not_false, reduceIte, Nat.reduceAdd, Nat.reduceSub]
      simp only [polyD_cat]
      refine ⟨Nat.zero_le _, by simp; exact line_of (by omega), by decide, hk⟩
    · rintro j dp E' hd ⟨x9, x10, x11, x12, x13, x14, x15, rfl⟩
      obtain ⟨r, hr, rfl⟩ : ∃ r, r ∈ [p, [], ks, p ++ ks] ∧ polyD r = dp := by
        have := List.mem_of_getElem? hd
        obtain ⟨r, hr, e⟩ := List.mem_map.mp this
        exact ⟨r, hr, e⟩
      obtain ⟨hrp, hrl⟩ := all r hr
      clear hr hd all
      have sm : Dl.SmU 5 100000 (.list [polyD r, Dl.dicD (asgG names6 val), rowD us]) := by
        refine (Dl.smu_lst3 (D := 4) (W := 30000) (((sml_poly hq2 (by omega) hrp).u).mono (Nat.le_refl _) (by omega)) (((Dl.smu_dic (D := 0) (W := 21) fun p hp => ?_)).mono (by decide) (by unfold asgG; rw [List.length_map]; decide)) (((sml_row (r := us) fun x hx => by have := hub2 x hx; omega).u).mono (by decide) (by omega))).mono (by decide) (by decide)
        obtain ⟨n, hn, rfl⟩ := List.mem_map.mp hp
        exact ⟨n, rfl, name_okc hn, Nat.le_trans (name_sz hn) (by decide), (sml_int (hval n).1 (by have := hval n; omega)).u⟩
      have hasr := has (vs := []) hrp (in6 hrp) (by simp)
      rw [List.append_nil] at hasr
      have r4 : ∀ t ∈ r, t.2.length ≤ 4 := fun t ht => (hrp t ht).2.2.1
      obtain ⟨z, ez, z0, z1⟩ : ∃ z, polyV val us r % q = z ∧ 0 ≤ z ∧ z < q := ⟨_, rfl, Int.emod_nonneg _ (by omega), Int.emod_lt_of_pos _ (by omega)⟩
      have smz : Sml 0 21 (.int z) := sml_int z0 (by omega)
      have lk : ∀ ys : List Str, (∀ x, x ∈ ys ↔ x ∈ inNames r) → lackD (asgG names6 val) ys = none := fun ys h => lack_asg fun y hy => in6 hrp y ((inm y hrp).mp ((h y).mp hy))
      dsimp only [Dl.dTup, Dl.dCons, Dl.dName, Dl.dNil, Dl.sNext, List.set_cons_zero, List.set_cons_succ]
      refine S_seq ?_
      refine S_set fun k hk => ?_
      try simp only [Dl.sSeq, Dl.sCut, Dl.sNext, Dl.sNever, Dl.sIf, Dl.sExpr, Dl.sRet, Dl.sRetF, Dl.sRetO, Dl.sAsg, Dl.sSet, Dl.sSetF, Dl.sFrz, Dl.sMove, Dl.sAug, Dl.sApp, Dl.sPut, Dl.sFor, Dl.sPar, Dl.wVar, Dl.wVarH, Dl.wC, Dl.wOp, Dl.wOpF, Dl.gB, Dl.wAnd, Dl.wOr, Dl.wNot, Dl.wAndV, Dl.wOrV, Dl.wNotV, Dl.wIf, Dl.wChain, Dl.vD, Dl.vVar, Dl.aNil, Dl.aCons, Dl.lNil, Dl.lCons, Dl.lStar, Dl.wTup, Dl.wLst, Dl.dName, Dl.dNil, Dl.dCons, Dl.dTup, Dl.wUn, Dl.wUnF, Dl.wIsi, Dl.isD, Dl.w2I, Dl.wCall, Dl.wCallF, Dl.wCallK, Dl.rD, Dl.rF, Dl.mkS, Dl.iSeq, Dl.iTupl, Dl.iAny, Dl.iRg1, Dl.iRg2, Dl.iRev, Dl.rg1, Dl.rg2, Dl.iEn, Dl.iZp, Dl.iStrD, Dl.wLc, Dl.wipeE, Dl.wYes, Dl.wSl, Dl.wSlF, Dl.oNone, Dl.oSome, Dl.gSl, Dl.gAdd, Dl.gCat, Dl.gRep, Dl.gSub, Dl.gMul, Dl.gMod, Dl.gDiv, Dl.gPow, Dl.gLt, Dl.gLe, Dl.gGt, Dl.gGe, Dl.gEq, Dl.gNe, Dl.gIsN, Dl.gNotN, Dl.isN, Dl.gIx, Dl.gLen, Dl.gTupOf, Dl.gListOf, Dl.gSum, Dl.gRep1, Dl.gInt, Dl.gAll, Dl.gNeg, Dl.xF, Dl.wZip2, Dl.wZipS, Dl.sAugS, Dl.sExt, Dl.sNewU, Dl.sPutU, Dl.wTupU, Dl.gRev, Dl.gIn, Dl.gNotIn, Dl.wLenS, Dl.uVar, Dl.uD, Dl.wGetU, Dl.wInU, Dl.gDictP, Dl.gSortS, Dl.gSortSet, Dl.wReprU, Dl.wReprL, Dl.gReprU, Dl.sRaise, Dl.mkD1, Dl.mkD2, Dl.sCallX, Dl.sRetX, Dl.sSetX, List.map_cons, List.map_nil, List.length_cons, List.length_nil, List.replicate_succ, List.replicate_zero, List.cons_append, List.nil_append, List.set_cons_zero, List.set_cons_succ, List.getElem?_cons_zero, List.getElem?_cons_succ, if_true, if_false, Bool.false_eq_true, Bool.not_true, Bool.not_false, reduceIte, Nat.reduceAdd, Nat.reduceSub]
      have nl : Dl.nlks [polyD r, Dl.dicD (asgG names6 val), rowD us] = true := by
        show (Dl.nlk _ && (Dl.nlk _ && (Dl.nlk _ && true))) = true
        rw [nlk_poly, nlk_asg, nlk_row]; rfl
      refine ⟨by decide, nl, sm.shw, ?_⟩
      refine hk _ [x0, some .pen, some (.d d), some (.d (.int q)), some (.d (.int l)), some (.d (polyD p)), some (.d (Dl.dicD (asgG names6 val))), some (.d (rowD us)), some (.d (polyD ks)), x9, some (.d (polyD r)), some (.d (.str (PyData.list [polyD r, Dl.dicD (asgG names6 val), rowD us]).shown)), x12, x13, x14, x15] rfl ?_
      clear hk k
      dsimp only [Dl.dTup, Dl.dCons, Dl.dName, Dl.dNil, Dl.sNext, List.set_cons_zero, List.set_cons_succ]
      refine S_seq ?_
      refine S_set fun k hk => ?_
      try simp only [Dl.sSeq, Dl.sCut, Dl.sNext, Dl.sNever, Dl.sIf, Dl.sExpr, Dl.sRet, Dl.sRetF, Dl.sRetO, Dl.sAsg, Dl.sSet, Dl.sSetF, Dl.sFrz, Dl.sMove, Dl.sAug, Dl.sApp, Dl.sPut, Dl.sFor, Dl.sPar, Dl.wVar, Dl.wVarH, Dl.wC, Dl.wOp, Dl.wOpF, Dl.gB, Dl.wAnd, Dl.wOr, Dl.wNot, Dl.wAndV, Dl.wOrV, Dl.wNotV, Dl.wIf, Dl.wChain, Dl.vD, Dl.vVar, Dl.aNil, Dl.aCons, Dl.lNil, Dl.lCons, Dl.lStar, Dl.wTup, Dl.wLst, Dl.dName, Dl.dNil, Dl.dCons, Dl.dTup, Dl.wUn, Dl.wUnF, Dl.wIsi, Dl.isD, Dl.w2I, Dl.wCall, Dl.wCallF, Dl.wCallK, Dl.rD, Dl.rF, Dl.mkS, Dl.iSeq, Dl.iTupl, Dl.iAny, Dl.iRg1, Dl.iRg2, Dl.iRev, Dl.rg1, Dl.rg2, Dl.iEn, Dl.iZp, Dl.iStrD, Dl.wLc, Dl.wipeE, Dl.wYes, Dl.wSl, Dl.wSlF, Dl.oNone, Dl.oSome, Dl.gSl, Dl.gAdd, Dl.gCat, Dl.gRep, Dl.gSub, Dl.gMul, Dl.gMod, Dl.gDiv, Dl.gPow, Dl.gLt, Dl.gLe, Dl.gGt, Dl.gGe, Dl.gIsN, Dl.gNotN, Dl.isN, Dl.gIx, Dl.gLen, Dl.gTupOf, Dl.gListOf, Dl.gSum, Dl.gInt, Dl.gAll, Dl.gNeg, Dl.xF, Dl.wZip2, Dl.wZipS, Dl.sAugS, Dl.sExt, Dl.sNewU, Dl.sPutU, Dl.wTupU, Dl.gRev, Dl.gIn, Dl.gNotIn, Dl.wLenS, Dl.uVar, Dl.uD, Dl.wGetU, Dl.wInU, Dl.gDictP, Dl.gSortS, Dl.gSortSet, Dl.wReprU, Dl.wReprL, Dl.gReprU, Dl.sRaise, Dl.mkD1, Dl.mkD2, Dl.sCallX, Dl.sRetX, Dl.sSetX, List.map_cons, List.map_nil, List.length_cons, List.length_nil, List.replicate_succ, List.replicate_zero, List.cons_append, List.nil_append, List.set_cons_zero, List.set_cons_succ, List.getElem?_cons_zero, List.getElem?_cons_succ, if_true, if_false, Bool.false_eq_true, Bool.not_true, Bool.not_false, reduceIte, Nat.reduceAdd, Nat.reduceSub]
      refine ⟨(r, q, l, asgG names6 val, val, us), rfl, by omega, hasr, ?_⟩
      rw [ez]
      try simp only [Dl.sSeq, Dl.sCut, Dl.sNext, Dl.sNever, Dl.sIf, Dl.sExpr, Dl.sRet, Dl.sRetF, Dl.sRetO, Dl.sAsg, Dl.sSet, Dl.sSetF, Dl.sFrz, Dl.sMove, Dl.sAug, Dl.sApp, Dl.sPut, Dl.sFor, Dl.sPar, Dl.wVar, Dl.wVarH, Dl.wC, Dl.wOp, Dl.wOpF, Dl.gB, Dl.wAnd, Dl.wOr, Dl.wNot, Dl.wAndV, Dl.wOrV, Dl.wNotV, Dl.wIf, Dl.wChain, Dl.vD, Dl.vVar, Dl.aNil, Dl.aCons, Dl.lNil, Dl.lCons, Dl.lStar, Dl.wTup, Dl.wLst, Dl.dName, Dl.dNil, Dl.dCons, Dl.dTup, Dl.wUn, Dl.wUnF, Dl.wIsi, Dl.isD, Dl.w2I, Dl.wCall, Dl.wCallF, Dl.wCallK, Dl.rD, Dl.rF, Dl.mkS, Dl.iSeq, Dl.iTupl, Dl.iAny, Dl.iRg1, Dl.iRg2, Dl.iRev, Dl.rg1, Dl.rg2, Dl.iEn, Dl.iZp, Dl.iStrD, Dl.wLc, Dl.wipeE, Dl.wYes, Dl.wSl, Dl.wSlF, Dl.oNone, Dl.oSome, Dl.gSl, Dl.gAdd, Dl.gCat, Dl.gRep, Dl.gSub, Dl.gMul, Dl.gMod, Dl.gDiv, Dl.gPow, Dl.gLt, Dl.gLe, Dl.gGt, Dl.gGe, Dl.gIsN, Dl.gNotN, Dl.isN, Dl.gIx, Dl.gLen, Dl.gTupOf, Dl.gListOf, Dl.gSum, Dl.gInt, Dl.gAll, Dl.gNeg, Dl.xF, Dl.wZip2, Dl.wZipS, Dl.sAugS, Dl.sExt, Dl.sNewU, Dl.sPutU, Dl.wTupU, Dl.gRev, Dl.gIn, Dl.gNotIn, Dl.wLenS, Dl.uVar, Dl.uD, Dl.wGetU, Dl.wInU, Dl.gDictP, Dl.gSortS, Dl.gSortSet, Dl.wReprU, Dl.wReprL, Dl.gReprU, Dl.sRaise, Dl.mkD1, Dl.mkD2, Dl.sCallX, Dl.sRetX, Dl.sSetX, List.map_cons, List.map_nil, List.length_cons, List.length_nil, List.replicate_succ, List.replicate_zero, List.cons_append, List.nil_append, List.set_cons_zero, List.set_cons_succ, List.getElem?_cons_zero, List.getElem?_cons_succ, if_true, if_false, Bool.false_eq_true, Bool.not_true, Bool.not_false, reduceIte, Nat.reduceAdd, Nat.reduceSub]
      refine rep_I (by omega) ?_
      refine hk _ [x0, some .pen, some (.d d), some (.d (.int q)), some (.d (.int l)), some (.d (polyD p)), some (.d (Dl.dicD (asgG names6 val))), some (.d (rowD us)), some (.d (polyD ks)), x9, some (.d (polyD r)), some (.d (.str (PyData.list [polyD r, Dl.dicD (asgG names6 val), rowD us]).shown)), some (.d (.str (PyData.int z).shown)), x13, x14, x15] rfl ?_
      clear hk k
      dsimp only [Dl.dTup, Dl.dCons, Dl.dName, Dl.dNil, Dl.sNext, List.set_cons_zero, List.set_cons_succ]
      have ev : ∀ Q0 : SV → Prop, Q0 (.d (.int z)) → Dl.DSpX.calm (S_evaluate_polynomial C_MissingVariable) [.d (polyD r), .d (.int q), .d (Dl.dicD (asgG names6 val)), .d (rowD us)] Q0 := fun Q0 hQ =>
        ⟨(r, q, l, asgG names6 val, val, us), rfl, by omega, by omega, r4, cok hrp, fun ys nd mem srt => ⟨fun _ => ⟨hasr, by rw [ez]; exact hQ⟩, fun n e => by rw [lk ys mem] at e; cases e⟩⟩
      refine S_seq ?_
      refine S_no (fun k hk => ?_) ?_
      · try simp only [Dl.sSeq, Dl.sCut, Dl.sNext, Dl.sNever, Dl.sIf, Dl.sExpr, Dl.sRet, Dl.sRetF, Dl.sRetO, Dl.sAsg, Dl.sSet, Dl.sSetF, Dl.sFrz, Dl.sMove, Dl.sAug, Dl.sApp, Dl.sPut, Dl.sFor, Dl.sPar, Dl.wVar, Dl.wVarH, Dl.wC, Dl.wOp, Dl.wOpF, Dl.gB, Dl.wAnd, Dl.wOr, Dl.wNot, Dl.wAndV, Dl.wOrV, Dl.wNotV, Dl.wIf, Dl.wChain, Dl.vD, Dl.vVar, Dl.aNil, Dl.aCons, Dl.lNil, Dl.lCons, Dl.lStar, Dl.wTup, Dl.wLst, Dl.dName, Dl.dNil, Dl.dCons, Dl.dTup, Dl.wUn, Dl.wUnF, Dl.wIsi, Dl.isD, Dl.w2I, Dl.wCall, Dl.wCallF, Dl.wCallK, Dl.rD, Dl.rF, Dl.mkS, Dl.iSeq, Dl.iTupl, Dl.iAny, Dl.iRg1, Dl.iRg2, Dl.iRev, Dl.rg1, Dl.rg2, Dl.iEn, Dl.iZp, Dl.iStrD, Dl.wLc, Dl.wipeE, Dl.wYes, Dl.wSl, Dl.wSlF, Dl.oNone, Dl.oSome, Dl.gSl, Dl.gAdd, Dl.gCat, Dl.gRep, Dl.gSub, Dl.gMul, Dl.gMod, Dl.gDiv, Dl.gPow, Dl.gLt, Dl.gLe, Dl.gGt, Dl.gGe, Dl.gIsN, Dl.gNotN, Dl.isN, Dl.gIx, Dl.gLen, Dl.gTupOf, Dl.gListOf, Dl.gSum, Dl.gInt, Dl.gAll, Dl.gNeg, Dl.xF, Dl.wZip2, Dl.wZipS, Dl.sAugS, Dl.sExt, Dl.sNewU, Dl.sPutU, Dl.wTupU, Dl.gRev, Dl.gIn, Dl.gNotIn, Dl.wLenS, Dl.uVar, Dl.uD, Dl.wGetU, Dl.wInU, Dl.gDictP, Dl.gSortS, Dl.gSortSet, Dl.wReprU, Dl.wReprL, Dl.gReprU, Dl.sRaise, Dl.mkD1, Dl.mkD2, Dl.sCallX, Dl.sRetX, Dl.sSetX, List.map_cons, List.map_nil, List.length_cons, List.length_nil, List.replicate_succ, List.replicate_zero, List.cons_append, List.nil_append, List.set_cons_zero, List.set_cons_succ, List.getElem?_cons_zero, List.getElem?_cons_succ, if_true, if_false, Bool.false_eq_true, Bool.not_true, Bool.not_false, reduceIte, Nat.reduceAdd, Nat.reduceSub]
        refine ev _ ?_
        try simp only [Dl.sSeq, Dl.sCut, Dl.sNext, Dl.sNever, Dl.sIf, Dl.sExpr, Dl.sRet, Dl.sRetF, Dl.sRetO, Dl.sAsg, Dl.sSet, Dl.sSetF, Dl.sFrz, Dl.sMove, Dl.sAug, Dl.sApp, Dl.sPut, Dl.sFor, Dl.sPar, Dl.wVar, Dl.wVarH, Dl.wC, Dl.wOp, Dl.wOpF, Dl.gB, Dl.wAnd, Dl.wOr, Dl.wNot, Dl.wAndV, Dl.wOrV, Dl.wNotV, Dl.wIf, Dl.wChain, Dl.vD, Dl.vVar, Dl.aNil, Dl.aCons, Dl.lNil, Dl.lCons, Dl.lStar, Dl.wTup, Dl.wLst, Dl.dName, Dl.dNil, Dl.dCons, Dl.dTup, Dl.wUn, Dl.wUnF, Dl.wIsi, Dl.isD, Dl.w2I, Dl.wCall, Dl.wCallF, Dl.wCallK, Dl.rD, Dl.rF, Dl.mkS, Dl.iSeq, Dl.iTupl, Dl.iAny, Dl.iRg1, Dl.iRg2, Dl.iRev, Dl.rg1, Dl.rg2, Dl.iEn, Dl.iZp, Dl.iStrD, Dl.wLc, Dl.wipeE, Dl.wYes, Dl.wSl, Dl.wSlF, Dl.oNone, Dl.oSome, Dl.gSl, Dl.gAdd, Dl.gCat, Dl.gRep, Dl.gSub, Dl.gMul, Dl.gMod, Dl.gDiv, Dl.gPow, Dl.gLt, Dl.gLe, Dl.gGt, Dl.gGe, Dl.gIsN, Dl.gNotN, Dl.isN, Dl.gIx, Dl.gLen, Dl.gTupOf, Dl.gListOf, Dl.gSum, Dl.gInt, Dl.gAll, Dl.gNeg, Dl.xF, Dl.wZip2, Dl.wZipS, Dl.sAugS, Dl.sExt, Dl.sNewU, Dl.sPutU, Dl.wTupU, Dl.gRev, Dl.gIn, Dl.gNotIn, Dl.wLenS, Dl.uVar, Dl.uD, Dl.wGetU, Dl.wInU, Dl.gDictP, Dl.gSortS, Dl.gSortSet, Dl.wReprU, Dl.wReprL, Dl.gReprU, Dl.sRaise, Dl.mkD1, Dl.mkD2, Dl.sCallX, Dl.sRetX, Dl.sSetX, List.map_cons, List.map_nil, List.length_cons, List.length_nil, List.replicate_succ, List.replicate_zero, List.cons_append, List.nil_append, List.set_cons_zero, List.set_cons_succ, List.getElem?_cons_zero, List.getElem?_cons_succ, if_true, if_false, Bool.false_eq_true, Bool.not_true, Bool.not_false, reduceIte, Nat.reduceAdd, Nat.reduceSub]
        refine rep_I (by omega) ?_
        refine same_textN smz ?_
        exact hk
      dsimp only [Dl.dTup, Dl.dCons, Dl.dName, Dl.dNil, Dl.sNext, List.set_cons_zero, List.set_cons_succ]
      refine S_seq ?_
      refine S_set fun k hk => ?_
      try simp only [Dl.sSeq, Dl.sCut, Dl.sNext, Dl.sNever, Dl.sIf, Dl.sExpr, Dl.sRet, Dl.sRetF, Dl.sRetO, Dl.sAsg, Dl.sSet, Dl.sSetF, Dl.sFrz, Dl.sMove, Dl.sAug, Dl.sApp, Dl.sPut, Dl.sFor, Dl.sPar, Dl.wVar, Dl.wVarH, Dl.wC, Dl.wOp, Dl.wOpF, Dl.gB, Dl.wAnd, Dl.wOr, Dl.wNot, Dl.wAndV, Dl.wOrV, Dl.wNotV, Dl.wIf, Dl.wChain, Dl.vD, Dl.vVar, Dl.aNil, Dl.aCons, Dl.lNil, Dl.lCons, Dl.lStar, Dl.wTup, Dl.wLst, Dl.dName, Dl.dNil, Dl.dCons, Dl.dTup, Dl.wUn, Dl.wUnF, Dl.wIsi, Dl.isD, Dl.w2I, Dl.wCall, Dl.wCallF, Dl.wCallK, Dl.rD, Dl.rF, Dl.mkS, Dl.iSeq, Dl.iTupl, Dl.iAny, Dl.iRg1, Dl.iRg2, Dl.iRev, Dl.rg1, Dl.rg2, Dl.iEn, Dl.iZp, Dl.iStrD, Dl.wLc, Dl.wipeE, Dl.wYes, Dl.wSl, Dl.wSlF, Dl.oNone, Dl.oSome, Dl.gSl, Dl.gAdd, Dl.gCat, Dl.gRep, Dl.gSub, Dl.gMul, Dl.gMod, Dl.gDiv, Dl.gPow, Dl.gLt, Dl.gLe, Dl.gGt, Dl.gGe, Dl.gEq, Dl.gNe, Dl.gIsN, Dl.gNotN, Dl.isN, Dl.gIx, Dl.gLen, Dl.gTupOf, Dl.gListOf, Dl.gSum, Dl.gRep1, Dl.gInt, Dl.gAll, Dl.gNeg, Dl.xF, Dl.wZip2, Dl.wZipS, Dl.sAugS, Dl.sExt, Dl.sNewU, Dl.sPutU, Dl.wTupU, Dl.gRev, Dl.gIn, Dl.gNotIn, Dl.wLenS, Dl.uVar, Dl.uD, Dl.wGetU, Dl.wInU, Dl.gDictP, Dl.gSortS, Dl.gSortSet, Dl.wReprU, Dl.wReprL, Dl.gReprU, Dl.sRaise, Dl.mkD1, Dl.mkD2, Dl.sCallX, Dl.sRetX, Dl.sSetX, List.map_cons, List.map_nil, List.length_cons, List.length_nil, List.replicate_succ, List.replicate_zero, List.cons_append, List.nil_append, List.set_cons_zero, List.set_cons_succ, List.getElem?_cons_zero, List.getElem?_cons_succ, if_true, if_false, Bool.false_eq_true, Bool.not_true, Bool.not_false, reduceIte, Nat.reduceAdd, Nat.reduceSub]
      refine ev _ ?_
      refine hk _ [x0, some .pen, some (.d d), some (.d (.int q)), some (.d (.int l)), some (.d (polyD p)), some (.d (Dl.dicD (asgG names6 val))), some (.d (rowD us)), some (.d (polyD ks)), x9, some (.d (polyD r)), some (.d (.str (PyData.list [polyD r, Dl.dicD (asgG names6 val), rowD us]).shown)), some (.d (.str (PyData.int z).shown)), some (.d (.int z)), x14, x15] rfl ?_
      clear hk k
      dsimp only [Dl.dTup, Dl.dCons, Dl.dName, Dl.dNil, Dl.sNext, List.set_cons_zero, List.set_cons_succ]
      refine S_seq ?_
      refine S_no (fun k hk => ?_) ?_
      · try simp only [Dl.sSeq, Dl.sCut, Dl.sNext, Dl.sNever, Dl.sIf, Dl.sExpr, Dl.sRet, Dl.sRetF, Dl.sRetO, Dl.sAsg, Dl.sSet, Dl.sSetF, Dl.sFrz, Dl.sMove, Dl.sAug, Dl.sApp, Dl.sPut, Dl.sFor, Dl.sPar, Dl.wVar, Dl.wVarH, Dl.wC, Dl.wOp, Dl.wOpF, Dl.gB, Dl.wAnd, Dl.wOr, Dl.wNot, Dl.wAndV, Dl.wOrV, Dl.wNotV, Dl.wIf, Dl.wChain, Dl.vD, Dl.vVar, Dl.aNil, Dl.aCons, Dl.lNil, Dl.lCons, Dl.lStar, Dl.wTup, Dl.wLst, Dl.dName, Dl.dNil, Dl.dCons, Dl.dTup, Dl.wUn, Dl.wUnF, Dl.wIsi, Dl.isD, Dl.w2I, Dl.wCall, Dl.wCallF, Dl.wCallK, Dl.rD, Dl.rF, Dl.mkS, Dl.iSeq, Dl.iTupl, Dl.iAny, Dl.iRg1, Dl.iRg2, Dl.iRev, Dl.rg1, Dl.rg2, Dl.iEn, Dl.iZp, Dl.iStrD, Dl.wLc, Dl.wipeE, Dl.wYes, Dl.wSl, Dl.wSlF, Dl.oNone, Dl.oSome, Dl.gSl, Dl.gAdd, Dl.gCat, Dl.gRep, Dl.gSub, Dl.gMul, Dl.gMod, Dl.gDiv, Dl.gPow, Dl.gLt, Dl.gLe, Dl.gGt, Dl.gGe, Dl.gIsN, Dl.gNotN, Dl.isN, Dl.gIx, Dl.gLen, Dl.gTupOf, Dl.gListOf, Dl.gSum, Dl.gInt, Dl.gAll, Dl.gNeg, Dl.xF, Dl.wZip2, Dl.wZipS, Dl.sAugS, Dl.sExt, Dl.sNewU, Dl.sPutU, Dl.wTupU, Dl.gRev, Dl.gIn, Dl.gNotIn, Dl.wLenS, Dl.uVar, Dl.uD, Dl.wGetU, Dl.wInU, Dl.gDictP, Dl.gSortS, Dl.gSortSet, Dl.wReprU, Dl.wReprL, Dl.gReprU, Dl.sRaise, Dl.mkD1, Dl.mkD2, Dl.sCallX, Dl.sRetX, Dl.sSetX, List.map_cons, List.map_nil, List.length_cons, List.length_nil, List.replicate_succ, List.replicate_zero, List.cons_append, List.nil_append, List.set_cons_zero, List.set_cons_succ, List.getElem?_cons_zero, List.getElem?_cons_succ, if_true, if_false, Bool.false_eq_true, Bool.not_true, Bool.not_false, reduceIte, Nat.reduceAdd, Nat.reduceSub]
        refine rep_I (by omega) ?_
        refine same_textN smz ?_
        exact hk
      dsimp only [Dl.dTup, Dl.dCons, Dl.dName, Dl.dNil, Dl.sNext, List.set_cons_zero, List.set_cons_succ]
      refine S_no (fun k hk => ?_) ?_
      · try simp only [Dl.sSeq, Dl.sCut, Dl.sNext, Dl.sNever, Dl.sIf, Dl.sExpr, Dl.sRet, Dl.sRetF, Dl.sRetO, Dl.sAsg, Dl.sSet, Dl.sSetF, Dl.sFrz, Dl.sMove, Dl.sAug, Dl.sApp, Dl.sPut, Dl.sFor, Dl.sPar, Dl.wVar, Dl.wVarH, Dl.wC, Dl.wOp, Dl.wOpF, Dl.gB, Dl.wAnd, Dl.wOr, Dl.wNot, Dl.wAndV, Dl.wOrV, Dl.wNotV, Dl.wIf, Dl.wChain, Dl.vD, Dl.vVar, Dl.aNil, Dl.aCons, Dl.lNil, Dl.lCons, Dl.lStar, Dl.wTup, Dl.wLst, Dl.dName, Dl.dNil, Dl.dCons, Dl.dTup, Dl.wUn, Dl.wUnF, Dl.wIsi, Dl.isD, Dl.w2I, Dl.wCall, Dl.wCallF, Dl.wCallK, Dl.rD, Dl.rF, Dl.mkS, Dl.iSeq, Dl.iTupl, Dl.iAny, Dl.iRg1, Dl.iRg2, Dl.iRev, Dl.rg1, Dl.rg2, Dl.iEn, Dl.iZp, Dl.iStrD, Dl.wLc, Dl.wipeE, Dl.wYes, Dl.wSl, Dl.wSlF, Dl.oNone, Dl.oSome, Dl.gSl, Dl.gAdd, Dl.gCat, Dl.gRep, Dl.gSub, Dl.gMul, Dl.gMod, Dl.gDiv, Dl.gPow, Dl.gLt, Dl.gLe, Dl.gGt, Dl.gGe, Dl.gIsN, Dl.gNotN, Dl.isN, Dl.gIx, Dl.gLen, Dl.gTupOf, Dl.gListOf, Dl.gSum, Dl.gInt, Dl.gAll, Dl.gNeg, Dl.xF, Dl.wZip2, Dl.wZipS, Dl.sAugS, Dl.sExt, Dl.sNewU, Dl.sPutU, Dl.wTupU, Dl.gRev, Dl.gIn, Dl.gNotIn, Dl.wLenS, Dl.uVar, Dl.uD, Dl.wGetU, Dl.wInU, Dl.gDictP, Dl.gSortS, Dl.gSortSet, Dl.wReprU, Dl.wReprL, Dl.gReprU, Dl.sRaise, Dl.mkD1, Dl.mkD2, Dl.sCallX, Dl.sRetX, Dl.sSetX, List.map_cons, List.map_nil, List.length_cons, List.length_nil, List.replicate_succ, List.replicate_zero, List.cons_append, List.nil_append, List.set_cons_zero, List.set_cons_succ, List.getElem?_cons_zero, List.getElem?_cons_succ, if_true, if_false, Bool.false_eq_true, Bool.not_true, Bool.not_false, reduceIte, Nat.reduceAdd, Nat.reduceSub]
        refine ⟨by decide, nl, sm.shw, ?_⟩
        refine Dl.sameU_textN sm ?_
        exact hk
      dsimp only [Dl.dTup, Dl.dCons, Dl.dName, Dl.dNil, Dl.sNext, List.set_cons_zero, List.set_cons_succ]
      exact ⟨_, _, _, _, _, _, _, rfl⟩
    · rintro E' ⟨x9, x10, x11, x12, x13, x14, x15, rfl⟩
      dsimp only [Dl.dTup, Dl.dCons, Dl.dName, Dl.dNil, Dl.sNext, List.set_cons_zero, List.set_cons_succ]
      have p4 : ∀ t ∈ p, t.2.length ≤ 4 := fun t ht => (hp t ht).2.2.1
      refine S_seq ?_
      refine S_set fun k hk => ?_
      try simp only [Dl.sSeq, Dl.sCut, Dl.sNext, Dl.sNever, Dl.sIf, Dl.sExpr, Dl.sRet, Dl.sRetF, Dl.sRetO, Dl.sAsg, Dl.sSet, Dl.sSetF, Dl.sFrz, Dl.sMove, Dl.sAug, Dl.sApp, Dl.sPut, Dl.sFor, Dl.sPar, Dl.wVar, Dl.wVarH, Dl.wC, Dl.wOp, Dl.wOpF, Dl.gB, Dl.wAnd, Dl.wOr, Dl.wNot, Dl.wAndV, Dl.wOrV, Dl.wNotV, Dl.wIf, Dl.wChain, Dl.vD, Dl.vVar, Dl.aNil, Dl.aCons, Dl.lNil, Dl.lCons, Dl.lStar, Dl.wTup, Dl.wLst, Dl.dName, Dl.dNil, Dl.dCons, Dl.dTup, Dl.wUn, Dl.wUnF, Dl.wIsi, Dl.isD, Dl.w2I, Dl.wCall, Dl.wCallF, Dl.wCallK, Dl.rD, Dl.rF, Dl.mkS, Dl.iSeq, Dl.iTupl, Dl.iAny, Dl.iRg1, Dl.iRg2, Dl.iRev, Dl.rg1, Dl.rg2, Dl.iEn, Dl.iZp, Dl.iStrD, Dl.wLc, Dl.wipeE, Dl.wYes, Dl.wSl, Dl.wSlF, Dl.oNone, Dl.oSome, Dl.gSl, Dl.gAdd, Dl.gCat, Dl.gRep, Dl.gSub, Dl.gMul, Dl.gMod, Dl.gDiv, Dl.gPow, Dl.gLt, Dl.gLe, Dl.gGt, Dl.gGe, Dl.gEq, Dl.gNe, Dl.gIsN, Dl.gNotN, Dl.isN, Dl.gIx, Dl.gLen, Dl.gTupOf, Dl.gListOf, Dl.gSum, Dl.gRep1, Dl.gInt, Dl.gAll, Dl.gNeg, Dl.xF, Dl.wZip2, Dl.wZipS, Dl.sAugS, Dl.sExt, Dl.sNewU, Dl.sPutU, Dl.wTupU, Dl.gRev, Dl.gIn, Dl.gNotIn, Dl.wLenS, Dl.uVar, Dl.uD, Dl.wGetU, Dl.wInU, Dl.gDictP, Dl.gSortS, Dl.gSortSet, Dl.wReprU, Dl.wReprL, Dl.gReprU, Dl.sRaise, Dl.mkD1, Dl.mkD2, Dl.sCallX, Dl.sRetX, Dl.sSetX, List.map_cons, List.map_nil, List.length_cons, List.length_nil, List.replicate_succ, List.replicate_zero, List.cons_append, List.nil_append, List.set_cons_zero, List.set_cons_succ, List.getElem?_cons_zero, List.getElem?_cons_succ, if_true, if_false, Bool.false_eq_true, Bool.not_true, Bool.not_false, reduceIte, Nat.reduceAdd, Nat.reduceSub]
      refine ⟨(p, l), rfl, by omega, p4, cok hp, fun ys nd mem srt => ?_⟩
      have ysub : ∀ y ∈ ys, y ∈ names6 := fun y hy => in6 hp y ((inm y hp).mp ((mem y).mp hy))
      have yl := nodup_le nd ysub
      have y6 : names6.length = 6 := rfl
      try simp only [Dl.sSeq, Dl.sCut, Dl.sNext, Dl.sNever, Dl.sIf, Dl.sExpr, Dl.sRet, Dl.sRetF, Dl.sRetO, Dl.sAsg, Dl.sSet, Dl.sSetF, Dl.sFrz, Dl.sMove, Dl.sAug, Dl.sApp, Dl.sPut, Dl.sFor, Dl.sPar, Dl.wVar, Dl.wVarH, Dl.wC, Dl.wOp, Dl.wOpF, Dl.gB, Dl.wAnd, Dl.wOr, Dl.wNot, Dl.wAndV, Dl.wOrV, Dl.wNotV, Dl.wIf, Dl.wChain, Dl.vD, Dl.vVar, Dl.aNil, Dl.aCons, Dl.lNil, Dl.lCons, Dl.lStar, Dl.wTup, Dl.wLst, Dl.dName, Dl.dNil, Dl.dCons, Dl.dTup, Dl.wUn, Dl.wUnF, Dl.wIsi, Dl.isD, Dl.w2I, Dl.wCall, Dl.wCallF, Dl.wCallK, Dl.rD, Dl.rF, Dl.mkS, Dl.iSeq, Dl.iTupl, Dl.iAny, Dl.iRg1, Dl.iRg2, Dl.iRev, Dl.rg1, Dl.rg2, Dl.iEn, Dl.iZp, Dl.iStrD, Dl.wLc, Dl.wipeE, Dl.wYes, Dl.wSl, Dl.wSlF, Dl.oNone, Dl.oSome, Dl.gSl, Dl.gAdd, Dl.gCat, Dl.gRep, Dl.gSub, Dl.gMul, Dl.gMod, Dl.gDiv, Dl.gPow, Dl.gLt, Dl.gLe, Dl.gGt, Dl.gGe, Dl.gEq, Dl.gNe, Dl.gIsN, Dl.gNotN, Dl.isN, Dl.gIx, Dl.gLen, Dl.gTupOf, Dl.gListOf, Dl.gSum, Dl.gRep1, Dl.gInt, Dl.gAll, Dl.gNeg, Dl.xF, Dl.wZip2, Dl.wZipS, Dl.sAugS, Dl.sExt, Dl.sNewU, Dl.sPutU, Dl.wTupU, Dl.gRev, Dl.gIn, Dl.gNotIn, Dl.wLenS, Dl.uVar, Dl.uD, Dl.wGetU, Dl.wInU, Dl.gDictP, Dl.gSortS, Dl.gSortSet, Dl.wReprU, Dl.wReprL, Dl.gReprU, Dl.sRaise, Dl.mkD1, Dl.mkD2, Dl.sCallX, Dl.sRetX, Dl.sSetX, List.map_cons, List.map_nil, List.length_cons, List.length_nil, List.replicate_succ, List.replicate_zero, List.cons_append, List.nil_append, List.set_cons_zero, List.set_cons_succ, List.getElem?_cons_zero, List.getElem?_cons_succ, if_true, if_false, Bool.false_eq_true, Bool.not_true, Bool.not_false, reduceIte, Nat.reduceAdd, Nat.reduceSub]
      refine ⟨by unfold Dl.strsD; rw [List.length_map]; exact line_lt (by omega), lcW_map (fun y => Dl.pairD (.inr y, .int (val y))) (fun y ok skip hy h => ?_) ⟨asgG ys val, by unfold asgG; rw [List.map_map]; rfl, ?_⟩⟩
      · try simp only [Dl.sSeq, Dl.sCut, Dl.sNext, Dl.sNever, Dl.sIf, Dl.sExpr, Dl.sRet, Dl.sRetF, Dl.sRetO, Dl.sAsg, Dl.sSet, Dl.sSetF, Dl.sFrz, Dl.sMove, Dl.sAug, Dl.sApp, Dl.sPut, Dl.sFor, Dl.sPar, Dl.wVar, Dl.wVarH, Dl.wC, Dl.wOp, Dl.wOpF, Dl.gB, Dl.wAnd, Dl.wOr, Dl.wNot, Dl.wAndV, Dl.wOrV, Dl.wNotV, Dl.wIf, Dl.wChain, Dl.vD, Dl.vVar, Dl.aNil, Dl.aCons, Dl.lNil, Dl.lCons, Dl.lStar, Dl.wTup, Dl.wLst, Dl.dName, Dl.dNil, Dl.dCons, Dl.dTup, Dl.wUn, Dl.wUnF, Dl.wIsi, Dl.isD, Dl.w2I, Dl.wCall, Dl.wCallF, Dl.wCallK, Dl.rD, Dl.rF, Dl.mkS, Dl.iSeq, Dl.iTupl, Dl.iAny, Dl.iRg1, Dl.iRg2, Dl.iRev, Dl.rg1, Dl.rg2, Dl.iEn, Dl.iZp, Dl.iStrD, Dl.wLc, Dl.wipeE, Dl.wYes, Dl.wSl, Dl.wSlF, Dl.oNone, Dl.oSome, Dl.gSl, Dl.gAdd, Dl.gCat, Dl.gRep, Dl.gSub, Dl.gMul, Dl.gMod, Dl.gDiv, Dl.gPow, Dl.gLt, Dl.gLe, Dl.gGt, Dl.gGe, Dl.gEq, Dl.gNe, Dl.gIsN, Dl.gNotN, Dl.isN, Dl.gIx, Dl.gLen, Dl.gTupOf, Dl.gListOf, Dl.gSum, Dl.gRep1, Dl.gInt, Dl.gAll, Dl.gNeg, Dl.xF, Dl.wZip2, Dl.wZipS, Dl.sAugS, Dl.sExt, Dl.sNewU, Dl.sPutU, Dl.wTupU, Dl.gRev, Dl.gIn, Dl.gNotIn, Dl.wLenS, Dl.uVar, Dl.uD, Dl.wGetU, Dl.wInU, Dl.gDictP, Dl.gSortS, Dl.gSortSet, Dl.wReprU, Dl.wReprL, Dl.gReprU, Dl.sRaise, Dl.mkD1, Dl.mkD2, Dl.sCallX, Dl.sRetX, Dl.sSetX, List.map_cons, List.map_nil, List.length_cons, List.length_nil, List.replicate_succ, List.replicate_zero, List.cons_append, List.nil_append, List.set_cons_zero, List.set_cons_succ, List.getElem?_cons_zero, List.getElem?_cons_succ, if_true, if_false, Bool.false_eq_true, Bool.not_true, Bool.not_false, reduceIte, Nat.reduceAdd, Nat.reduceSub]
        exact ⟨asgG names6 val, rfl, .inr y, _, rfl, asg_val (ysub y hy), by decide, h⟩
      rw [merge_asg nd]
      refine hk _ [x0, some .pen, some (.d d), some (.d (.int q)), some (.d (.int l)), some (.d (polyD p)), some (.d (Dl.dicD (asgG names6 val))), some (.d (rowD us)), some (.d (polyD ks)), x9, x10, x11, x12, x13, some (.d (Dl.dicD (asgG ys val))), x15] rfl ?_
      clear hk k
      dsimp only [Dl.dTup, Dl.dCons, Dl.dName, Dl.dNil, Dl.sNext, List.set_cons_zero, List.set_cons_succ]
      obtain ⟨z, ez, z0, z1⟩ : ∃ z, polyV val us p % q = z ∧ 0 ≤ z ∧ z < q := ⟨_, rfl, Int.emod_nonneg _ (by omega), Int.emod_lt_of_pos _ (by omega)⟩
      have smz : Sml 0 21 (.int z) := sml_int z0 (by omega)
      refine S_no (fun k hk => ?_) ?_
      · simp only [rowD]
        try simp only [Dl.sSeq, Dl.sCut, Dl.sNext, Dl.sNever, Dl.sIf, Dl.sExpr, Dl.sRet, Dl.sRetF, Dl.sRetO, Dl.sAsg, Dl.sSet, Dl.sSetF, Dl.sFrz, Dl.sMove, Dl.sAug, Dl.sApp, Dl.sPut, Dl.sFor, Dl.sPar, Dl.wVar, Dl.wVarH, Dl.wC, Dl.wOp, Dl.wOpF, Dl.gB, Dl.wAnd, Dl.wOr, Dl.wNot, Dl.wAndV, Dl.wOrV, Dl.wNotV, Dl.wIf, Dl.wChain, Dl.vD, Dl.vVar, Dl.aNil, Dl.aCons, Dl.lNil, Dl.lCons, Dl.lStar, Dl.wTup, Dl.wLst, Dl.dName, Dl.dNil, Dl.dCons, Dl.dTup, Dl.wUn, Dl.wUnF, Dl.wIsi, Dl.isD, Dl.w2I, Dl.wCall, Dl.wCallF, Dl.wCallK, Dl.rD, Dl.rF, Dl.mkS, Dl.iSeq, Dl.iTupl, Dl.iAny, Dl.iRg1, Dl.iRg2, Dl.iRev, Dl.rg1, Dl.rg2, Dl.iEn, Dl.iZp, Dl.iStrD, Dl.wLc, Dl.wipeE, Dl.wYes, Dl.wSl, Dl.wSlF, Dl.oNone, Dl.oSome, Dl.gSl, Dl.gAdd, Dl.gCat, Dl.gRep, Dl.gSub, Dl.gMul, Dl.gMod, Dl.gDiv, Dl.gPow, Dl.gLt, Dl.gLe, Dl.gGt, Dl.gGe, Dl.gIsN, Dl.gNotN, Dl.isN, Dl.gIx, Dl.gLen, Dl.gTupOf, Dl.gListOf, Dl.gSum, Dl.gInt, Dl.gAll, Dl.gNeg, Dl.xF, Dl.wZip2, Dl.wZipS, Dl.sAugS, Dl.sExt, Dl.sNewU, Dl.sPutU, Dl.wTupU, Dl.gRev, Dl.gIn, Dl.gNotIn, Dl.wLenS, Dl.uVar, Dl.uD, Dl.wGetU, Dl.wInU, Dl.gDictP, Dl.gSortS, Dl.gSortSet, Dl.wReprU, Dl.wReprL, Dl.gReprU, Dl.sRaise, Dl.mkD1, Dl.mkD2, Dl.sCallX, Dl.sRetX, Dl.sSetX, List.map_cons, List.map_nil, List.length_cons, List.length_nil, List.replicate_succ, List.replicate_zero, List.cons_append, List.nil_append, List.set_cons_zero, List.set_cons_succ, List.getElem?_cons_zero, List.getElem?_cons_succ, if_true, if_false, Bool.false_eq_true, Bool.not_true, Bool.not_false, reduceIte, Nat.reduceAdd, Nat.reduceSub]
        have hasp := has (ms := ys) (vs := [q - 1]) hp (fun n hn => (mem n).mpr ((inm n hp).mpr hn)) (fun u hu => by rw [List.mem_singleton.mp hu]; omega)
        have hasq := has (ms := names6) (vs := []) hp (in6 hp) (by simp)
        rw [List.append_nil] at hasq
        have e1 : polyV val (us ++ [q - 1]) p = polyV val us p := asg_ext (cok hp) (by omega)
        refine ⟨by decide, by rw [List.length_map]; exact line_of (by omega), ?_⟩
        refine ⟨(p, q, l, asgG ys val, val, us ++ [q - 1]), by simp [rowD], by omega, by omega, p4, cok hp, fun zs nd2 mem2 srt2 => ⟨fun _ => ⟨hasp, ?_⟩, fun n e => by rw [lack_asg (fun y hy => (mem y).mpr ((mem2 y).mp hy))] at e; cases e⟩⟩
        rw [e1, ez]
        try simp only [Dl.sSeq, Dl.sCut, Dl.sNext, Dl.sNever, Dl.sIf, Dl.sExpr, Dl.sRet, Dl.sRetF, Dl.sRetO, Dl.sAsg, Dl.sSet, Dl.sSetF, Dl.sFrz, Dl.sMove, Dl.sAug, Dl.sApp, Dl.sPut, Dl.sFor, Dl.sPar, Dl.wVar, Dl.wVarH, Dl.wC, Dl.wOp, Dl.wOpF, Dl.gB, Dl.wAnd, Dl.wOr, Dl.wNot, Dl.wAndV, Dl.wOrV, Dl.wNotV, Dl.wIf, Dl.wChain, Dl.vD, Dl.vVar, Dl.aNil, Dl.aCons, Dl.lNil, Dl.lCons, Dl.lStar, Dl.wTup, Dl.wLst, Dl.dName, Dl.dNil, Dl.dCons, Dl.dTup, Dl.wUn, Dl.wUnF, Dl.wIsi, Dl.isD, Dl.w2I, Dl.wCall, Dl.wCallF, Dl.wCallK, Dl.rD, Dl.rF, Dl.mkS, Dl.iSeq, Dl.iTupl, Dl.iAny, Dl.iRg1, Dl.iRg2, Dl.iRev, Dl.rg1, Dl.rg2, Dl.iEn, Dl.iZp, Dl.iStrD, Dl.wLc, Dl.wipeE, Dl.wYes, Dl.wSl, Dl.wSlF, Dl.oNone, Dl.oSome, Dl.gSl, Dl.gAdd, Dl.gCat, Dl.gRep, Dl.gSub, Dl.gMul, Dl.gMod, Dl.gDiv, Dl.gPow, Dl.gLt, Dl.gLe, Dl.gGt, Dl.gGe, Dl.gIsN, Dl.gNotN, Dl.isN, Dl.gIx, Dl.gLen, Dl.gTupOf, Dl.gListOf, Dl.gSum, Dl.gInt, Dl.gAll, Dl.gNeg, Dl.xF, Dl.wZip2, Dl.wZipS, Dl.sAugS, Dl.sExt, Dl.sNewU, Dl.sPutU, Dl.wTupU, Dl.gRev, Dl.gIn, Dl.gNotIn, Dl.wLenS, Dl.uVar, Dl.uD, Dl.wGetU, Dl.wInU, Dl.gDictP, Dl.gSortS, Dl.gSortSet, Dl.wReprU, Dl.wReprL, Dl.gReprU, Dl.sRaise, Dl.mkD1, Dl.mkD2, Dl.sCallX, Dl.sRetX, Dl.sSetX, List.map_cons, List.map_nil, List.length_cons, List.length_nil, List.replicate_succ, List.replicate_zero, List.cons_append, List.nil_append, List.set_cons_zero, List.set_cons_succ, List.getElem?_cons_zero, List.getElem?_cons_succ, if_true, if_false, Bool.false_eq_true, Bool.not_true, Bool.not_false, reduceIte, Nat.reduceAdd, Nat.reduceSub]
        refine ⟨(p, q, l, asgG names6 val, val, us), by simp [rowD], by omega, hasq, ?_⟩
        rw [ez]
        try simp only [Dl.sSeq, Dl.sCut, Dl.sNext, Dl.sNever, Dl.sIf, Dl.sExpr, Dl.sRet, Dl.sRetF, Dl.sRetO, Dl.sAsg, Dl.sSet, Dl.sSetF, Dl.sFrz, Dl.sMove, Dl.sAug, Dl.sApp, Dl.sPut, Dl.sFor, Dl.sPar, Dl.wVar, Dl.wVarH, Dl.wC, Dl.wOp, Dl.wOpF, Dl.gB, Dl.wAnd, Dl.wOr, Dl.wNot, Dl.wAndV, Dl.wOrV, Dl.wNotV, Dl.wIf, Dl.wChain, Dl.vD, Dl.vVar, Dl.aNil, Dl.aCons, Dl.lNil, Dl.lCons, Dl.lStar, Dl.wTup, Dl.wLst, Dl.dName, Dl.dNil, Dl.dCons, Dl.dTup, Dl.wUn, Dl.wUnF, Dl.wIsi, Dl.isD, Dl.w2I, Dl.wCall, Dl.wCallF, Dl.wCallK, Dl.rD, Dl.rF, Dl.mkS, Dl.iSeq, Dl.iTupl, Dl.iAny, Dl.iRg1, Dl.iRg2, Dl.iRev, Dl.rg1, Dl.rg2, Dl.iEn, Dl.iZp, Dl.iStrD, Dl.wLc, Dl.wipeE, Dl.wYes, Dl.wSl, Dl.wSlF, Dl.oNone, Dl.oSome, Dl.gSl, Dl.gAdd, Dl.gCat, Dl.gRep, Dl.gSub, Dl.gMul, Dl.gMod, Dl.gDiv, Dl.gPow, Dl.gLt, Dl.gLe, Dl.gGt, Dl.gGe, Dl.gIsN, Dl.gNotN, Dl.isN, Dl.gIx, Dl.gLen, Dl.gTupOf, Dl.gListOf, Dl.gSum, Dl.gInt, Dl.gAll, Dl.gNeg, Dl.xF, Dl.wZip2, Dl.wZipS, Dl.sAugS, Dl.sExt, Dl.sNewU, Dl.sPutU, Dl.wTupU, Dl.gRev, Dl.gIn, Dl.gNotIn, Dl.wLenS, Dl.uVar, Dl.uD, Dl.wGetU, Dl.wInU, Dl.gDictP, Dl.gSortS, Dl.gSortSet, Dl.wReprU, Dl.wReprL, Dl.gReprU, Dl.sRaise, Dl.mkD1, Dl.mkD2, Dl.sCallX, Dl.sRetX, Dl.sSetX, List.map_cons, List.map_nil, List.length_cons, List.length_nil, List.replicate_succ, List.replicate_zero, List.cons_append, List.nil_append, List.set_cons_zero, List.set_cons_succ, List.getElem?_cons_zero, List.getElem?_cons_succ, if_true, if_false, Bool.false_eq_true, Bool.not_true, Bool.not_false, reduceIte, Nat.reduceAdd, Nat.reduceSub]
        refine same_N smz ?_
        exact hk
      dsimp only [Dl.dTup, Dl.dCons, Dl.dName, Dl.dNil, Dl.sNext, List.set_cons_zero, List.set_cons_succ]
      exact ⟨_, _, _, _, _, _, _, _, _, _, _, _, _, _, _, rfl⟩
  · rintro _ _ E' ⟨x0, x2, x3, x4, x5, x6, x7, x8, x9, x10, x11, x12, x13, x14, x15, rfl⟩
    dsimp only [Dl.dTup, Dl.dCons, Dl.dName, Dl.dNil, Dl.sNext, List.set_cons_zero, List.set_cons_succ]
    refine S_ret fun k hk => ?_
    try simp only [Dl.sSeq, Dl.sCut, Dl.sNext, Dl.sNever, Dl.sIf, Dl.sExpr, Dl.sRet, Dl.sRetF, Dl.sRetO, Dl.sAsg, Dl.sSet, Dl.sSetF, Dl.sFrz, Dl.sMove, Dl.sAug, Dl.sApp, Dl.sPut, Dl.sFor, Dl.sPar, Dl.wVar, Dl.wVarH, Dl.wC, Dl.wOp, Dl.wOpF, Dl.gB, Dl.wAnd, Dl.wOr, Dl.wNot, Dl.wAndV, Dl.wOrV, Dl.wNotV, Dl.wIf, Dl.wChain, Dl.vD, Dl.vVar, Dl.aNil, Dl.aCons, Dl.lNil, Dl.lCons, Dl.lStar, Dl.wTup, Dl.wLst, Dl.dName, Dl.dNil, Dl.dCons, Dl.dTup, Dl.wUn, Dl.wUnF, Dl.wIsi, Dl.isD, Dl.w2I, Dl.wCall, Dl.wCallF, Dl.wCallK, Dl.rD, Dl.rF, Dl.mkS, Dl.iSeq, Dl.iTupl, Dl.iAny, Dl.iRg1, Dl.iRg2, Dl.iRev, Dl.rg1, Dl.rg2, Dl.iEn, Dl.iZp, Dl.iStrD, Dl.wLc, Dl.wipeE, Dl.wYes, Dl.wSl, Dl.wSlF, Dl.oNone, Dl.oSome, Dl.gSl, Dl.gAdd, Dl.gCat, Dl.gRep, Dl.gSub, Dl.gMul, Dl.gMod, Dl.gDiv, Dl.gPow, Dl.gLt, Dl.gLe, Dl.gGt, Dl.gGe, Dl.gEq, Dl.gNe, Dl.gIsN, Dl.gNotN, Dl.isN, Dl.gIx, Dl.gLen, Dl.gTupOf, Dl.gListOf, Dl.gSum, Dl.gRep1, Dl.gInt, Dl.gAll, Dl.gNeg, Dl.xF, Dl.wZip2, Dl.wZipS, Dl.sAugS, Dl.sExt, Dl.sNewU, Dl.sPutU, Dl.wTupU, Dl.gRev, Dl.gIn, Dl.gNotIn, Dl.wLenS, Dl.uVar, Dl.uD, Dl.wGetU, Dl.wInU, Dl.gDictP, Dl.gSortS, Dl.gSortSet, Dl.wReprU, Dl.wReprL, Dl.gReprU, Dl.sRaise, Dl.mkD1, Dl.mkD2, Dl.sCallX, Dl.sRetX, Dl.sSetX, List.map_cons, List.map_nil, List.length_cons, List.length_nil, List.replicate_succ, List.replicate_zero, List.cons_append, List.nil_append, List.set_cons_zero, List.set_cons_succ, List.getElem?_cons_zero, List.getElem?_cons_succ, if_true, if_false, Bool.false_eq_true, Bool.not_true, Bool.not_false, reduceIte, Nat.reduceAdd, Nat.reduceSub]
    exact hk _ rfl

end
end Vk34

namespace Vk34
open PySem PySem.Spec PyProof.Rows L2 Vx
theorem kb_evaluate_polynomial {K : PySem.W.Frag} {f : Addr} {fd : FuncData} (F : Fun K "evaluate_polynomial" "evaluate_polynomial" s_evaluate_polynomial f fd) : KBinds K fd ["polynomial", "modulus", "assignment", "coins"] ["coins", "assignment", "modulus", "polynomial"] kg_evaluate_polynomial kg_evaluate_polynomial := by
  obtain ⟨oc, od, kV, doc, pm, an, cdv, ct, osl, rfl, lk, hcd⟩ := F.ex
  constructor
  · intro s us ws _ hl
    rcases us with _ | ⟨u, us⟩
    · rcases ws with _ | ⟨u0, _ | ⟨u1, _ | ⟨u2, _ | ⟨u3, _ | ⟨u4, _⟩⟩⟩⟩⟩ <;> first | exact .of_eq rfl | cases hl
    · cases hl
  · intro vs us zs ws r rz
    rcases r with _ | ⟨r, rs⟩
    · rcases rz with _ | ⟨r0, _ | ⟨r1, _ | ⟨r2, _ | ⟨r3, _ | ⟨r4, _⟩⟩⟩⟩⟩ <;> first | exact .cons r3 (.cons r2 (.cons r1 (.cons r0 (.nil)))) | exact .nil
    · exact .nil
theorem all_mk {l : PySem.W.OpenLaw} {w : World} {K : PySem.W.Frag} {h : Heap} {mg : Str → Option Value} {fa f0 f1 f2 f3 f4 f5 f6 f7 f8 f9 f10 f11 f12 f13 f14 f15 f16 : Addr} (X : K.In h) (G : h.Ns mainGlobals mg) (hfa : mg "law" = some (.ref fa))
    {od0 an0 od1 an1 od2 an2 od3 an3 od4 an4 od5 an5 od6 an6 od7 an7 od8 an8 od9 an9 od10 an10 od11 an11 od12 an12 od13 an13 od14 an14 od15 an15 od16 an16 : Option Addr} {sl0 sl1 sl2 sl3 sl4 sl5 sl6 sl7 sl8 sl9 sl10 sl11 sl12 sl13 sl14 sl15 sl16 : Array (Option Value)} {oc0 kV0 dc0 pm0 cd0 ct0 oc1 kV1 dc1 pm1 cd1 ct1 oc2 kV2 dc2 pm2 cd2 ct2 oc3 kV3 dc3 pm3 cd3 ct3 oc4 kV4 dc4 pm4 cd4 ct4 oc5 kV5 dc5 pm5 cd5 ct5 oc6 kV6 dc6 pm6 cd6 ct6 oc7 kV7 dc7 pm7 cd7 ct7 oc8 kV8 dc8 pm8 cd8 ct8 oc9 kV9 dc9 pm9 cd9 ct9 oc10 kV10 dc10 pm10 cd10 ct10 oc11 kV11 dc11 pm11 cd11 ct11 oc12 kV12 dc12 pm12 cd12 ct12 oc13 kV13 dc13 pm13 cd13 ct13 oc14 kV14 dc14 pm14 cd14 ct14 oc15 kV15 dc15 pm15 cd15 ct15 oc16 kV16 dc16 pm16 cd16 ct16 : Value} {C_MissingVariable : Addr} {I_MissingVariable : Addr} {nm_MissingVariable qn_MissingVariable : Str} {N_MissingVariable : Addr} {bs_MissingVariable : List Value} {sn_MissingVariable : List Str} {sub_MissingVariable : List Value} {ab_MissingVariable : Bool} {col_MissingVariable : Option Bool} {dd_MissingVariable : Option Addr} {m0_MissingVariable m1_MissingVariable m2_MissingVariable m3_MissingVariable m5_MissingVariable : Option Value} {odI_MissingVariable anI_MissingVariable : Option Addr} {slI_MissingVariable : Array (Option Value)} {ocI_MissingVariable dcI_MissingVariable pmI_MissingVariable cdI_MissingVariable ctI_MissingVariable : Value}
    (a0 : PySem.W.nsIn K mainGlobals "require_variables" = some (some (.ref f0))) (l0 : K.lookup f0 = some ⟨oc0, od0, .func (PySem.W.fnOf "require_variables" "require_variables" (defArgs s_require_variables) (defBody s_require_variables) (defScope s_require_variables) .none kV0 dc0 pm0 an0 cd0 ct0), sl0⟩) (c0 : PySem.W.codeIn K cd0 "require_variables" = true) (k0 : PySem.W.keepIn K (.ref f0) = true)
    (a1 : PySem.W.nsIn K mainGlobals "evaluate_polynomial" = some (some (.ref f1))) (l1 : K.lookup f1 = some ⟨oc1, od1, .func (PySem.W.fnOf "evaluate_polynomial" "evaluate_polynomial" (defArgs s_evaluate_polynomial) (defBody s_evaluate_polynomial) (defScope s_evaluate_polynomial) .none kV1 dc1 pm1 an1 cd1 ct1), sl1⟩) (c1 : PySem.W.codeIn K cd1 "evaluate_polynomial" = true) (k1 : PySem.W.keepIn K (.ref f1) = true)
    (a2 : PySem.W.nsIn K mainGlobals "_term_value" = some (some (.ref f2))) (l2 : K.lookup f2 = some ⟨oc2, od2, .func (PySem.W.fnOf "_term_value" "_term_value" (defArgs s_term_value) (defBody s_term_value) (defScope s_term_value) .none kV2 dc2 pm2 an2 cd2 ct2), sl2⟩) (c2 : PySem.W.codeIn K cd2 "_term_value" = true) (k2 : PySem.W.keepIn K (.ref f2) = true)
    (a3 : PySem.W.nsIn K mainGlobals "polynomial_variables" = some (some (.ref f3))) (l3 : K.lookup f3 = some ⟨oc3, od3, .func (PySem.W.fnOf "polynomial_variables" "polynomial_variables" (defArgs s_polynomial_variables) (defBody s_polynomial_variables) (defScope s_polynomial_variables) .none kV3 dc3 pm3 an3 cd3 ct3), sl3⟩) (c3 : PySem.W.codeIn K cd3 "polynomial_variables" = true) (k3 : PySem.W.keepIn K (.ref f3) = true)
    (a4 : PySem.W.nsIn K mainGlobals "cells_of" = some (some (.ref f4))) (l4 : K.lookup f4 = some ⟨oc4, od4, .func (PySem.W.fnOf "cells_of" "cells_of" (defArgs s_cells_of) (defBody s_cells_of) (defScope s_cells_of) .none kV4 dc4 pm4 an4 cd4 ct4), sl4⟩) (c4 : PySem.W.codeIn K cd4 "cells_of" = true) (k4 : PySem.W.keepIn K (.ref f4) = true)
    (a5 : PySem.W.nsIn K mainGlobals "_law_pen" = some (some (.ref f5))) (l5 : K.lookup f5 = some ⟨oc5, od5, .func (PySem.W.fnOf "_law_pen" "_law_pen" (defArgs s_law_pen) (defBody s_law_pen) (defScope s_law_pen) .none kV5 dc5 pm5 an5 cd5 ct5), sl5⟩) (c5 : PySem.W.codeIn K cd5 "_law_pen" = true) (k5 : PySem.W.keepIn K (.ref f5) = true)
    (a6 : PySem.W.nsIn K mainGlobals "_law_fresh" = some (some (.ref f6))) (l6 : K.lookup f6 = some ⟨oc6, od6, .func (PySem.W.fnOf "_law_fresh" "_law_fresh" (defArgs s_law_fresh) (defBody s_law_fresh) (defScope s_law_fresh) .none kV6 dc6 pm6 an6 cd6 ct6), sl6⟩) (c6 : PySem.W.codeIn K cd6 "_law_fresh" = true) (k6 : PySem.W.keepIn K (.ref f6) = true)
    (a7 : PySem.W.nsIn K mainGlobals "_law_draw" = some (some (.ref f7))) (l7 : K.lookup f7 = some ⟨oc7, od7, .func (PySem.W.fnOf "_law_draw" "_law_draw" (defArgs s_law_draw) (defBody s_law_draw) (defScope s_law_draw) .none kV7 dc7 pm7 an7 cd7 ct7), sl7⟩) (c7 : PySem.W.codeIn K cd7 "_law_draw" = true) (k7 : PySem.W.keepIn K (.ref f7) = true)
    (a8 : PySem.W.nsIn K mainGlobals "_law_modulus" = some (some (.ref f8))) (l8 : K.lookup f8 = some ⟨oc8, od8, .func (PySem.W.fnOf "_law_modulus" "_law_modulus" (defArgs s_law_modulus) (defBody s_law_modulus) (defScope s_law_modulus) .none kV8 dc8 pm8 an8 cd8 ct8), sl8⟩) (c8 : PySem.W.codeIn K cd8 "_law_modulus" = true) (k8 : PySem.W.keepIn K (.ref f8) = true)
    (a9 : PySem.W.nsIn K mainGlobals "_law_name" = some (some (.ref f9))) (l9 : K.lookup f9 = some ⟨oc9, od9, .func (PySem.W.fnOf "_law_name" "_law_name" (defArgs s_law_name) (defBody s_law_name) (defScope s_law_name) .none kV9 dc9 pm9 an9 cd9 ct9), sl9⟩) (c9 : PySem.W.codeIn K cd9 "_law_name" = true) (k9 : PySem.W.keepIn K (.ref f9) = true)
    (a10 : PySem.W.nsIn K mainGlobals "_law_cell" = some (some (.ref f10))) (l10 : K.lookup f10 = some ⟨oc10, od10, .func (PySem.W.fnOf "_law_cell" "_law_cell" (defArgs s_law_cell) (defBody s_law_cell) (defScope s_law_cell) .none kV10 dc10 pm10 an10 cd10 ct10), sl10⟩) (c10 : PySem.W.codeIn K cd10 "_law_cell" = true) (k10 : PySem.W.keepIn K (.ref f10) = true)
    (a11 : PySem.W.nsIn K mainGlobals "_law_polynomial" = some (some (.ref f11))) (l11 : K.lookup f11 = some ⟨oc11, od11, .func (PySem.W.fnOf "_law_polynomial" "_law_polynomial" (defArgs s_law_polynomial) (defBody s_law_polynomial) (defScope s_law_polynomial) .none kV11 dc11 pm11 an11 cd11 ct11), sl11⟩) (c11 : PySem.W.codeIn K cd11 "_law_polynomial" = true) (k11 : PySem.W.keepIn K (.ref f11) = true)
    (a12 : PySem.W.nsIn K mainGlobals "_law_value" = some (some (.ref f12))) (l12 : K.lookup f12 = some ⟨oc12, od12, .func (PySem.W.fnOf "_law_value" "_law_value" (defArgs s_law_value) (defBody s_law_value) (defScope s_law_value) .none kV12 dc12 pm12 an12 cd12 ct12), sl12⟩) (c12 : PySem.W.codeIn K cd12 "_law_value" = true) (k12 : PySem.W.keepIn K (.ref f12) = true)
    (a13 : PySem.W.nsIn K mainGlobals "_law_names_in" = some (some (.ref f13))) (l13 : K.lookup f13 = some ⟨oc13, od13, .func (PySem.W.fnOf "_law_names_in" "_law_names_in" (defArgs s_law_names_in) (defBody s_law_names_in) (defScope s_law_names_in) .none kV13 dc13 pm13 an13 cd13 ct13), sl13⟩) (c13 : PySem.W.codeIn K cd13 "_law_names_in" = true) (k13 : PySem.W.keepIn K (.ref f13) = true)
    (a14 : PySem.W.nsIn K mainGlobals "_law_values" = some (some (.ref f14))) (l14 : K.lookup f14 = some ⟨oc14, od14, .func (PySem.W.fnOf "_law_values" "_law_values" (defArgs s_law_values) (defBody s_law_values) (defScope s_law_values) .none kV14 dc14 pm14 an14 cd14 ct14), sl14⟩) (c14 : PySem.W.codeIn K cd14 "_law_values" = true) (k14 : PySem.W.keepIn K (.ref f14) = true)
    (a15 : PySem.W.nsIn K mainGlobals "_law_residues" = some (some (.ref f15))) (l15 : K.lookup f15 = some ⟨oc15, od15, .func (PySem.W.fnOf "_law_residues" "_law_residues" (defArgs s_law_residues) (defBody s_law_residues) (defScope s_law_residues) .none kV15 dc15 pm15 an15 cd15 ct15), sl15⟩) (c15 : PySem.W.codeIn K cd15 "_law_residues" = true) (k15 : PySem.W.keepIn K (.ref f15) = true)
    (a16 : PySem.W.nsIn K mainGlobals "law" = some (some (.ref f16))) (l16 : K.lookup f16 = some ⟨oc16, od16, .func (PySem.W.fnOf "law" "law" (defArgs s_law) (defBody s_law) (defScope s_law) .none kV16 dc16 pm16 an16 cd16 ct16), sl16⟩) (c16 : PySem.W.codeIn K cd16 "law" = true) (k16 : PySem.W.keepIn K (.ref f16) = true)
    (z0 : PySem.W.nsIn K mainGlobals "sum" = some none)
    (z1 : PySem.W.nsIn K mainGlobals "tuple" = some none)
    (z2 : PySem.W.nsIn K mainGlobals "sorted" = some none)
    (z3 : PySem.W.nsIn K mainGlobals "list" = some none)
    (z4 : PySem.W.nsIn K mainGlobals "range" = some none)
    (z5 : PySem.W.nsIn K mainGlobals "len" = some none)
    (z6 : PySem.W.nsIn K mainGlobals "set" = some none)
    (z7 : PySem.W.nsIn K mainGlobals "dict" = some none)
    (z8 : PySem.W.nsIn K mainGlobals "max" = some none)
    (z9 : PySem.W.nsIn K mainGlobals "min" = some none)
    (z10 : PySem.W.nsIn K mainGlobals "repr" = some none)
    (aC_MissingVariable : PySem.W.nsIn K mainGlobals "MissingVariable" = some (some (.ref C_MissingVariable)))
    (kC_MissingVariable : PySem.W.keepIn K (.ref C_MissingVariable) = true)
    (xL_MissingVariable : K.lookup C_MissingVariable = some (excClassObj nm_MissingVariable qn_MissingVariable C_MissingVariable N_MissingVariable bs_MissingVariable [.type "KeyError", .type "LookupError", .type "Exception", .type "BaseException", .type "object"] true sn_MissingVariable sub_MissingVariable ab_MissingVariable col_MissingVariable dd_MissingVariable m0_MissingVariable m1_MissingVariable m2_MissingVariable m3_MissingVariable m5_MissingVariable "LookupError.__new__"))
    (sa_MissingVariable : PySem.W.findIn K (.ref C_MissingVariable) "__setattr__" = some (some (.builtin "object.__setattr__")))
    (n0_MissingVariable : PySem.W.findIn K (.ref C_MissingVariable) "name" = some none)
    (iC_MissingVariable : PySem.W.findIn K (.ref C_MissingVariable) "__init__" = some (some (.ref I_MissingVariable)))
    (tI_MissingVariable : PySem.W.typeIn K (.ref I_MissingVariable) = some (.type "function"))
    (lI_MissingVariable : K.lookup I_MissingVariable = some ⟨ocI_MissingVariable, odI_MissingVariable, .func (PySem.W.fnOf "__init__" "MissingVariable.__init__" (PySem.VErr.eArgs "name" ⟨4, 17, 4, 21⟩ ⟨4, 23, 4, 27⟩) (PySem.VErr.eBody "name" ⟨5, 8, 5, 12⟩ ⟨5, 8, 5, 17⟩ ⟨5, 20, 5, 24⟩ ⟨5, 8, 5, 24⟩) (PySem.VErr.eScope "name") .none .none dcI_MissingVariable pmI_MissingVariable anI_MissingVariable cdI_MissingVariable ctI_MissingVariable), slI_MissingVariable⟩)
    (cI_MissingVariable : PySem.W.codeIn K cdI_MissingVariable "MissingVariable.__init__" = true)
    (ga_MissingVariable : PySem.W.findIn K (.ref C_MissingVariable) "__getattribute__" = some (some (.builtin "BaseException.__getattribute__")))
    (gg_MissingVariable : PySem.W.findIn K (.ref C_MissingVariable) "__getattr__" = some none)
    (eC_MissingVariable : PySem.W.subIn K (.ref C_MissingVariable) (.type "BaseException") = some true)
    (tC_MissingVariable : PySem.W.typeIn K (.ref C_MissingVariable) = some (.type "type"))
    (hC_MissingVariable : PySem.W.hasDictIn K C_MissingVariable = true)
    (sC_MissingVariable : PySem.W.subIn K (.ref C_MissingVariable) (.ref C_MissingVariable) = some true)
    (ha_MissingVariable : PySem.W.findIn K (.ref C_MissingVariable) "__class__" = some (some (.builtin "object.__class__")))
    (hm_MissingVariable : PySem.W.mroIn K C_MissingVariable (.type "object") = some true)
    (hn_ : PySem.W.specialIn K (.builtin "object.__class__") "__get__" = some (some (.builtin "getset_descriptor.__get__")))
    (ht_ : PySem.W.takesIn K (.builtin "object.__class__") = some true) :
    ∃ fd : FuncData, (∀ (s : Shared) (v : Value), BindsTo s fd ⟨[v], []⟩ [("script", v)]) ∧ ∀ base : Heap, K.In base → base.Ns mainGlobals mg → FnG l.prog w K mg base CX0 7 fa fd ["script"] (sp_law K) := by
  have e := hfa.symm.trans (PySem.W.mg_of X G a16)
  cases e
  have m_sum := PySem.W.mg_none_of X G z0
  have m_tuple := PySem.W.mg_none_of X G z1
  have m_sorted := PySem.W.mg_none_of X G z2
  have m_list := PySem.W.mg_none_of X G z3
  have m_range := PySem.W.mg_none_of X G z4
  have m_len := PySem.W.mg_none_of X G z5
  have m_set := PySem.W.mg_none_of X G z6
  have m_dict := PySem.W.mg_none_of X G z7
  have m_max := PySem.W.mg_none_of X G z8
  have m_min := PySem.W.mg_none_of X G z9
  have m_repr := PySem.W.mg_none_of X G z10
  have TE_MissingVariable : PySem.VErr.E1 K mg "MissingVariable" "name" "MissingVariable.__init__" C_MissingVariable I_MissingVariable := ⟨⟨PySem.W.mg_of X G aC_MissingVariable, ⟨_, _, _, _, _, _, _, _, _, _, _, _, _, _, _, _, xL_MissingVariable, PySem.VErr.up_ke⟩, sa_MissingVariable, kC_MissingVariable⟩, n0_MissingVariable, iC_MissingVariable, tI_MissingVariable, ⟨by decide +kernel, by decide +kernel⟩, ⟨_, _, _, _, _, _, _, _, _, _, _, _, _, _, lI_MissingVariable, cI_MissingVariable, fun _ _ => rfl, fun _ _ => rfl⟩⟩
  have T_MissingVariable : Dl.X1 K mg "MissingVariable" "name" "MissingVariable.__init__" C_MissingVariable I_MissingVariable := ⟨TE_MissingVariable, Dl.xc_of eC_MissingVariable tC_MissingVariable ga_MissingVariable gg_MissingVariable hC_MissingVariable sC_MissingVariable ha_MissingVariable hn_ ht_ hm_MissingVariable⟩
  have g_MissingVariable := PySem.W.mg_of X G aC_MissingVariable
  have F0 := fun_mk (st := s_require_variables) l0 c0 k0
  have b0 := F0.binds (ps := ["names", "assignment"]) fun _ _ _ _ _ _ us hl => match us, hl with | [_, _], _ => rfl
  have F1 := fun_mk (st := s_evaluate_polynomial) l1 c1 k1
  have b1 := F1.binds (ps := ["polynomial", "modulus", "assignment", "coins"]) fun _ _ _ _ _ _ us hl => match us, hl with | [_, _, _, _], _ => rfl
  have F2 := fun_mk (st := s_term_value) l2 c2 k2
  have b2 := F2.binds (ps := ["term", "assignment", "coins"]) fun _ _ _ _ _ _ us hl => match us, hl with | [_, _, _], _ => rfl
  have F3 := fun_mk (st := s_polynomial_variables) l3 c3 k3
  have b3 := F3.binds (ps := ["polynomial"]) fun _ _ _ _ _ _ us hl => match us, hl with | [_], _ => rfl
  have F4 := fun_mk (st := s_cells_of) l4 c4 k4
  have b4 := F4.binds (ps := ["polynomial"]) fun _ _ _ _ _ _ us hl => match us, hl with | [_], _ => rfl
  have F5 := fun_mk (st := s_law_pen) l5 c5 k5
  have b5 := F5.binds (ps := ["script"]) fun _ _ _ _ _ _ us hl => match us, hl with | [_], _ => rfl
  have F6 := fun_mk (st := s_law_fresh) l6 c6 k6
  have b6 := F6.binds (ps := ["pen"]) fun _ _ _ _ _ _ us hl => match us, hl with | [_], _ => rfl
  have F7 := fun_mk (st := s_law_draw) l7 c7 k7
  have b7 := F7.binds (ps := ["pen", "bound"]) fun _ _ _ _ _ _ us hl => match us, hl with | [_, _], _ => rfl
  have F8 := fun_mk (st := s_law_modulus) l8 c8 k8
  have b8 := F8.binds (ps := ["pen"]) fun _ _ _ _ _ _ us hl => match us, hl with | [_], _ => rfl
  have F9 := fun_mk (st := s_law_name) l9 c9 k9
  have b9 := F9.binds (ps := ["pen"]) fun _ _ _ _ _ _ us hl => match us, hl with | [_], _ => rfl
  have F10 := fun_mk (st := s_law_cell) l10 c10 k10
  have b10 := F10.binds (ps := ["pen", "length"]) fun _ _ _ _ _ _ us hl => match us, hl with | [_, _], _ => rfl
  have F11 := fun_mk (st := s_law_polynomial) l11 c11 k11
  have b11 := F11.binds (ps := ["pen", "q", "length", "most"]) fun _ _ _ _ _ _ us hl => match us, hl with | [_, _, _, _], _ => rfl
  have F12 := fun_mk (st := s_law_value) l12 c12 k12
  have b12 := F12.binds (ps := ["line", "q", "values", "tosses"]) fun _ _ _ _ _ _ us hl => match us, hl with | [_, _, _, _], _ => rfl
  have F13 := fun_mk (st := s_law_names_in) l13 c13 k13
  have b13 := F13.binds (ps := ["line"]) fun _ _ _ _ _ _ us hl => match us, hl with | [_], _ => rfl
  have F14 := fun_mk (st := s_law_values) l14 c14 k14
  have b14 := F14.binds (ps := ["pen", "q", "names"]) fun _ _ _ _ _ _ us hl => match us, hl with | [_, _, _], _ => rfl
  have F15 := fun_mk (st := s_law_residues) l15 c15 k15
  have b15 := F15.binds (ps := ["pen", "q", "length"]) fun _ _ _ _ _ _ us hl => match us, hl with | [_, _, _], _ => rfl
  have F16 := fun_mk (st := s_law) l16 c16 k16
  refine ⟨PySem.W.fnOf "law" "law" (defArgs s_law) (defBody s_law) (defScope s_law) .none kV16 dc16 pm16 an16 cd16 ct16, fun s v => .of_eq rfl, fun base KB NB => ?_⟩
  have G_require_variables : FnG l.prog w K mg base (L2.CX l.prog w) 3 f0 _ ["names", "assignment"] (Dl.spX K (S_require_variables C_MissingVariable)) := ok_require_variables F0 T_MissingVariable
  have c_require_variables : CalX l.prog w K mg base "require_variables" 3 ["names", "assignment"] (Dl.spX K (S_require_variables C_MissingVariable)) := ⟨f0, _, G_require_variables, PySem.W.mg_of X G a0, k0, b0⟩
  have G_cells_of : FnG l.prog w K mg base CX0 1 f4 _ ["polynomial"] (Dl.spD K S_cells_of) := ok_cells_of F4 m_tuple
  have c_cells_of : Cal l.prog w K mg base "cells_of" 1 ["polynomial"] (Dl.spD K S_cells_of) := ⟨f4, _, G_cells_of, PySem.W.mg_of X G a4, k4, b4⟩
  have G_polynomial_variables : FnG l.prog w K mg base CX0 2 f3 _ ["polynomial"] (Dl.spD K S_polynomial_variables) := ok_polynomial_variables F3 m_tuple m_sorted c_cells_of
  have c_polynomial_variables : Cal l.prog w K mg base "polynomial_variables" 2 ["polynomial"] (Dl.spD K S_polynomial_variables) := ⟨f3, _, G_polynomial_variables, PySem.W.mg_of X G a3, k3, b3⟩
  have G_term_value : FnG l.prog w K mg base CX0 1 f2 _ ["term", "assignment", "coins"] (Dl.spD K S_term_value) := ok_term_value F2 
  have c__term_value : Cal l.prog w K mg base "_term_value" 1 ["term", "assignment", "coins"] (Dl.spD K S_term_value) := ⟨f2, _, G_term_value, PySem.W.mg_of X G a2, k2, b2⟩
  have G_evaluate_polynomial : FnG l.prog w K mg base (L2.CX l.prog w) 6 f1 _ ["polynomial", "modulus", "assignment", "coins"] (Dl.spX K (S_evaluate_polynomial C_MissingVariable)) := ok_evaluate_polynomial F1 m_sum c_require_variables c_polynomial_variables c__term_value
  have c_evaluate_polynomial : CalX l.prog w K mg base "evaluate_polynomial" 6 ["polynomial", "modulus", "assignment", "coins"] (Dl.spX K (S_evaluate_polynomial C_MissingVariable)) := ⟨f1, _, G_evaluate_polynomial, PySem.W.mg_of X G a1, k1, b1⟩
  have ck_evaluate_polynomial : Dl.CalXK l.prog w K mg base "evaluate_polynomial" 6 ["polynomial", "modulus", "assignment", "coins"] (Dl.spX K (S_evaluate_polynomial C_MissingVariable)) ["coins", "assignment", "modulus", "polynomial"] kg_evaluate_polynomial := ⟨f1, _, G_evaluate_polynomial, PySem.W.mg_of X G a1, k1, b1, kb_evaluate_polynomial F1⟩
  have G_law_pen : FnG l.prog w K mg base CX0 1 f5 _ ["script"] (sp_law_pen K) := ok_law_pen F5 m_list
  have c__law_pen : Cal l.prog w K mg base "_law_pen" 1 ["script"] (sp_law_pen K) := ⟨f5, _, G_law_pen, PySem.W.mg_of X G a5, k5, b5⟩
  have G_law_fresh : FnG l.prog w K mg base CX0 1 f6 _ ["pen"] (sp_law_fresh K) := ok_law_fresh F6 m_range m_len
  have c__law_fresh : Cal l.prog w K mg base "_law_fresh" 1 ["pen"] (sp_law_fresh K) := ⟨f6, _, G_law_fresh, PySem.W.mg_of X G a6, k6, b6⟩
  have G_law_draw : FnG l.prog w K mg base CX0 2 f7 _ ["pen", "bound"] (Dl.spD K S_law_draw) := ok_law_draw F7 c__law_fresh
  have c__law_draw : Cal l.prog w K mg base "_law_draw" 2 ["pen", "bound"] (Dl.spD K S_law_draw) := ⟨f7, _, G_law_draw, PySem.W.mg_of X G a7, k7, b7⟩
  have G_law_modulus : FnG l.prog w K mg base CX0 3 f8 _ ["pen"] (Dl.spD K S_law_modulus) := ok_law_modulus F8 c__law_draw
  have c__law_modulus : Cal l.prog w K mg base "_law_modulus" 3 ["pen"] (Dl.spD K S_law_modulus) := ⟨f8, _, G_law_modulus, PySem.W.mg_of X G a8, k8, b8⟩
  have G_law_name : FnG l.prog w K mg base CX0 3 f9 _ ["pen"] (Dl.spD K S_law_name) := ok_law_name F9 c__law_draw
  have c__law_name : Cal l.prog w K mg base "_law_name" 3 ["pen"] (Dl.spD K S_law_name) := ⟨f9, _, G_law_name, PySem.W.mg_of X G a9, k9, b9⟩
  have G_law_cell : FnG l.prog w K mg base CX0 4 f10 _ ["pen", "length"] (Dl.spD K S_law_cell) := ok_law_cell F10 c__law_draw c__law_name
  have c__law_cell : Cal l.prog w K mg base "_law_cell" 4 ["pen", "length"] (Dl.spD K S_law_cell) := ⟨f10, _, G_law_cell, PySem.W.mg_of X G a10, k10, b10⟩
  have G_law_polynomial : FnG l.prog w K mg base CX0 5 f11 _ ["pen", "q", "length", "most"] (Dl.spD K S_law_polynomial) := ok_law_polynomial F11 m_range m_tuple m_len c__law_draw c__law_cell
  have c__law_polynomial : Cal l.prog w K mg base "_law_polynomial" 5 ["pen", "q", "length", "most"] (Dl.spD K S_law_polynomial) := ⟨f11, _, G_law_polynomial, PySem.W.mg_of X G a11, k11, b11⟩
  have G_law_value : FnG l.prog w K mg base CX0 1 f12 _ ["line", "q", "values", "tosses"] (Dl.spD K S_law_value) := ok_law_value F12 
  have c__law_value : Cal l.prog w K mg base "_law_value" 1 ["line", "q", "values", "tosses"] (Dl.spD K S_law_value) := ⟨f12, _, G_law_value, PySem.W.mg_of X G a12, k12, b12⟩
  have G_law_names_in : FnG l.prog w K mg base CX0 1 f13 _ ["line"] (Dl.spD K S_law_names_in) := ok_law_names_in F13 m_sorted m_set
  have c__law_names_in : Cal l.prog w K mg base "_law_names_in" 1 ["line"] (Dl.spD K S_law_names_in) := ⟨f13, _, G_law_names_in, PySem.W.mg_of X G a13, k13, b13⟩
  have G_law_values : FnG l.prog w K mg base CX0 3 f14 _ ["pen", "q", "names"] (Dl.spD K S_law_values) := ok_law_values F14 m_dict c__law_draw
  have c__law_values : Cal l.prog w K mg base "_law_values" 3 ["pen", "q", "names"] (Dl.spD K S_law_values) := ⟨f14, _, G_law_values, PySem.W.mg_of X G a14, k14, b14⟩
  have G_law_residues : FnG l.prog w K mg base CX0 3 f15 _ ["pen", "q", "length"] (Dl.spD K S_law_residues) := ok_law_residues F15 m_tuple m_range c__law_draw
  have c__law_residues : Cal l.prog w K mg base "_law_residues" 3 ["pen", "q", "length"] (Dl.spD K S_law_residues) := ⟨f15, _, G_law_residues, PySem.W.mg_of X G a15, k15, b15⟩
  exact ok_law F16 m_range m_max m_tuple m_dict m_min m_repr m_len c__law_pen c__law_polynomial c__law_values c__law_residues c__law_modulus c__law_draw ck_evaluate_polynomial c__law_value c__law_names_in
theorem walk_end {l : PySem.W.OpenLaw} {q : Program} {loose : List Str} {XP : (Str → Option Value) → Heap → Prop} {YP : World → Heap → Prop} {d : DefRec} {K : Params → PySem.W.Frag} (hn : l.most = some 63) (hdf : d.params.defaults = []) (hY : ∀ (w : World) (h : Heap), YP w h → (K w.params).In h)
    (F : ∀ (w : World) (mg : Str → Option Value) (fa : Addr) (h : Heap), (K w.params).In h → h.Ns mainGlobals mg → mg d.name = some (.ref fa) →
      ∃ fd : FuncData, (∀ (s : Shared) (u : Value), BindsTo s fd ⟨[u], []⟩ [("script", u)]) ∧ ∀ base : Heap, (K w.params).In base → base.Ns mainGlobals mg → FnG l.prog w (K w.params) mg base CX0 7 fa fd ["script"] (sp_law (K w.params))) :
    PySem.W.WalkO q loose XP YP l.row.toRowW d [] (fun f vs => PySem.call f vs) :=
  walkG (n := 63) (k := 7) (x := "script") (sp := fun w => sp_law (K w.params)) hn (by decide) hdf ⟨rfl, by decide, by decide⟩ hY F fun _ _ a ns hl _ hS => ⟨a, ns, rfl, hS, hl, fun _ => rfl⟩

end Vk34

open PySem PySem.W PyProof.Rows in
set_option maxRecDepth 100000 in
set_option maxHeartbeats 0 in
theorem PySem.Challenge.cw_maskedlist_k34_values_of_polynomials_holds : PySem.Challenge.rw_maskedlist_k34_values_of_polynomials.Holds := by
  w_on; o_law; k_head; (case hw => w_witness2)
  k_fill
  refine Vk34.walk_end (l := PySem.Challenge.rw_maskedlist_k34_values_of_polynomials) rfl rfl (fun w h Y => PySem.W.kIn_of Y) ?F
  case F =>
    intro w mg fa h KX G hmg
    refine' Vk34.all_mk KX G hmg ?a0 ?l0 ?c0 ?k0 ?a1 ?l1 ?c1 ?k1 ?a2 ?l2 ?c2 ?k2 ?a3 ?l3 ?c3 ?k3 ?a4 ?l4 ?c4 ?k4 ?a5 ?l5 ?c5 ?k5 ?a6 ?l6 ?c6 ?k6 ?a7 ?l7 ?c7 ?k7 ?a8 ?l8 ?c8 ?k8 ?a9 ?l9 ?c9 ?k9 ?a10 ?l10 ?c10 ?k10 ?a11 ?l11 ?c11 ?k11 ?a12 ?l12 ?c12 ?k12 ?a13 ?l13 ?c13 ?k13 ?a14 ?l14 ?c14 ?k14 ?a15 ?l15 ?c15 ?k15 ?a16 ?l16 ?c16 ?k16 ?z0 ?z1 ?z2 ?z3 ?z4 ?z5 ?z6 ?z7 ?z8 ?z9 ?z10 ?aC_MissingVariable ?kC_MissingVariable ?xL_MissingVariable ?sa_MissingVariable ?n0_MissingVariable ?iC_MissingVariable ?tI_MissingVariable ?lI_MissingVariable ?cI_MissingVariable ?ga_MissingVariable ?gg_MissingVariable ?eC_MissingVariable ?tC_MissingVariable ?hC_MissingVariable ?sC_MissingVariable ?ha_MissingVariable ?hm_MissingVariable ?hn_ ?ht_
    (case a0 => k_is)
    (case l0 => k_is)
    (case c0 => k_is)
    (case k0 => k_is)
    (case a1 => k_is)
    (case l1 => k_is)
    (case c1 => k_is)
    (case k1 => k_is)
    (case a2 => k_is)
    (case l2 => k_is)
    (case c2 => k_is)
    (case k2 => k_is)
    (case a3 => k_is)
    (case l3 => k_is)
    (case c3 => k_is)
    (case k3 => k_is)
    (case a4 => k_is)
    (case l4 => k_is)
    (case c4 => k_is)
    (case k4 => k_is)
    (case a5 => k_is)
    (case l5 => k_is)
    (case c5 => k_is)
    (case k5 => k_is)
    (case a6 => k_is)
    (case l6 => k_is)
    (case c6 => k_is)
    (case k6 => k_is)
    (case a7 => k_is)
    (case l7 => k_is)
    (case c7 => k_is)
    (case k7 => k_is)
    (case a8 => k_is)
    (case l8 => k_is)
    (case c8 => k_is)
    (case k8 => k_is)
    (case a9 => k_is)
    (case l9 => k_is)
    (case c9 => k_is)
    (case k9 => k_is)
    (case a10 => k_is)
    (case l10 => k_is)
    (case c10 => k_is)
    (case k10 => k_is)
    (case a11 => k_is)
    (case l11 => k_is)
    (case c11 => k_is)
    (case k11 => k_is)
    (case a12 => k_is)
    (case l12 => k_is)
    (case c12 => k_is)
    (case k12 => k_is)
    (case a13 => k_is)
    (case l13 => k_is)
    (case c13 => k_is)
    (case k13 => k_is)
    (case a14 => k_is)
    (case l14 => k_is)
    (case c14 => k_is)
    (case k14 => k_is)
    (case a15 => k_is)
    (case l15 => k_is)
    (case c15 => k_is)
    (case k15 => k_is)
    (case a16 => k_is)
    (case l16 => k_is)
    (case c16 => k_is)
    (case k16 => k_is)
    (case z0 => k_is)
    (case z1 => k_is)
    (case z2 => k_is)
    (case z3 => k_is)
    (case z4 => k_is)
    (case z5 => k_is)
    (case z6 => k_is)
    (case z7 => k_is)
    (case z8 => k_is)
    (case z9 => k_is)
    (case z10 => k_is)
    (case aC_MissingVariable => k_is)
    (case kC_MissingVariable => k_is)
    (case xL_MissingVariable => k_is)
    (case sa_MissingVariable => k_is)
    (case n0_MissingVariable => k_is)
    (case iC_MissingVariable => k_is)
    (case tI_MissingVariable => k_is)
    (case lI_MissingVariable => k_is)
    (case cI_MissingVariable => k_is)
    (case ga_MissingVariable => k_is)
    (case gg_MissingVariable => k_is)
    (case eC_MissingVariable => k_is)
    (case tC_MissingVariable => k_is)
    (case hC_MissingVariable => k_is)
    (case sC_MissingVariable => first | rfl | k_is)
    (case ha_MissingVariable => k_is)
    (case hm_MissingVariable => k_is)
    (case hn_ => k_is)
    (case ht_ => k_is)

