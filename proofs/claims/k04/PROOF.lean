import PyProof.Rows.All
import Wide.All
import OpenK.AllK
import Wide.FinOn
import HandS.ForMost
import HandS.RevRange
import HandS.Zip
import HandS.IsInst
import HandS.Conv
import HandS.Wide
import HandS.Evl
import HandS.TupMul
import HandS.TupAny
import KE.GoesEnum
import KE.KDictZip
import HandS.Star
import HandS.TryOnly
import PySem.Challenge.RW_maskedlist_k04_whole_products_and_invers
set_option Elab.async false
set_option linter.all false
set_option maxRecDepth 100000
set_option maxHeartbeats 4000000
/-! calls that know that nothing is being shown (no repr runs around): our own layer over the hand layer -/
namespace Vx
open PySem PySem.Spec PyProof.Rows L2
/-- room for k calls, and no repr is under way -/
structure Rm (k : Nat) (A : Around) : Prop where
  r : Room k A
  g : A.guards = some []
theorem Rm.mono {j k : Nat} {A : Around} (h : Rm k A) (le : j ≤ k) : Rm j A := ⟨h.r.mono le, h.g⟩
/-- a def's promise, for calls with Rm -/
structure FnG (P : Program) (w : World) (K : PySem.W.Frag) (mg : Str → Option Value) (base : Heap) (CX : CXT) (k : Nat) (f : Addr) (fd : FuncData) (ps : List Str) (sp : Sp) : Prop where
  ln : ∀ vs H Q E, sp vs H Q E → vs.length = ps.length
  go : ∀ (A : Around) (o : List Env) (s : Shared) (H : Hp) (az : Args) (us : List Value) (vs : List V) (Q : VK) (E : XK), Rm k A → Env0 P w K mg base A o s H → BindsTo s fd az (ps.zip us) → Vals vs us → sp vs H Q E →
    codeAny (model P w) A (.call (.ref f) az) (CR CX o P w H s Q E) s
section
variable {X : Cx} {CX : CXT} {k : Nat} {f : Addr} {fd : FuncData} {ps ks : List Str} {sp : Sp} {dvs : List V} {ds : List Value} {E : XK} {x : Str} {p pos : Pos} {e : Expr} {es : List Expr} {kws : List Keyword} {t tk : TA}
  {g : List Value → List Value → List Value} {gV : List V → List V → List V}
/-- the callee runs at its bound arguments -/
theorem runG {pins : List (Addr × Obj)} {σ : L2.St} {H : Hp} {s : Shared} {Q : VK} {us : List Value} {kw : List (Str × Value)} {bs : List Value} {vs : List V} (F : FnG X.prog X.w X.K X.mg X.base CX k f fd ps sp) (hr : Rm k X.A) (hx : Passes CX X E)
    (I : Inv X pins σ H s) (hb : BindsTo s fd ⟨us, kw⟩ (ps.zip bs)) (r : Vals vs bs) (h : sp vs H Q E) : wpAny (model X.prog X.w) X.A (call (.ref f) us kw) (EP X pins σ Q) X.xe s := by
  refine wpAny_call (codeAny_mono (F.go X.A X.stack s H ⟨us, kw⟩ bs vs Q E hr I.env0 hb r h) ?_)
  intro z s' hq
  match z, hq with
  | .ok (.ret _), hq => exact I.after hq
  | .ok .next, hq => exact False.elim hq
  | .ok .brk, hq => exact False.elim hq
  | .ok .cont, hq => exact False.elim hq
  | .error e, hq => exact hx pins σ H s e s' I hq
theorem ge_call (F : FnG X.prog X.w X.K X.mg X.base CX k f fd ps sp) (hr : Rm k X.A) (hg : Gl X x) (hm : X.mg x = some (.ref f)) (hk : PySem.W.keepIn X.K (.ref f) = true) (hb : Binds X.K fd ps ds) (hd : Vals dvs ds) (hx : Passes CX X E)
    (ha : PA X (e :: es) t) (hdb : (x == ("__debug__" : Str)) = false := by decide) (he : starEach (e :: es) X.env = (false, eval e X.env) :: starEach es X.env := by rfl) (hpl : (backTo pos (starEach es X.env)).any (·.1) = false := by rfl) :
    PE X (.Call (.Name x p) (e :: es) [] pos) (tCall sp dvs E t) := by
  constructor
  intro pins s σ H Q I h
  refine wpAny_Call_Name_kw (ld_glob I hg hm (PySem.W.callWith_K (h₀ := X.base) I.ok.mod.kin hk (thn (ha.run pos pins s σ H _ I h) ?_) he hpl) hdb)
  rintro us s1 ⟨vs, H1, I1, r, q⟩
  have r2 := r.append hd
  have q2 := F.ln _ _ _ _ q
  rw [r2.length] at q2
  exact ⟨I1.kIn, runG F hr hx I1 (hb s1 us I1.kIn q2) r2 q⟩
theorem ge_callK (F : FnG X.prog X.w X.K X.mg X.base CX k f fd ps sp) (hr : Rm k X.A) (hg : Gl X x) (hm : X.mg x = some (.ref f)) (hk : PySem.W.keepIn X.K (.ref f) = true) (hb : KBinds X.K fd ps ks g gV) (hx : Passes CX X E)
    (hkw : PK X kws tk) (hall : (backToKw pos (keywordEach kws X.env)).all (·.1.isSome) = true := by rfl) (hks : (backToKw pos (keywordEach kws X.env)).filterMap (·.1) = ks := by rfl)
    (hdb : (x == ("__debug__" : Str)) = false := by decide)
    (hpl : ((backTo pos (starEach [] X.env)).any (·.1) || (backToKw pos (keywordEach kws X.env)).any (·.1.isNone)) = false := by rfl) :
    PE X (.Call (.Name x p) [] kws pos) (tCallK sp gV E tNil tk) := by
  constructor
  intro pins s σ H Q I h
  refine wpAny_Call_Name_kw (ld_glob I hg hm (PySem.W.callWith_KW0 (h₀ := X.base) I.ok.mod.kin hk hall (thn (hkw.run pos pins s σ H _ I h) ?_) hpl) hdb)
  rintro ws s2 ⟨zs, H2, I2, rz, q2⟩
  rw [hks]
  have r2 := hb.rel (vs := []) (us := []) .nil rz
  have n2 := F.ln _ _ _ _ q2
  rw [r2.length] at n2
  exact ⟨I2.kIn, runG F hr hx I2 (hb.to s2 [] ws I2.kIn n2) r2 q2⟩
end
/-- a def, by its body -/
theorem fn_ofG {CX : CXT} {P : Program} {w : World} {K : PySem.W.Frag} {mg : Str → Option Value} {base : Heap} {k : Nat} {f : Addr} {name qual : Str} {params : Arguments} {body : List Stmt} {scope : Scope} {dV kV doc pm cdv ct oc : Value} {an od : Option Addr}
    {osl : Array (Option Value)} {N ps : List Str} {sp : Sp} (lk : K.lookup f = some ⟨oc, od, .func (PySem.W.fnOf name qual params body scope dV kV doc pm an cdv ct), osl⟩) (hcd : PySem.W.codeIn K cdv qual = true) (S : FnScope N ps scope)
    (ln : ∀ vs H Q E, sp vs H Q E → vs.length = ps.length)
    (hb : ∀ (A : Around) (o : List Env) (s : Shared) (H : Hp) (vs : List V) (Q : VK) (E : XK), Rm k (A.deeper (envOfC qual scope s.heap.objs.size f cdv)) → sp vs H Q E →
      ∃ t, PSs (cxOf CX P w K mg base N qual scope f cdv A o s H E) body t ∧ t { nx := fun _ H' => Q .non H', rt := Q } (start N vs) H) :
    FnG P w K mg base CX (k + 1) f (PySem.W.fnOf name qual params body scope dV kV doc pm an cdv ct) ps sp := by
  constructor
  · exact ln
  intro A o s H az us vs Q E hr e0 bd r hsp
  have len := ln vs H Q E hsp
  have up : ∀ {b : Addr} {ob : Obj}, base.get? b = some ob → s.heap.get? b = some ob := fun q => (e0.bs _ _ q).1
  have KX : K.In s.heap := e0.mod.kin.keeps fun _ _ q => up q
  have lim : s.heap.NoLimit := e0.mod.nolimit.keeps fun _ _ q => up q
  refine codeAny_call_function hr.r.depth (KX _ _ lk) rfl S.co S.gen rfl (PySem.W.codeRec_of KX hcd) (bd _ _ _ _ (wpAny_newFunctionEnv_cells S.kind ?_ ?_))
  · rintro ⟨n, v⟩ hy
    rcases S.par n (List.of_mem_zip hy).1 with q | q
    · exact .inl q
    · exact .inr ⟨q, PySem.W.cellsFrom_some _ _ _ (.inl q)⟩
  · intro env he s1 x
    subst he
    refine ⟨lim.keeps x.toInCall.keep, codeAny_func ?_⟩
    obtain ⟨t, ht, hq⟩ := hb A o s H vs Q E ⟨hr.r.deeper _, hr.g⟩ hsp
    refine wpAny_mono (ht.run [] s1 (start N vs) H _ (inv_start S hr.r.hd e0 len r x) hq) ?_ (fun _ _ z => z)
    intro fl s' z
    match fl, z with
    | .ret u, ⟨v, _, H', J, rv, q⟩ => exact ⟨v, H', J.os, J.bare, J.base, J.hok, rv, q⟩
    | .next, ⟨_, H', J, q⟩ => exact ⟨.non, H', J.os, J.bare, J.base, J.hok, rfl, q⟩
    | .brk, ⟨_, _, _, q⟩ => exact False.elim q
    | .cont, ⟨_, _, _, q⟩ => exact False.elim q
section
variable {P : Program} {w : World} {K : PySem.W.Frag} {mg : Str → Option Value} {base : Heap}
theorem okG {x qual : Str} {st : Stmt} {f : Addr} {fd : FuncData} {N ps : List Str} {k : Nat} {sp : Sp} (F : Fun K x qual st f fd) (S : FnScope N ps (defScope st)) (ln : ∀ vs H Q E, sp vs H Q E → vs.length = ps.length)
    (hb : ∀ (cdv : Value) (A : Around) (o : List Env) (s : Shared) (H : Hp) (vs : List V) (Q : VK) (E : XK), Rm k (A.deeper (envOfC qual (defScope st) s.heap.objs.size f cdv)) → sp vs H Q E →
      ∃ t, PSs (cxOf CX0 P w K mg base N qual (defScope st) f cdv A o s H E).nox (defBody st) t ∧ t { nx := fun _ H' => Q .non H', rt := Q } (start N vs) H) : FnG P w K mg base CX0 (k + 1) f fd ps sp := by
  obtain ⟨oc, od, kV, doc, pm, an, cdv, ct, osl, rfl, lk, hcd⟩ := F.ex
  refine fn_ofG lk hcd S ln ?_
  intro A o s H vs Q E hr hsp
  obtain ⟨t, h, q⟩ := hb cdv A o s H vs Q E hr hsp
  exact ⟨t, h.nox, q⟩
/-- a def that others call: where it stands, how it binds, its promise -/
structure Cal (P : Program) (w : World) (K : PySem.W.Frag) (mg : Str → Option Value) (base : Heap) (x : Str) (k : Nat) (ps : List Str) (sp : Sp) : Prop where
  ex : ∃ f fd, FnG P w K mg base CX0 k f fd ps sp ∧ mg x = some (.ref f) ∧ PySem.W.keepIn K (.ref f) = true ∧ Binds K fd ps []
end
/-- .. that is called by names too: the names as written, how they are put in order -/
structure CalK (P : Program) (w : World) (K : PySem.W.Frag) (mg : Str → Option Value) (base : Heap) (x : Str) (k : Nat) (ps : List Str) (sp : Sp) (ks : List Str) (g : {α : Type} → List α → List α → List α) : Prop where
  ex : ∃ f fd, FnG P w K mg base CX0 k f fd ps sp ∧ mg x = some (.ref f) ∧ PySem.W.keepIn K (.ref f) = true ∧ Binds K fd ps [] ∧ KBinds K fd ps ks g g
/-- at the law's entry: what the abstract heap H tracks is the script at a alone -/
structure Entry (P : Program) (w : World) (K : PySem.W.Frag) (H : Hp) (h : Heap) (a : Addr) (ns : List Int) : Prop where
  only : Only H
  seq : SqL K H a (ns.map V.int)
  ok : HOk P w H h
  one : ∀ b u, H b = some u → b = a
  own : ∀ u, H a = some u → K.lookup a = none
theorem entry_of {P : Program} {w : World} {K : PySem.W.Frag} {h : Heap} {a : Addr} {vs : List Value} {ns : List Int} (KX : K.In h) (ha : h.get? a = some { cls := .type "list", data := .seq vs.toArray })
    (hi : IntsAre vs ns) (hl : ns.length ≤ sizeLine) : ∃ H, Entry P w K H h a ns := by
  have rv : Vals (ns.map V.int) vs := vals_ints hi
  have nl : vs.length = ns.length := hi.length
  match hk : K.lookup a with
  | some o =>
    obtain rfl : _ = o := Option.some.inj (ha.symm.trans (KX a o hk))
    refine ⟨fun _ => none, fun _ => Or.inl rfl, Or.inr ⟨_, vs.toArray, _, hk, rfl, rfl, rfl, ?_, ?_⟩, ?_, ?_, ?_⟩
    · simpa only [List.size_toArray, nl] using hl
    · simpa only using rv
    · intro b u z; cases z
    · intro b u z; cases z
    · intro u z; cases z
  | none =>
    let fz : HO := .frz { cls := .type "list", data := .seq vs.toArray } (.lst (ns.map V.int))
    have at_ : upd (fun _ => none) a fz a = some fz := upd_same
    have off : ∀ b, b ≠ a → upd (fun _ => none) a fz b = none := fun b z => upd_ne z
    refine ⟨upd (fun _ => none) a fz, fun b => ?_, Or.inl (Or.inr ⟨_, at_⟩), fun b u z => ?_, fun b u z => ?_, fun _ _ => hk⟩
    · rcases Decidable.em (b = a) with rfl | q
      · exact Or.inr ⟨_, _, at_⟩
      · exact Or.inl (off b q)
    · rcases Decidable.em (b = a) with rfl | q
      · rw [at_] at z
        obtain rfl := Option.some.inj z
        exact ⟨ha, (by simpa only [List.length_map] using hl), vs, _, rv, ha⟩
      · rw [off b q] at z
        cases z
    · rcases Decidable.em (b = a) with q | q
      · exact q
      · rw [off b q] at z
        cases z
theorem base_at {P : Program} {w : World} {K : PySem.W.Frag} {H : Hp} {h : Heap} {a : Addr} {vs : List Value} {ns : List Int} (E : Entry P w K H h a ns) (ha : h.get? a = some { cls := .type "list", data := .seq vs.toArray })
    {b : Addr} {m : Str → Option Value} (n : h.Ns b m) : (hidT h H).Ns b m := by
  obtain ⟨o, es, ep, e, d, r⟩ := n
  refine ⟨o, es, ep, hidT_get e ?_, d, r⟩
  match q : H b with
  | none => rfl
  | some u =>
    obtain rfl := E.one b u q
    rw [ha] at e
    obtain rfl := Option.some.inj e
    cases d
theorem base_in {P : Program} {w : World} {K : PySem.W.Frag} {H : Hp} {h : Heap} {a : Addr} {ns : List Int} (E : Entry P w K H h a ns) (KX : K.In h) : K.In (hidT h H) := by
  intro b o e
  refine hidT_get (KX b o e) ?_
  match q : H b with
  | none => rfl
  | some u =>
    obtain rfl := E.one b u q
    rw [E.own u q] at e
    cases e
theorem law_end {P : Program} {w : World} {K : PySem.W.Frag} {mg mb : Str → Option Value} {k : Nat} {fa a : Addr} {fd : FuncData} {x : Str} {sp : Sp} {z : Shared} {vs : List Value} {ns : List Int}
    (KX : K.In z.heap) (g1 : z.heap.Ns mainGlobals mg) (g2 : z.heap.Ns builtinsNs mb) (g3 : ∀ y : Str, y ≠ "__name__" → mb y = bootBuiltins y) (g4 : z.heap.NoLimit) (g5 : z.gens = #[])
    (ha : z.heap.get? a = some { cls := .type "list", data := .seq vs.toArray }) (hi : IntsAre vs ns) (hl : ns.length ≤ sizeLine) (hr : Room k callerA)
    (F : ∀ base : Heap, K.In base → base.Ns mainGlobals mg → FnG P w K mg base CX0 k fa fd [x] sp) (bd : ∀ (s : Shared) (u : Value), BindsTo s fd ⟨[u], []⟩ [(x, u)])
    (hsp : ∀ H : Hp, Only H → SqL K H a (ns.map V.int) → sp [.ref a] H (fun v _ => v = .bl true) fun _ _ _ => False) :
    codeAny (model P w) callerA (.call (.ref fa) ⟨[.ref a], []⟩) (fun r y => r = .ok (.ret (.bool true)) ∧ OldK z.heap y.heap ∧ y.os = z.os ∧ AllBare y.gens) z := by
  obtain ⟨H, E⟩ := entry_of (P := P) (w := w) KX ha hi hl
  have kb := base_in E KX
  have nb := base_at E ha g1
  obtain ⟨mc, c1, c2⟩ := g4
  have M : Mod K mg (hidT z.heap H) := ⟨kb, nb, ⟨mb, base_at E ha g2, g3⟩, ⟨mc, base_at E ha c1, c2⟩⟩
  have nofr : ∀ b, b ∉ frs [] := fun b hb => nomatch hb
  have e0 : Env0 P w K mg (hidT z.heap H) callerA [] z H := ⟨rfl, M, fun _ _ q => of_hidT q, Nat.le_of_eq (hidT_size _ _), trivial, fun b hb => absurd hb (nofr b), E.ok, .of_eq g5⟩
  refine codeAny_mono ((F _ kb nb).go callerA [] z H ⟨[.ref a], []⟩ [.ref a] [.ref a] _ _ ⟨hr, rfl⟩ e0 (bd z (.ref a)) (.cons rfl .nil) (hsp H E.only E.seq)) ?_
  intro r y q
  match r, q with
  | .ok (.ret u), q =>
    obtain ⟨v, H', os, bare, un, ok', rv, qv⟩ := q
    obtain rfl : v = V.bl true := qv
    obtain rfl : u = Value.bool true := rv
    refine ⟨rfl, OldK.of_keep ?_, os, bare⟩
    intro b o e
    match q : H b with
    | none => exact un.keep b o e q (nofr b) (fun hb => nomatch hb)
    | some u =>
      rcases E.only b with n | ⟨ob, xs, n⟩
      · rw [q] at n; cases n
      · have o1 := (E.ok b _ n).1
        have o2 := (ok' b _ (un.frzs b ob _ n)).1
        exact (o2.trans o1.symm).trans e
/-- the goal behind k_head -/
theorem walkG {l : PySem.W.OpenLaw} {n k : Nat} {q : Program} {loose : List Str} {XP : (Str → Option Value) → Heap → Prop} {YP : World → Heap → Prop} {d : DefRec} {K : Params → PySem.W.Frag} {sp : World → Sp} {x : Str}
    (hn : l.most = some n) (n2 : n ≤ sizeLine) (hdf : d.params.defaults = []) (hr : Room k callerA) (hY : ∀ (w : World) (h : Heap), YP w h → (K w.params).In h)
    (F : ∀ (w : World) (mg : Str → Option Value) (fa : Addr) (h : Heap), (K w.params).In h → h.Ns mainGlobals mg → mg d.name = some (.ref fa) →
      ∃ fd : FuncData, (∀ (s : Shared) (u : Value), BindsTo s fd ⟨[u], []⟩ [(x, u)]) ∧ ∀ base : Heap, (K w.params).In base → base.Ns mainGlobals mg → FnG l.prog w (K w.params) mg base CX0 k fa fd [x] (sp w))
    (hsp : ∀ (w : World) (H : Hp) (a : Addr) (ns : List Int), ns.length ≤ n → Only H → SqL (K w.params) H a (ns.map V.int) → sp w [.ref a] H (fun v _ => v = .bl true) fun _ _ _ => False) :
    PySem.W.WalkO q loose XP YP l.row.toRowW d [] (fun f vs => PySem.call f vs) := by
  apply Att.attach_call hn hdf
  intro w s₀ z mg mb fa o pm cd doc a vs ns G Y _ _ _ hmg hobj hi hl hg
  have KX := hY w _ Y
  obtain ⟨fd, hb, hF⟩ := F w mg fa _ KX G.T.g hmg
  exact law_end KX G.T.g G.T.b G.T.builtins G.T.nolimit hg hobj hi (Nat.le_trans hl n2) hr hF hb fun H h1 h2 => hsp w H a ns hl h1 h2
end Vx

namespace Vx
open PySem PySem.Spec PyProof.Rows L2
/-! the pen: a list of three, whose first item is a list of ints -/
theorem sq_ne {K : PySem.W.Frag} {H : Hp} {c p : Addr} {o : HO} {xs : List V} (h : SqL K H c xs) (n : c ≠ p) : SqL K (upd H p o) c xs := by
  rcases h with (h | ⟨q, h⟩) | h
  · exact .inl (.inl (by rw [upd_ne n]; exact h))
  · exact .inl (.inr ⟨q, by rw [upd_ne n]; exact h⟩)
  · exact .inr h
def PenAt (K : PySem.W.Frag) (H : Hp) (p c : Addr) (ns : List Int) (i m : Int) : Prop := H p = some (.lst [.ref c, .int i, .int m]) ∧ SqL K H c (ns.map V.int) ∧ c ≠ p
def Pen (K : PySem.W.Frag) (H : Hp) (p : Addr) : Prop := ∃ c ns i m, PenAt K H p c ns i m
/-- all that was tracked is as it was, but what stands at p -/
def But (p : Addr) (H H' : Hp) : Prop := ∀ b o, b ≠ p → H b = some o → H' b = some o
theorem But.refl (p : Addr) (H : Hp) : But p H H := fun _ _ _ h => h
theorem But.trans {p : Addr} {H H1 H2 : Hp} (a : But p H H1) (b : But p H1 H2) : But p H H2 := fun c o n h => b c o n (a c o n h)
theorem But.upd {p : Addr} {H : Hp} {o : HO} : But p H (L2.upd H p o) := fun b u n h => by rw [upd_ne n]; exact h
theorem same_new {H : Hp} {p : Addr} (h : H p = none) (o : HO) : Same H (upd H p o) := fun b u q => by rw [upd_ne (ne_of_none q h)]; exact q
theorem But.same {p : Addr} {H H' : Hp} (s : Same H H') : But p H H' := fun b o _ h => s b o h
theorem But.new {p q : Addr} {H : Hp} (h : H q = none) (o : HO) : But p H (L2.upd H q o) := .same (same_new h o)
theorem But.get {p b : Addr} {H H' : Hp} {o u : HO} (k : But p H H') (hp : H p = some u) (hb : H b = some o) (d : o ≠ u) : H' b = some o := k b o (ne_of hb hp d) hb
theorem PenAt.put {K : PySem.W.Frag} {H : Hp} {p c : Addr} {ns : List Int} {i m : Int} (h : PenAt K H p c ns i m) (j k : Int) : PenAt K (upd H p (.lst [.ref c, .int j, .int k])) p c ns j k :=
  ⟨upd_same, sq_ne h.2.1 h.2.2, h.2.2⟩
theorem Pen.same {K : PySem.W.Frag} {H H' : Hp} {p : Addr} (h : Pen K H p) (s : Same H H') : Pen K H' p := by
  obtain ⟨c, ns, i, m, h1, h2, h3⟩ := h
  exact ⟨c, ns, i, m, s _ _ h1, s.seq h2, h3⟩
theorem Pen.new {K : PySem.W.Frag} {H : Hp} {p q : Addr} (h : Pen K H p) (n : H q = none) (o : HO) : Pen K (upd H q o) p := h.same (same_new n o)
theorem But.seq {K : PySem.W.Frag} {H H' : Hp} {p a : Addr} {xs : List V} (k : But p H H') (n : a ≠ p) (h : SqL K H a xs) : SqL K H' a xs := by
  rcases h with (h | ⟨o, h⟩) | h
  · exact .inl (.inl (k _ _ n h))
  · exact .inl (.inr ⟨o, k _ _ n h⟩)
  · exact .inr h
theorem But.seqT {K : PySem.W.Frag} {H H' : Hp} {p a : Addr} {xs : List V} (k : But p H H') (n : a ≠ p) (h : SqT K H a xs) : SqT K H' a xs := by
  rcases h with (h | ⟨o, h⟩) | h
  · exact .inl (.inl (k _ _ n h))
  · exact .inl (.inr ⟨o, k _ _ n h⟩)
  · exact .inr h
theorem Same.seqT {K : PySem.W.Frag} {H H' : Hp} {a : Addr} {xs : List V} (e : Same H H') (h : SqT K H a xs) : SqT K H' a xs := by
  rcases h with (h | ⟨o, h⟩) | h
  · exact .inl (.inl (e _ _ h))
  · exact .inl (.inr ⟨o, e _ _ h⟩)
  · exact .inr h
theorem Pen.free {K : PySem.W.Frag} {H : Hp} {p q : Addr} (h : Pen K H p) (n : H q = none) : q ≠ p := by
  obtain ⟨c, ns, i, m, h1, _⟩ := h
  exact fun e => by rw [e, h1] at n; cases n
theorem cutV_map (ns : List Int) (lo hi : Option Int) : ∃ ms : List Int, cutV (ns.map V.int) lo hi = ms.map V.int := by
  unfold cutV
  rw [List.length_map]
  exact ⟨(ns.drop _).take _, by rw [List.map_take, List.map_drop]⟩
theorem cutV_maps (ns : List Int) (lo hi : Option Int) : ∃ ms : List Int, cutV (ns.map V.int) lo hi = ms.map V.int ∧ ms.length ≤ ns.length := by
  obtain ⟨ms, h⟩ := cutV_map ns lo hi
  refine ⟨ms, h, ?_⟩
  have := cutV_length (ns.map V.int) lo hi
  rw [h, List.length_map, List.length_map] at this
  exact this
/-- an int list's item -/
theorem at_map {ns : List Int} {i : Int} (h0 : 0 ≤ i) (h : i < ns.length) : ∃ v : Int, atI (ns.map V.int) i = some (.int v) := by
  have hk : i.toNat < ns.length := by omega
  have e : i = ((i.toNat : Nat) : Int) := by omega
  refine ⟨ns[i.toNat], ?_⟩
  generalize hg : ns[i.toNat] = v
  rw [e]
  subst hg
  exact atI_nat (by rw [List.getElem?_map, List.getElem?_eq_getElem (by omega)]; rfl)
theorem dp_ints (K : PySem.W.Frag) (H : Hp) : ∀ ns : List Int, DpAll K H (ns.map V.int) (ns.map PyData.int)
  | [] => .nil
  | n :: ns => .cons (.int n) (dp_ints K H ns)
theorem lay_ints : ∀ ns : List Int, PyData.canLayAll0 (ns.map PyData.int) = true
  | [] => rfl
  | n :: ns => by
    show (PyData.canLay0 (.int n) && PyData.canLayAll0 (ns.map PyData.int)) = true
    rw [lay_ints ns]
    rfl
theorem depth_ints : ∀ ns : List Int, PyData.depthAll (ns.map PyData.int) = 0
  | [] => rfl
  | n :: ns => by
    show max (PyData.depth (.int n)) (PyData.depthAll (ns.map PyData.int)) = 0
    rw [depth_ints ns]
    rfl
theorem shaped_ints (ns : List Int) : SeqAt.shaped (.list (ns.map PyData.int)) = true := by
  show (PyData.canLayAll0 (ns.map PyData.int) && decide (PyData.depthAll (ns.map PyData.int) + 1 ≤ 64)) = true
  rw [lay_ints, depth_ints]
  rfl
theorem eqv_ints_nil (ns : List Int) : PyData.eqv (.list (ns.map PyData.int)) (.list []) = true → ns = [] := by
  intro h
  cases ns with
  | nil => rfl
  | cons a r => cases h
/-- some draws lie between: the pen's own list may have changed in its two numbers, nothing else that was tracked -/
def Dr (p : Addr) (H H' : Hp) : Prop := But p H H' ∧ ∀ c i m, H p = some (.lst [.ref c, .int i, .int m]) → ∃ j k, H' p = some (.lst [.ref c, .int j, .int k])
theorem Dr.but {p : Addr} {H H' : Hp} (d : Dr p H H') : But p H H' := d.1
theorem Dr.refl (p : Addr) (H : Hp) : Dr p H H := ⟨.refl _ _, fun c i m h => ⟨i, m, h⟩⟩
theorem Dr.trans {p : Addr} {H H1 H2 : Hp} (a : Dr p H H1) (b : Dr p H1 H2) : Dr p H H2 := ⟨a.1.trans b.1, fun c i m h => by
  obtain ⟨j, k, h1⟩ := a.2 c i m h
  exact b.2 c j k h1⟩
theorem Dr.same {p : Addr} {H H' : Hp} (s : Same H H') : Dr p H H' := ⟨.same s, fun c i m h => ⟨i, m, s _ _ h⟩⟩
theorem Dr.new {p q : Addr} {H : Hp} (h : H q = none) (o : HO) : Dr p H (L2.upd H q o) := .same (same_new h o)
theorem Dr.pen {K : PySem.W.Frag} {p : Addr} {H H' : Hp} (d : Dr p H H') (h : Pen K H p) : Pen K H' p := by
  obtain ⟨c, ns, i, m, h1, h2, h3⟩ := h
  obtain ⟨j, k, h4⟩ := d.2 c i m h1
  exact ⟨c, ns, j, k, h4, d.1.seq h3 h2, h3⟩
theorem Dr.mut {K : PySem.W.Frag} {p D : Addr} {H H' : Hp} {o : HO} (d : Dr p H H') (hP : Pen K H p) (h : H D = none) : Dr p H (L2.upd H' D o) := by
  have ne : D ≠ p := hP.free h
  refine ⟨fun b u nb hb => ?_, fun c i m hc => ?_⟩
  · rw [upd_ne (ne_of_none hb h)]
    exact d.1 b u nb hb
  · obtain ⟨j, k, h4⟩ := d.2 c i m hc
    exact ⟨j, k, by rw [upd_ne (Ne.symm ne)]; exact h4⟩
theorem Dr.put {K : PySem.W.Frag} {p c : Addr} {H H' : Hp} {ns : List Int} {i m : Int} (b : But p H H') (h0 : PenAt K H p c ns i m) {j k : Int} (h : H' p = some (.lst [.ref c, .int j, .int k])) : Dr p H H' := ⟨b, fun c' i' m' h' => by
  rw [h0.1] at h'
  cases h'
  exact ⟨j, k, h⟩⟩
end Vx

namespace Vx
open PySem PySem.Spec PyProof.Rows L2
/-! (x, ..) * k for small k: one time is the tuple itself, no time the empty tuple -/
theorem times_one (l : Addr) (items : Array Value) (n : Nat) (dd : Option Addr) (sl : Array (Option Value)) (u : Tok) (c : (items.isEmpty || (1 : Int) == 1) = true) :
    Meets (Builtin.«tuple.__mul__» ⟨[.ref l, .int 1 u], []⟩) (fun _ R s => s.heap.get? l = some { cls := .type "tuple", dict := dd, data := .seq items n, slots := sl } ∧ R (.ok (.ret (Value.ref l))) s) :=
  .of_wp fun prog w A R s h => by
    obtain ⟨hp, g, d, tk, os⟩ := s
    obtain ⟨hl, h⟩ := h
    have f1 := AutoSeq1.idx_int
    wp_walk using wpAny_loadPart' hl
    repeat (first
      | (refine wpAny_ite_true c ?_; wp_walk using wpAny_loadPart' hl))
    exact ⟨_, rfl, h⟩
theorem times_none (l : Addr) (items : Array Value) (n : Nat) (dd : Option Addr) (sl : Array (Option Value)) (x : Int) (u : Tok) (c0 : (decide (x < -(2 ^ 63)) || decide (x ≥ 2 ^ 63)) = false) (c1 : (items.isEmpty || x == 1) = false) (c2 : (decide (x ≤ 0) || items.isEmpty) = true) :
    Meets (Builtin.«tuple.__mul__» ⟨[.ref l, .int x u], []⟩) (fun _ R s => s.heap.get? l = some { cls := .type "tuple", dict := dd, data := .seq items n, slots := sl } ∧
      R (.ok (.ret (Value.ref s.heap.objs.size))) { s with heap := s.heap.push { cls := Value.type "tuple", data := Data.seq #[] }, toks := s.toks }) :=
  .of_wp fun prog w A R s h => by
    obtain ⟨hp, g, d, tk, os⟩ := s
    obtain ⟨hl, h⟩ := h
    have f1 := AutoSeq1.idx_int
    wp_walk using wpAny_loadPart' hl
    repeat (first
      | (refine wpAny_ite_false (decide_eq_false (by rw [c0]; exact Bool.false_ne_true)) ?_; wp_walk using wpAny_loadPart' hl)
      | (refine wpAny_ite_false (decide_eq_false (by rw [c1]; exact Bool.false_ne_true)) ?_; wp_walk using wpAny_loadPart' hl)
      | (refine wpAny_ite_true (decide_eq_true c2) ?_; wp_walk using wpAny_loadPart' hl))
    exact ⟨_, rfl, h⟩
section
variable {X : Cx}
/-- what comes is some tuple of these items, new or not -/
def someT (K : PySem.W.Frag) (xs : List V) (H : Hp) (Q : VK) : Prop := ∀ (r : Addr) (H' : Hp), Same H H' → SqT K H' r xs → Q (.ref r) H'
theorem someT.new {K : PySem.W.Frag} {xs : List V} {H : Hp} {Q : VK} (h : someT K xs H Q) : ∀ p, H p = none → Q (.ref p) (upd H p (.tup xs)) := fun p hp => h p _ (same_new hp _) (SqT.of upd_same)
theorem someT.old {K : PySem.W.Frag} {xs : List V} {H : Hp} {Q : VK} {a : Addr} (h : someT K xs H Q) (hx : SqT K H a xs) : Q (.ref a) H := h a H (Same.refl H) hx
def rCatS (K : PySem.W.Frag) : R2 := fun x y H Q => ∃ a b xs ys, x = .ref a ∧ y = .ref b ∧ SqT K H a xs ∧ SqT K H b ys ∧ xs.length + ys.length ≤ sizeLine ∧ someT K (xs ++ ys) H Q
theorem op_catS : OpR X (binaryOp .Add) (rCatS X.K) := by
  intro pins s σ H x y v u Q I rx ry h
  obtain ⟨a, b, xs, ys, ea, eb, ha, hb, hz, q⟩ := h
  refine op_catA pins s σ H x y v u Q I rx ry ⟨a, b, xs, ys, ea, eb, ha, hb, hz, fun e => ?_, fun _ e => ?_, fun _ _ => q.new⟩
  · subst e
    exact q.old hb
  · subst e
    exact q.old (by rw [List.append_nil]; exact ha)
def rRepS (K : PySem.W.Frag) : R2 := fun x y H Q => ∃ l k xs, x = .ref l ∧ y = .int k ∧ SqT K H l xs ∧ xs ≠ [] ∧ -1000 ≤ k ∧ k ≤ 1000 ∧ xs.length ≤ 1000 ∧ someT K (List.replicate k.toNat xs).flatten H Q
theorem op_repS : OpR X (binaryOp .Mult) (rRepS X.K) := by
  intro pins s σ H x y v u Q I rx ry h
  obtain ⟨l, k, xs, rfl, rfl, hT, hne, h1, h2, hz, q⟩ := h
  by_cases k2 : 2 ≤ k
  · exact op_repT pins s σ H _ _ v u Q I rx ry ⟨l, k, xs, rfl, rfl, hT, hne, k2, h2, hz, q.new⟩
  cases rx
  obtain ⟨t, rfl⟩ := ry
  obtain ⟨its, r, ⟨⟨cls, dd, data, sl⟩, ho, hc, n, hd⟩, hs⟩ := I.tuple hT
  simp only at hc hd
  subst hc hd
  have hle : its.length = xs.length := r.length.symm
  have hi : its.toArray.isEmpty = false := by
    match its, hle with
    | [], e => exact absurd (List.eq_nil_of_length_eq_zero e.symm) hne
    | _ :: _, _ => rfl
  by_cases k1 : k = 1
  · subst k1
    have c1 : (its.toArray.isEmpty || (1 : Int) == 1) = true := by rw [hi]; rfl
    refine wpAny_binaryOp_repeat_ref (T := "tuple") (U := "int") (by decide) ⟨_, ho, rfl⟩ (fun s' => typeIs_int s' 1 t) noFill_tuple_mul F.fills_int_mul F.slot_int_rmul repeat_tuple F.slot_int_index.lookup ?_
    refine call_meets F.slot_int_rmul (typeIs_int s 1 t) F.entry_int_rmul (F.args_int_rmul_2 _ _) (int_rmul_tuple 1 t l its.toArray n dd sl) ⟨ho, rfl, ⟨_, ho, rfl⟩, ?_⟩
    refine call_meets F.slot_tuple_mul ⟨_, ho, rfl⟩ F.entry_tuple_mul (F.args_tuple_mul_2 _ _) (times_one l its.toArray n dd sl t c1) ⟨ho, ?_⟩
    exact ⟨.ref l, H, I, rfl, q.old (by simpa using hT)⟩
  · have k0 : k ≤ 0 := by omega
    have e0 : k.toNat = 0 := by omega
    rw [e0] at q
    have c0 : (decide (k < -(2 ^ 63)) || decide (k ≥ 2 ^ 63)) = false := by
      rw [decide_eq_false (by omega), decide_eq_false (by omega)]; rfl
    have c1 : (its.toArray.isEmpty || k == 1) = false := by
      rw [hi, Bool.false_or]
      exact beq_eq_false_iff_ne.mpr k1
    have c2 : (decide (k ≤ 0) || its.toArray.isEmpty) = true := by rw [decide_eq_true k0]; rfl
    refine wpAny_binaryOp_repeat_ref (T := "tuple") (U := "int") (by decide) ⟨_, ho, rfl⟩ (fun s' => typeIs_int s' k t) noFill_tuple_mul F.fills_int_mul F.slot_int_rmul repeat_tuple F.slot_int_index.lookup ?_
    refine call_meets F.slot_int_rmul (typeIs_int s k t) F.entry_int_rmul (F.args_int_rmul_2 _ _) (int_rmul_tuple k t l its.toArray n dd sl) ⟨ho, rfl, ⟨_, ho, rfl⟩, ?_⟩
    refine call_meets F.slot_tuple_mul ⟨_, ho, rfl⟩ F.entry_tuple_mul (F.args_tuple_mul_2 _ _) (times_none l its.toArray n dd sl k t c0 c1 c2) ⟨ho, ?_⟩
    have hp : H s.heap.objs.size = none := I.hok.fresh (Nat.le_refl _)
    refine ⟨.ref s.heap.objs.size, _, I.laid (t' := s.toks) (o := .tup []) (fun b ob e => Heap.get?_push_of_some _ e) (Nat.le_refl _) ?_, rfl, q.new _ hp⟩
    exact ⟨Nat.zero_le _, [], .nil, IsTup.new _ _⟩
def rSlS (K : PySem.W.Frag) : V → Option Int → Option Int → Hp → VK → Prop := fun x lo hi H Q => ∃ a xs, x = .ref a ∧ SqT K H a xs ∧ someT K (cutV xs lo hi) H Q
theorem cutV_whole {xs : List V} {lo hi : Option Int} (h : HT.sIx xs.length 0 lo = 0 ∧ HT.sIx xs.length xs.length hi = xs.length) : cutV xs lo hi = xs := by
  unfold cutV
  rw [h.1, h.2, List.drop_zero, Nat.sub_zero, List.take_length]
theorem sl_tupS : SlR X (rSlS X.K) := by
  intro pins s σ H x v vl vu lo hi sl Q I rx hs pl pu h
  obtain ⟨a, xs, e, hx, q⟩ := h
  exact sl_tupA pins s σ H x v vl vu lo hi sl Q I rx hs pl pu ⟨a, xs, e, hx, fun w => q.old (by rw [cutV_whole w]; exact hx), fun _ => q.new⟩
end
end Vx

/-! sums and square matrices of ints modulo q, in plain Lean -/
namespace Vx
def sm : Nat → (Nat → Int) → Int
  | 0, _ => 0
  | n + 1, f => sm n f + f n
theorem sm_congr {n : Nat} {f g : Nat → Int} (h : ∀ k, k < n → f k = g k) : sm n f = sm n g := by
  induction n with
  | zero => rfl
  | succ n ih =>
    show sm n f + f n = sm n g + g n
    rw [ih fun k hk => h k (by omega), h n (by omega)]
theorem sm_zero (n : Nat) : sm n (fun _ => 0) = 0 := by
  induction n with
  | zero => rfl
  | succ n ih =>
    show sm n (fun _ => 0) + 0 = 0
    rw [ih]; rfl
theorem sm_zero' {n : Nat} {f : Nat → Int} (h : ∀ k, k < n → f k = 0) : sm n f = 0 := by
  rw [sm_congr h, sm_zero]
theorem sm_add (n : Nat) (f g : Nat → Int) : sm n (fun k => f k + g k) = sm n f + sm n g := by
  induction n with
  | zero => rfl
  | succ n ih =>
    show sm n (fun k => f k + g k) + (f n + g n) = (sm n f + f n) + (sm n g + g n)
    rw [ih]; omega
theorem sm_mulL (c : Int) (n : Nat) (f : Nat → Int) : sm n (fun k => c * f k) = c * sm n f := by
  induction n with
  | zero => show (0 : Int) = c * 0; omega
  | succ n ih =>
    show sm n (fun k => c * f k) + c * f n = c * (sm n f + f n)
    rw [ih, Int.mul_add]
theorem sm_mulR (c : Int) (n : Nat) (f : Nat → Int) : sm n (fun k => f k * c) = sm n f * c := by
  induction n with
  | zero => show (0 : Int) = 0 * c; omega
  | succ n ih =>
    show sm n (fun k => f k * c) + f n * c = (sm n f + f n) * c
    rw [ih, Int.add_mul]
theorem sm_comm (n m : Nat) (f : Nat → Nat → Int) : sm n (fun i => sm m fun j => f i j) = sm m fun j => sm n fun i => f i j := by
  induction n with
  | zero =>
    show (0 : Int) = sm m fun _ => 0
    rw [sm_zero]
  | succ n ih =>
    show sm n (fun i => sm m fun j => f i j) + sm m (fun j => f n j) = sm m fun j => (sm n fun i => f i j) + f n j
    rw [ih, sm_add]
/-- one term alone -/
theorem sm_one {n i : Nat} {f : Nat → Int} (hi : i < n) (h : ∀ k, k < n → k ≠ i → f k = 0) : sm n f = f i := by
  induction n with
  | zero => omega
  | succ n ih =>
    show sm n f + f n = f i
    by_cases e : i = n
    · subst e
      rw [sm_zero' fun k hk => h k (by omega) (by omega)]; omega
    · rw [ih (by omega) fun k hk => h k (by omega), h n (by omega) (by omega)]; omega
/-- the sum from one term on -/
theorem sm_split {n i : Nat} {f : Nat → Int} (hi : i ≤ n) (h : ∀ k, k < i → f k = 0) : sm n f = sm (n - i) fun k => f (i + k) := by
  induction n with
  | zero =>
    obtain rfl : i = 0 := by omega
    rfl
  | succ n ih =>
    by_cases e : i = n + 1
    · subst e
      rw [sm_zero' fun k hk => h k (by omega), Nat.sub_self]; rfl
    · have e2 : n + 1 - i = (n - i) + 1 := by omega
      rw [e2]
      show sm n f + f n = (sm (n - i) fun k => f (i + k)) + f (i + (n - i))
      rw [ih (by omega), show i + (n - i) = n by omega]
def Cg (q a b : Int) : Prop := a % q = b % q
theorem Cg.refl (q a : Int) : Cg q a a := rfl
theorem Cg.of_eq {q a b : Int} (h : a = b) : Cg q a b := by rw [h]; rfl
theorem Cg.symm {q a b : Int} (h : Cg q a b) : Cg q b a := Eq.symm h
theorem Cg.trans {q a b c : Int} (h : Cg q a b) (k : Cg q b c) : Cg q a c := Eq.trans h k
theorem Cg.add {q a b c d : Int} (h : Cg q a b) (k : Cg q c d) : Cg q (a + c) (b + d) := by
  unfold Cg at *
  rw [Int.add_emod, h, k, ← Int.add_emod]
theorem Cg.mul {q a b c d : Int} (h : Cg q a b) (k : Cg q c d) : Cg q (a * c) (b * d) := by
  unfold Cg at *
  rw [Int.mul_emod, h, k, ← Int.mul_emod]
theorem Cg.neg {q a b : Int} (h : Cg q a b) : Cg q (-a) (-b) := by
  have := (Cg.refl q (-1)).mul h
  simpa using this
theorem Cg.sub {q a b c d : Int} (h : Cg q a b) (k : Cg q c d) : Cg q (a - c) (b - d) := by
  rw [Int.sub_eq_add_neg, Int.sub_eq_add_neg]
  exact h.add k.neg
theorem Cg.mod (q a : Int) : Cg q (a % q) a := Int.emod_emod_of_dvd a (Int.dvd_refl q)
theorem Cg.eq {q a b : Int} (h : Cg q a b) (a0 : 0 ≤ a) (a1 : a < q) (b0 : 0 ≤ b) (b1 : b < q) : a = b := by
  unfold Cg at h
  rw [Int.emod_eq_of_lt a0 a1, Int.emod_eq_of_lt b0 b1] at h
  exact h
theorem sm_cg {q : Int} {n : Nat} {f g : Nat → Int} (h : ∀ k, k < n → Cg q (f k) (g k)) : Cg q (sm n f) (sm n g) := by
  induction n with
  | zero => exact .refl _ _
  | succ n ih => exact (ih fun k hk => h k (by omega)).add (h n (by omega))
/-! matrices as functions -/
abbrev Fm := Nat → Nat → Int
def mm (n : Nat) (A B : Fm) : Fm := fun i j => sm n fun k => A i k * B k j
def dl : Fm := fun i j => if i = j then 1 else 0
def Eqm (q : Int) (n : Nat) (A B : Fm) : Prop := ∀ i j, i < n → j < n → Cg q (A i j) (B i j)
theorem Eqm.refl (q : Int) (n : Nat) (A : Fm) : Eqm q n A A := fun _ _ _ _ => .refl _ _
theorem Eqm.symm {q : Int} {n : Nat} {A B : Fm} (h : Eqm q n A B) : Eqm q n B A := fun i j a b => (h i j a b).symm
theorem Eqm.trans {q : Int} {n : Nat} {A B C : Fm} (h : Eqm q n A B) (k : Eqm q n B C) : Eqm q n A C := fun i j a b => (h i j a b).trans (k i j a b)
theorem Eqm.mm {q : Int} {n : Nat} {A B C D : Fm} (h : Eqm q n A B) (k : Eqm q n C D) : Eqm q n (mm n A C) (mm n B D) := fun i j a b => sm_cg fun x hx => (h i x a hx).mul (k x j hx b)
theorem mm_assoc (n : Nat) (A B C : Fm) (i j : Nat) : mm n (mm n A B) C i j = mm n A (mm n B C) i j := by
  show sm n (fun k => (sm n fun l => A i l * B l k) * C k j) = sm n fun l => A i l * sm n fun k => B l k * C k j
  rw [sm_congr fun k _ => (sm_mulR (C k j) n fun l => A i l * B l k).symm, sm_comm]
  refine sm_congr fun l _ => ?_
  rw [← sm_mulL]
  exact sm_congr fun k _ => Int.mul_assoc _ _ _
theorem mm_assocE (q : Int) (n : Nat) (A B C : Fm) : Eqm q n (mm n (mm n A B) C) (mm n A (mm n B C)) := fun i j _ _ => .of_eq (mm_assoc n A B C i j)
theorem mm_oneL (q : Int) (n : Nat) (A : Fm) : Eqm q n (mm n dl A) A := fun i j a b => .of_eq (by
  show sm n (fun k => dl i k * A k j) = A i j
  rw [sm_one a fun k _ hk => by show (if i = k then (1 : Int) else 0) * A k j = 0; rw [if_neg (Ne.symm hk)]; omega]
  show (if i = i then (1 : Int) else 0) * A i j = A i j
  rw [if_pos rfl]; omega)
theorem mm_oneR (q : Int) (n : Nat) (A : Fm) : Eqm q n (mm n A dl) A := fun i j a b => .of_eq (by
  show sm n (fun k => A i k * dl k j) = A i j
  rw [sm_one b fun k _ hk => by show A i k * (if k = j then (1 : Int) else 0) = 0; rw [if_neg hk]; omega]
  show A i j * (if j = j then (1 : Int) else 0) = A i j
  rw [if_pos rfl]; omega)
/-- B is a right inverse of A -/
def RI (q : Int) (n : Nat) (A B : Fm) : Prop := Eqm q n (mm n A B) dl
/-- a right inverse with a right inverse of its own is a left inverse -/
theorem RI.left {q : Int} {n : Nat} {A B C : Fm} (h : RI q n A B) (k : RI q n B C) : RI q n B A := by
  have e1 : Eqm q n A C := (mm_oneR q n A).symm.trans (((Eqm.refl q n A).mm k.symm).trans ((mm_assocE q n A B C).symm.trans ((h.mm (.refl q n C)).trans (mm_oneL q n C))))
  exact ((Eqm.refl q n B).mm e1).trans k
/-- two right inverses are one, where one is a left inverse too -/
theorem RI.unique {q : Int} {n : Nat} {A B C : Fm} (h : RI q n A B) (k : RI q n A C) (l : RI q n B A) : Eqm q n B C :=
  (mm_oneR q n B).symm.trans (((Eqm.refl q n B).mm k.symm).trans ((mm_assocE q n B A C).symm.trans ((l.mm (.refl q n C)).trans (mm_oneL q n C))))
/-- unitriangular -/
def Ut (n : Nat) (A : Fm) : Prop := ∀ i j, i < n → j < n → (j < i → A i j = 0) ∧ (j = i → A i j = 1)
/-! a right inverse by back substitution -/
def bk (A : Fm) (j : Nat) : Nat → Int
  | 0 => 1
  | d + 1 => - sm (d + 1) (fun e => if h : e < d + 1 then A (j - (d + 1)) (j - e) * bk A j e else 0)
theorem bk_zero (A : Fm) (j : Nat) : bk A j 0 = 1 := by rw [bk]
theorem bk_succ (A : Fm) (j d : Nat) : bk A j (d + 1) = - sm (d + 1) (fun e => A (j - (d + 1)) (j - e) * bk A j e) := by
  rw [bk]
  congr 1
  exact sm_congr fun k hk => dif_pos hk
theorem sm_head (n : Nat) (f : Nat → Int) : sm (n + 1) f = f 0 + sm n (fun k => f (k + 1)) := by
  induction n with
  | zero => show (0 : Int) + f 0 = f 0 + 0; omega
  | succ n ih =>
    show sm (n + 1) f + f (n + 1) = f 0 + (sm n (fun k => f (k + 1)) + f (n + 1))
    rw [ih]; omega
/-- the sum counted from the other end -/
theorem sm_rev (n : Nat) (f : Nat → Int) : sm n f = sm n fun k => f (n - 1 - k) := by
  induction n generalizing f with
  | zero => rfl
  | succ n ih =>
    have h1 : sm (n + 1) f = f 0 + sm n (fun k => f (k + 1)) := by
      clear ih
      induction n with
      | zero => show (0 : Int) + f 0 = f 0 + 0; omega
      | succ n ih =>
        show sm (n + 1) f + f (n + 1) = f 0 + (sm n (fun k => f (k + 1)) + f (n + 1))
        rw [ih]; omega
    rw [h1, ih fun k => f (k + 1)]
    show f 0 + sm n (fun k => f (n - 1 - k + 1)) = sm n (fun k => f (n + 1 - 1 - k)) + f (n + 1 - 1 - n)
    rw [show n + 1 - 1 - n = 0 by omega, sm_congr (g := fun k => f (n + 1 - 1 - k)) fun k hk => by rw [show n - 1 - k + 1 = n + 1 - 1 - k by omega]]
    omega
theorem ut_has (q : Int) (n : Nat) (A : Fm) (h : Ut n A) : ∃ B : Fm, RI q n A B ∧ Ut n B := by
  refine ⟨fun i j => if i ≤ j then bk A j (j - i) else 0, fun i j hi hj => .of_eq ?_, fun i j hi hj => ⟨fun l => if_neg (by omega), fun l => ?_⟩⟩
  · show sm n (fun k => A i k * if k ≤ j then bk A j (j - k) else 0) = if i = j then 1 else 0
    by_cases hij : i ≤ j
    · -- terms k from i to j
      have e1 : sm n (fun k => A i k * if k ≤ j then bk A j (j - k) else 0) = sm (j + 1) (fun k => A i k * bk A j (j - k)) := by
        have : ∀ m, j + 1 ≤ m → sm m (fun k => A i k * if k ≤ j then bk A j (j - k) else 0) = sm (j + 1) (fun k => A i k * bk A j (j - k)) := by
          intro m hm
          induction m with
          | zero => omega
          | succ m ih =>
            by_cases e : j = m
            · subst e
              exact sm_congr fun k hk => by rw [if_pos (by omega)]
            · show sm m _ + A i m * (if m ≤ j then bk A j (j - m) else 0) = _
              rw [if_neg (by omega), ih (by omega)]; omega
        exact this n (by omega)
      rw [e1, sm_split (i := i) (by omega) fun k hk => by rw [((h i k hi (by omega)).1 hk)]; omega]
      by_cases e : i = j
      · subst e
        rw [show i + 1 - i = 1 by omega, if_pos rfl]
        show (0 : Int) + A i (i + 0) * bk A i (i - (i + 0)) = 1
        rw [Nat.add_zero, (h i i hi hi).2 rfl, Nat.sub_self, bk_zero]
        rfl
      · obtain ⟨d, rfl⟩ : ∃ d, j = i + (d + 1) := ⟨j - i - 1, by omega⟩
        rw [if_neg (by omega), show i + (d + 1) + 1 - i = (d + 1) + 1 by omega, sm_rev]
        show sm (d + 1) (fun k => A i (i + (d + 1 + 1 - 1 - k)) * bk A (i + (d + 1)) (i + (d + 1) - (i + (d + 1 + 1 - 1 - k)))) + A i (i + (d + 1 + 1 - 1 - (d + 1))) * bk A (i + (d + 1)) (i + (d + 1) - (i + (d + 1 + 1 - 1 - (d + 1)))) = 0
        rw [show i + (d + 1 + 1 - 1 - (d + 1)) = i by omega, show i + (d + 1) - i = d + 1 by omega, (h i i hi hi).2 rfl, bk_succ]
        rw [sm_congr (g := fun e => A (i + (d + 1) - (d + 1)) (i + (d + 1) - e) * bk A (i + (d + 1)) e) fun k hk => by
          rw [show i + (d + 1) - (i + (d + 1 + 1 - 1 - k)) = k by omega, show i + (d + 1 + 1 - 1 - k) = i + (d + 1) - k by omega, show i + (d + 1) - (d + 1) = i by omega]]
        omega
    · rw [if_neg (by omega)]
      refine sm_zero' fun k hk => ?_
      by_cases l : k ≤ j
      · rw [(h i k hi hk).1 (by omega)]; omega
      · rw [if_neg l]; omega
  · show (if i ≤ j then bk A j (j - i) else 0) = 1
    rw [if_pos (by omega), l, Nat.sub_self, bk_zero]
theorem ut_left {q : Int} {n : Nat} {A B : Fm} (hb : Ut n B) (h : RI q n A B) : RI q n B A := by
  obtain ⟨C, k, _⟩ := ut_has q n B hb
  exact h.left k
end Vx

namespace Vx
open PySem PySem.Spec PyProof.Rows L2
/-! data in the abstract heap: what keeps it -/
mutual
theorem dp_same {K : PySem.W.Frag} {H H' : Hp} (s : Same H H') : ∀ (d : PyData) (v : V), Dp K H v d → Dp K H' v d
  | .none, _, h => by cases h; exact .non
  | .bool b, _, h => by cases h; exact .bl b
  | .int i, _, h => by cases h; exact .int i
  | .str x, _, h => by cases h; exact .str x
  | .list ds, _, h => by cases h with | lst a b => exact .lst (s.seq a) (dpAll_same s ds _ b)
  | .tuple ds, _, h => by cases h with | tup a b => exact .tup (Same.seqT s a) (dpAll_same s ds _ b)
  | .dict kvs, _, h => by cases h
theorem dpAll_same {K : PySem.W.Frag} {H H' : Hp} (s : Same H H') : ∀ (ds : List PyData) (vs : List V), DpAll K H vs ds → DpAll K H' vs ds
  | [], _, h => by cases h; exact .nil
  | d :: ds, _, h => by cases h with | cons a b => exact .cons (dp_same s d _ a) (dpAll_same s ds _ b)
end
theorem DpAll.app {K : PySem.W.Frag} {H : Hp} : ∀ {vs ws : List V} {ds es : List PyData}, DpAll K H vs ds → DpAll K H ws es → DpAll K H (vs ++ ws) (ds ++ es)
  | _, _, _, _, .nil, h => h
  | _, _, _, _, .cons a b, h => .cons a (DpAll.app b h)
theorem DpAll.len {K : PySem.W.Frag} {H : Hp} : ∀ {vs : List V} {ds : List PyData}, DpAll K H vs ds → vs.length = ds.length
  | _, _, .nil => rfl
  | _, _, .cons _ b => congrArg (· + 1) (DpAll.len b)
theorem DpAll.get {K : PySem.W.Frag} {H : Hp} : ∀ {vs : List V} {ds : List PyData} {i : Nat} {d : PyData}, DpAll K H vs ds → ds[i]? = some d → ∃ v, vs[i]? = some v ∧ Dp K H v d
  | _, _, _, _, .nil, h => by simp at h
  | _, _, 0, _, .cons a b, h => by simp at h; subst h; exact ⟨_, rfl, a⟩
  | _, _, i + 1, d, .cons a b, h => by
    obtain ⟨v, e, k⟩ := DpAll.get (i := i) b (by simpa using h)
    exact ⟨v, by simpa using e, k⟩
theorem DpAll.of {K : PySem.W.Frag} {H : Hp} : ∀ {vs : List V} {ds : List PyData} {i : Nat} {v : V}, DpAll K H vs ds → vs[i]? = some v → ∃ d, ds[i]? = some d ∧ Dp K H v d
  | _, _, _, _, .nil, h => by simp at h
  | _, _, 0, _, .cons a b, h => by simp at h; subst h; exact ⟨_, rfl, a⟩
  | _, _, i + 1, d, .cons a b, h => by
    obtain ⟨v, e, k⟩ := DpAll.of (i := i) b (by simpa using h)
    exact ⟨v, by simpa using e, k⟩
theorem DpAll.set {K : PySem.W.Frag} {H : Hp} {v : V} {d : PyData} (k : Dp K H v d) : ∀ {vs : List V} {ds : List PyData} (i : Nat), DpAll K H vs ds → DpAll K H (vs.set i v) (ds.set i d)
  | _, _, _, .nil => .nil
  | _, _, 0, .cons _ b => .cons k b
  | _, _, i + 1, .cons a b => .cons a (DpAll.set k i b)
theorem dpAll_of {K : PySem.W.Frag} {H : Hp} : ∀ {vs : List V} {ds : List PyData}, vs.length = ds.length → (∀ (i : Nat) (d : PyData), ds[i]? = some d → ∃ v, vs[i]? = some v ∧ Dp K H v d) → DpAll K H vs ds
  | [], [], _, _ => .nil
  | v :: vs, d :: ds, h, k => by
    obtain ⟨v', e, k0⟩ := k 0 d rfl
    obtain rfl : v = v' := by simpa using e
    refine .cons k0 (dpAll_of (by simpa using h) fun i d' hd => ?_)
    obtain ⟨w, e, k1⟩ := k (i + 1) d' (by simpa using hd)
    exact ⟨w, by simpa using e, k1⟩
  | [], _ :: _, h, _ => by simp at h
  | _ :: _, [], h, _ => by simp at h
theorem dp_tuple {K : PySem.W.Frag} {H : Hp} {v : V} {ds : List PyData} (h : Dp K H v (.tuple ds)) : ∃ a xs, v = .ref a ∧ SqT K H a xs ∧ DpAll K H xs ds := by
  cases h with
  | tup a b => exact ⟨_, _, rfl, a, b⟩
theorem dp_int {K : PySem.W.Frag} {H : Hp} {v : V} {i : Int} (h : Dp K H v (.int i)) : v = .int i := by cases h; rfl
theorem dp_ints_eq {K : PySem.W.Frag} {H : Hp} : ∀ {ns : List Int} {vs : List V}, DpAll K H vs (ns.map PyData.int) → vs = ns.map V.int
  | [], _, h => by cases h; rfl
  | n :: ns, _, h => by
    cases h with
    | cons a b =>
      rw [dp_int a, dp_ints_eq b]
      rfl
/-! no list within: a change of a list does not touch it -/
mutual
def noL : PyData → Bool
  | .list _ => false
  | .dict _ => false
  | .tuple ds => noLs ds
  | _ => true
def noLs : List PyData → Bool
  | [] => true
  | d :: ds => noL d && noLs ds
end
/-- p holds something that may change -/
def Chg (H : Hp) (p : Addr) : Prop := (∃ xs, H p = some (.lst xs)) ∨ ∃ kvs, H p = some (.dK kvs)
theorem Chg.tup {K : PySem.W.Frag} {H H' : Hp} {p a : Addr} {xs : List V} (c : Chg H p) (b : But p H H') (h : SqT K H a xs) : SqT K H' a xs := by
  have ne : ∀ o, H a = some o → (∀ zs, o ≠ .lst zs) → (∀ zs, o ≠ .dK zs) → a ≠ p := fun o e n1 n2 q => by
    subst q
    rcases c with ⟨zs, c⟩ | ⟨zs, c⟩ <;> rw [e] at c
    · exact n1 zs (Option.some.inj c)
    · exact n2 zs (Option.some.inj c)
  rcases h with (h | ⟨o, h⟩) | h
  · exact .inl (.inl (b _ _ (ne _ h (fun _ => nofun) (fun _ => nofun)) h))
  · exact .inl (.inr ⟨o, b _ _ (ne _ h (fun _ => nofun) (fun _ => nofun)) h⟩)
  · exact .inr h
theorem Chg.frz {H H' : Hp} {p a : Addr} {o : Obj} {u : HO} (c : Chg H p) (b : But p H H') (h : H a = some (.frz o u)) : H' a = some (.frz o u) := by
  refine b _ _ (fun q => ?_) h
  subst q
  rcases c with ⟨zs, c⟩ | ⟨zs, c⟩ <;> (rw [h] at c; cases c)
mutual
theorem dp_but {K : PySem.W.Frag} {H H' : Hp} {p : Addr} (c : Chg H p) (s : But p H H') : ∀ (d : PyData) (v : V), noL d = true → Dp K H v d → Dp K H' v d
  | .none, _, _, h => by cases h; exact .non
  | .bool b, _, _, h => by cases h; exact .bl b
  | .int i, _, _, h => by cases h; exact .int i
  | .str x, _, _, h => by cases h; exact .str x
  | .list ds, _, n, h => by cases n
  | .tuple ds, _, n, h => by cases h with | tup a b => exact .tup (c.tup s a) (dpAll_but c s ds _ n b)
  | .dict kvs, _, _, h => by cases h
theorem dpAll_but {K : PySem.W.Frag} {H H' : Hp} {p : Addr} (c : Chg H p) (s : But p H H') : ∀ (ds : List PyData) (vs : List V), noLs ds = true → DpAll K H vs ds → DpAll K H' vs ds
  | [], _, _, h => by cases h; exact .nil
  | d :: ds, _, n, h => by
    cases h with
    | cons a b =>
      have n2 := (Bool.and_eq_true _ _).mp n
      exact .cons (dp_but c s d _ n2.1 a) (dpAll_but c s ds _ n2.2 b)
end
theorem Pen.chg {K : PySem.W.Frag} {H : Hp} {p : Addr} (h : Pen K H p) : Chg H p := by
  obtain ⟨c, ns, i, m, h1, _⟩ := h
  exact .inl ⟨_, h1⟩
/-! matrices -/
abbrev Mx := List (List Int)
def rowD (r : List Int) : PyData := .tuple (r.map PyData.int)
def mat (M : Mx) : PyData := .tuple (M.map rowD)
def ent (M : Mx) : Fm := fun i j => (M.getD i []).getD j 0
structure Sq (n : Nat) (M : Mx) : Prop where
  h : M.length = n
  w : ∀ r ∈ M, r.length = n
def Rs (q : Int) (n : Nat) (M : Mx) : Prop := ∀ i j, i < n → j < n → 0 ≤ ent M i j ∧ ent M i j < q
theorem noL_row (r : List Int) : noL (rowD r) = true := by
  show noLs (r.map PyData.int) = true
  induction r with
  | nil => rfl
  | cons a r ih => exact ih
theorem noL_mat (M : Mx) : noL (mat M) = true := by
  show noLs (M.map rowD) = true
  induction M with
  | nil => rfl
  | cons a r ih =>
    show (noL (rowD a) && noLs (r.map rowD)) = true
    rw [noL_row, ih]
    rfl
theorem canLay_mat (M : Mx) : PyData.canLayAll0 (M.map rowD) = true := by
  induction M with
  | nil => rfl
  | cons a r ih =>
    show (PyData.canLayAll0 (a.map PyData.int) && PyData.canLayAll0 (r.map rowD)) = true
    rw [lay_ints, ih]
    rfl
theorem depth_mat (M : Mx) : PyData.depthAll (M.map rowD) ≤ 1 := by
  induction M with
  | nil => exact Nat.zero_le _
  | cons a r ih =>
    show max (PyData.depthAll (a.map PyData.int) + 1) (PyData.depthAll (r.map rowD)) ≤ 1
    rw [depth_ints]
    omega
theorem shaped_mat (M : Mx) : SeqAt.shaped (mat M) = true := by
  show (PyData.canLayAll0 (M.map rowD) && decide (PyData.depthAll (M.map rowD) + 1 ≤ 64)) = true
  rw [canLay_mat, decide_eq_true (by have := depth_mat M; omega)]
  rfl
theorem shaped_row (r : List Int) : SeqAt.shaped (rowD r) = true := by
  show (PyData.canLayAll0 (r.map PyData.int) && decide (PyData.depthAll (r.map PyData.int) + 1 ≤ 64)) = true
  rw [lay_ints, depth_ints]
  rfl
theorem eqv_same {d : PyData} (h : SeqAt.shaped d = true) : PyData.eqv d d = true := SeqAt.eqv_refl d (SeqAt.canLay_of_shaped h)
theorem mx_ext {n : Nat} {M N : Mx} (a : Sq n M) (b : Sq n N) (h : ∀ i j, i < n → j < n → ent M i j = ent N i j) : M = N := by
  refine List.ext_getElem (a.h.trans b.h.symm) fun i h1 h2 => ?_
  have r1 := a.w _ (List.getElem_mem h1)
  have r2 := b.w _ (List.getElem_mem h2)
  refine List.ext_getElem (r1.trans r2.symm) fun j h3 h4 => ?_
  have e := h i j (by rw [← a.h]; exact h1) (by rw [← r1]; exact h3)
  unfold ent at e
  simpa only [List.getD_eq_getElem?_getD, List.getElem?_eq_getElem h1, List.getElem?_eq_getElem h2, Option.getD_some, List.getElem?_eq_getElem h3, List.getElem?_eq_getElem h4] using e
/-- a matrix's row, an entry, as the heap has them -/
theorem mat_row {K : PySem.W.Frag} {H : Hp} {v : V} {M : Mx} (h : Dp K H v (mat M)) : ∃ (a : Addr) (xs : List V), v = .ref a ∧ SqT K H a xs ∧ xs.length = M.length ∧ ∀ (i : Nat) (r : List Int), M[i]? = some r → ∃ t : Addr, xs[i]? = some (.ref t) ∧ SqT K H t (r.map V.int) := by
  obtain ⟨a, xs, e, hs, hd⟩ := dp_tuple h
  refine ⟨a, xs, e, hs, by rw [DpAll.len hd, List.length_map], fun i r hr => ?_⟩
  obtain ⟨v, e1, k⟩ := DpAll.get (i := i) (d := rowD r) hd (by rw [List.getElem?_map, hr]; rfl)
  obtain ⟨t, ys, rfl, k1, k2⟩ := dp_tuple (ds := r.map PyData.int) k
  rw [dp_ints_eq k2] at k1
  exact ⟨t, e1, k1⟩
theorem dp_row {K : PySem.W.Frag} {H : Hp} {t : Addr} {r : List Int} (h : SqT K H t (r.map V.int)) : Dp K H (.ref t) (rowD r) := .tup h (dp_ints K H r)
theorem row_get {n : Nat} {M : Mx} (h : Sq n M) {i : Nat} (hi : i < n) : ∃ r, M[i]? = some r ∧ r.length = n ∧ ∀ j, j < n → r[j]? = some (ent M i j) := by
  have h1 : i < M.length := by rw [h.h]; exact hi
  refine ⟨M[i], List.getElem?_eq_getElem h1, h.w _ (List.getElem_mem h1), fun j hj => ?_⟩
  have h2 : j < (M[i]).length := by rw [h.w _ (List.getElem_mem h1)]; exact hj
  unfold ent
  rw [List.getD_eq_getElem?_getD, List.getD_eq_getElem?_getD, List.getElem?_eq_getElem h1, Option.getD_some, List.getElem?_eq_getElem h2]
  rfl
theorem at_of {xs : List Int} {j : Nat} {x : Int} (h : xs[j]? = some x) : atI (xs.map V.int) (j : Int) = some (.int x) := atI_nat (by rw [List.getElem?_map, h]; rfl)
/-! what is shown -/
section
variable {X : Cx}
def rRepr (K : PySem.W.Frag) : List V → Hp → VK → Prop := fun xs H Q => ∃ a d, xs = [.ref a] ∧ Dp K H (.ref a) d ∧ d.hasDict = false ∧ d.showable = true ∧ d.depth ≤ 32 ∧ d.shown.length ≤ sizeLine ∧ Q (.str d.shown) H
theorem call_reprD (hg : X.A.guards = some []) (hu : X.A.units + 64 < cLine) : CallR X (.builtin "repr") (rRepr X.K) := by
  intro pins s σ H xs us Q I r h
  obtain ⟨a, d, rfl, hd, n1, n2, n3, n4, q⟩ := h
  obtain ⟨u, rfl, ru⟩ := vals1 r
  obtain rfl : u = Value.ref a := ru
  obtain ⟨as, rd⟩ := Dp.reads I d _ _ hd rfl
  exact repr_of_reads' rd n2 (PyData.noDict_hsm n1) hg (by omega) (fun _ _ e => e) (fun h' u tk hk => ⟨.str d.shown, H, I.kept hk, ⟨u, rfl⟩, q⟩) n4
end
end Vx

namespace Vx
open PySem PySem.Spec PyProof.Rows L2
/-! a matrix of small residues can be shown -/
theorem small_int {x : Int} (h0 : 0 ≤ x) (h : x < 1000000) : PyData.weight (.int x) ≤ 21 ∧ PyData.showable (.int x) = true ∧ PyData.intsShort 13 (.int x) = true := by
  have l : x.natAbs.log2 < 20 := by
    by_cases e : x.natAbs = 0
    · rw [e]; decide
    · exact (Nat.log2_lt e).mpr (by omega)
  refine ⟨?_, decide_eq_true (Nat.lt_of_lt_of_le l (by decide)), ?_⟩
  · show (if (x == 0) = true then 0 else x.natAbs.log2 + 1) ≤ 21
    split <;> omega
  · exact decide_eq_true (PyData.shown_int_le (Nat.lt_of_lt_of_le (show x.natAbs < 1000000 by omega) (by decide)))
theorem small_row {r : List Int} (h : ∀ x ∈ r, 0 ≤ x ∧ x < 1000000) : PyData.weightAll (r.map PyData.int) ≤ 22 * r.length ∧ PyData.showableAll (r.map PyData.int) = true ∧ PyData.intsShortAll 13 (r.map PyData.int) = true := by
  induction r with
  | nil => exact ⟨Nat.le_refl _, rfl, rfl⟩
  | cons a r ih =>
    obtain ⟨h1, h2, h3⟩ := ih fun x hx => h x (List.mem_cons_of_mem _ hx)
    obtain ⟨k1, k2, k3⟩ := small_int (h a List.mem_cons_self).1 (h a List.mem_cons_self).2
    refine ⟨?_, (Bool.and_eq_true _ _).mpr ⟨k2, h2⟩, (Bool.and_eq_true _ _).mpr ⟨k3, h3⟩⟩
    simp only [List.map_cons, PyData.weightAll, List.length_cons]
    omega
theorem small_rows {M : Mx} {n : Nat} (hw : ∀ r ∈ M, r.length = n) (h : ∀ r ∈ M, ∀ x ∈ r, 0 ≤ x ∧ x < 1000000) :
    PyData.weightAll (M.map rowD) ≤ (22 * n + 1) * M.length ∧ PyData.showableAll (M.map rowD) = true ∧ PyData.intsShortAll 13 (M.map rowD) = true := by
  induction M with
  | nil => exact ⟨Nat.zero_le _, rfl, rfl⟩
  | cons a r ih =>
    obtain ⟨h1, h2, h3⟩ := ih (fun x hx => hw x (List.mem_cons_of_mem _ hx)) fun x hx => h x (List.mem_cons_of_mem _ hx)
    obtain ⟨k1, k2, k3⟩ := small_row (h a List.mem_cons_self)
    have e := hw a List.mem_cons_self
    refine ⟨?_, (Bool.and_eq_true _ _).mpr ⟨k2, h2⟩, (Bool.and_eq_true _ _).mpr ⟨k3, h3⟩⟩
    rw [e] at k1
    simp only [List.map_cons, PyData.weightAll, List.length_cons, rowD, PyData.weight]
    rw [Nat.mul_add]
    omega
theorem rs_small {q : Int} {n : Nat} {M : Mx} (hs : Sq n M) (h : Rs q n M) (hq : q ≤ 1000) : ∀ r ∈ M, ∀ x ∈ r, 0 ≤ x ∧ x < 1000000 := by
  intro r hr x hx
  obtain ⟨i, hi, rfl⟩ := List.mem_iff_getElem.mp hr
  obtain ⟨j, hj, rfl⟩ := List.mem_iff_getElem.mp hx
  have h1 : i < n := by rw [← hs.h]; exact hi
  have h2 : j < n := by rw [← hs.w _ (List.getElem_mem hi)]; exact hj
  have e : ent M i j = M[i][j] := by
    unfold ent
    simp only [List.getD_eq_getElem?_getD, List.getElem?_eq_getElem hi, Option.getD_some, List.getElem?_eq_getElem hj]
  have := h i j h1 h2
  rw [e] at this
  omega
/-- what repr asks of a matrix -/
theorem mat_shows {q : Int} {n : Nat} {M : Mx} (hs : Sq n M) (h : Rs q n M) (hq : q ≤ 1000) (hn : n ≤ 30) : (mat M).hasDict = false ∧ (mat M).showable = true ∧ (mat M).depth ≤ 32 ∧ (mat M).shown.length ≤ sizeLine := by
  obtain ⟨k1, k2, k3⟩ := small_rows hs.w (rs_small hs h hq)
  have d := depth_mat M
  have lay : PyData.layable0 (mat M) = true := by
    show (PyData.canLayAll0 (M.map rowD) && decide (PyData.depthAll (M.map rowD) + 1 ≤ 64) && decide (PyData.weightAll (M.map rowD) ≤ 2 ^ 20)) = true
    rw [hs.h] at k1
    have : (22 * n + 1) * n ≤ (22 * 30 + 1) * 30 := Nat.mul_le_mul (by omega) hn
    rw [canLay_mat, decide_eq_true (by omega), decide_eq_true (Nat.le_trans k1 (Nat.le_trans this (by decide)))]
    rfl
  refine ⟨PyData.hasDict_of_layable lay, k2, ?_, PyData.shown_fits_of_layable0 (B := 13) (by decide) (by decide) lay k3⟩
  show PyData.depthAll (M.map rowD) + 1 ≤ 32
  omega
end Vx

namespace Vx
open PySem PySem.Spec PyProof.Rows L2
/-! comprehensions that make data -/
theorem same_mut {H H' : Hp} {p : Addr} {o : HO} (e : Same H H') (h : H p = none) : Same H (upd H' p o) := fun a u ha => by
  rw [upd_ne (ne_of_none ha h)]
  exact e a u ha
/-- from H' to H4: data without lists is kept, and the list at D -/
structure Stay (K : PySem.W.Frag) (D : Addr) (H' H4 : Hp) : Prop where
  d : H4 D = H' D
  k : ∀ vs ds, noLs ds = true → DpAll K H' vs ds → DpAll K H4 vs ds
theorem Stay.same {K : PySem.W.Frag} {D : Addr} {H' H4 : Hp} {o : HO} (s : Same H' H4) (h : H' D = some o) : Stay K D H' H4 := ⟨(s _ _ h).trans h.symm, fun vs ds _ x => dpAll_same s ds vs x⟩
theorem Stay.but {K : PySem.W.Frag} {p D : Addr} {H' H4 : Hp} {o : HO} (s : But p H' H4) (c : Chg H' p) (h : H' D = some o) (n : D ≠ p) : Stay K D H' H4 := ⟨(s _ _ n h).trans h.symm, fun vs ds e x => dpAll_but c s ds vs e x⟩
/-- i items are made: their data -/
def Made (K : PySem.W.Frag) (D : Addr) (f : Nat → PyData → Prop) (G : Hp → Prop) (i : Nat) (H : Hp) : Prop :=
  ∃ acc ds, H D = some (.lst acc) ∧ DpAll K H acc ds ∧ noLs ds = true ∧ ds.length = i ∧ (∀ k d, ds[k]? = some d → f k d) ∧ G H
theorem noLs_app : ∀ {a b : List PyData}, noLs a = true → noLs b = true → noLs (a ++ b) = true
  | [], _, _, h => h
  | x :: a, b, h, k => by
    have h2 := (Bool.and_eq_true _ _).mp h
    exact (Bool.and_eq_true _ _).mpr ⟨h2.1, noLs_app h2.2 k⟩
theorem Made.start {K : PySem.W.Frag} {D : Addr} {f : Nat → PyData → Prop} {G : Hp → Prop} {H : Hp} (g : G (upd H D (.lst []))) : Made K D f G 0 (upd H D (.lst [])) :=
  ⟨[], [], upd_same, .nil, rfl, rfl, fun k d h => by simp at h, g⟩
theorem Made.next {K : PySem.W.Frag} {D : Addr} {f : Nat → PyData → Prop} {G : Hp → Prop} {i : Nat} {H' H4 : Hp} {y : V} {d : PyData} (m : Made K D f G i H') (s : Stay K D H' H4) (n : noL d = true) (hd : Dp K H4 y d) (hf : f i d) (hi : i ≤ 100000)
    (g : ∀ acc, G (upd H4 D (.lst acc))) : ∃ acc, H4 D = some (.lst acc) ∧ acc.length < sizeLine ∧ Made K D f G (i + 1) (upd H4 D (.lst (acc ++ [y]))) := by
  obtain ⟨acc, ds, e, k, no, len, hk, _⟩ := m
  have e4 : H4 D = some (.lst acc) := s.d.trans e
  have c4 : Chg H4 D := .inl ⟨acc, e4⟩
  have k4 := s.k _ _ no k
  have n1 : noLs [d] = true := by show (noL d && true) = true; rw [n]; rfl
  have n2 := noLs_app no n1
  refine ⟨acc, e4, ?_, _, ds ++ [d], upd_same, dpAll_but c4 .upd _ _ n2 (DpAll.app k4 (.cons hd .nil)), n2, by rw [List.length_append, len]; rfl, fun q d' h => ?_, g _⟩
  · rw [DpAll.len k4, len]
    exact Nat.lt_of_le_of_lt hi (by decide)
  · by_cases l : q < ds.length
    · rw [List.getElem?_append_left l] at h
      exact hk q d' h
    · rw [List.getElem?_append_right (by omega)] at h
      have : q = ds.length := by
        by_cases z : q - ds.length = 0
        · omega
        · rw [List.getElem?_eq_none (by simp; omega)] at h
          cases h
      subst this
      rw [Nat.sub_self] at h
      obtain rfl : d = d' := by simpa using h
      rw [len]
      exact hf
/-- the turns of a comprehension over I whose target is the name at j, without a test -/
def LcOf (I : It) (j : Nat) (te : TE) (vs : List Nat) (σ : L2.St) (H1 : Hp) (D : Addr) (Qd : Hp → Prop) : Prop :=
  ∃ U : Nat → Nat → Hp → Prop, (∃ k, U 0 k (upd H1 D (.lst []))) ∧ ∀ n k h, U n k h → (I.stop n h ∧ Qd h) ∨ (I.go n h ∧ ∃ Z : Hp → Prop, (∀ h', Z h' → ∃ k', k' < k ∧ U (n + 1) k' h') ∧
    ∀ z h', I.yld n h z h' → gName j z (wipe σ vs) h' fun ρ h2 => wipe ρ vs = wipe σ vs ∧ tYes ρ h2 fun c h3 => if c = true then te ρ h3 fun y h4 => ∃ made, h4 D = some (.lst made) ∧ made.length < sizeLine ∧ Z (upd h4 D (.lst (made ++ [y]))) else Z h3)
theorem lc_rangeD {K : PySem.W.Frag} {lo : Int} {n j : Nat} {te : TE} {vs : List Nat} {σ : L2.St} {H1 : Hp} {D : Addr} {Qd : Hp → Prop} (G : Hp → Prop) (f : Nat → PyData → Prop) (hn : n ≤ 100000) (h0 : G (upd H1 D (.lst [])))
    (hw : ∀ v, wipe ((wipe σ vs).set j (some v)) vs = wipe σ vs)
    (hs : ∀ i H', i < n → Made K D f G i H' → ∀ Q : VK, (∀ y d H4, Stay K D H' H4 → noL d = true → Dp K H4 y d → f i d → (∀ acc, G (upd H4 D (.lst acc))) → Q y H4) → te ((wipe σ vs).set j (some (.int (lo + i)))) H' Q)
    (hd : ∀ H, Made K D f G n H → Qd H) :
    LcOf (Itr lo n) j te vs σ H1 D Qd := by
  refine lc_range (Made K D f G) (.start h0) (fun i H' hi m => ?_) hd
  refine ⟨hw _, ?_⟩
  show te _ H' _
  exact hs i H' hi m _ fun y d H4 s no hd hf g => m.next s no hd hf (by omega) g
/-- what a comprehension over anything says of a turn: for lists and tuples -/
theorem lc_tupD {K : PySem.W.Frag} {a : Addr} {xs : List V} {j : Nat} {te : TE} {vs : List Nat} {σ : L2.St} {H1 : Hp} {D : Addr} {Qd : Hp → Prop} (G : Hp → Prop) (f : Nat → PyData → Prop) (hn : xs.length ≤ 100000) (h0 : G (upd H1 D (.lst [])))
    (hl : ∀ H', G H' → SqT K H' a xs) (hw : ∀ v, wipe ((wipe σ vs).set j (some v)) vs = wipe σ vs)
    (hs : ∀ i x H', xs[i]? = some x → Made K D f G i H' → ∀ Q : VK, (∀ y d H4, Stay K D H' H4 → noL d = true → Dp K H4 y d → f i d → (∀ acc, G (upd H4 D (.lst acc))) → Q y H4) → te ((wipe σ vs).set j (some x)) H' Q)
    (hd : ∀ H, Made K D f G xs.length H → Qd H) :
    LcOf (Itt K a) j te vs σ H1 D Qd := by
  refine lc_tup (K := K) (a := a) (xs := xs) (Made K D f G) (.start h0) (fun i H' _ m => hl H' m.choose_spec.choose_spec.2.2.2.2.2) (fun i x H' hi m => ?_) hd
  refine ⟨hw _, ?_⟩
  show te _ H' _
  have l := (List.getElem?_eq_some_iff.mp hi).1
  exact hs i x H' hi m _ fun y d H4 s no hd hf g => m.next s no hd hf (by omega) g
theorem lc_listD {K : PySem.W.Frag} {a : Addr} {xs : List V} {j : Nat} {te : TE} {vs : List Nat} {σ : L2.St} {H1 : Hp} {D : Addr} {Qd : Hp → Prop} (G : Hp → Prop) (f : Nat → PyData → Prop) (hn : xs.length ≤ 100000) (h0 : G (upd H1 D (.lst [])))
    (hl : ∀ H', G H' → SqL K H' a xs) (hw : ∀ v, wipe ((wipe σ vs).set j (some v)) vs = wipe σ vs)
    (hs : ∀ i x H', xs[i]? = some x → Made K D f G i H' → ∀ Q : VK, (∀ y d H4, Stay K D H' H4 → noL d = true → Dp K H4 y d → f i d → (∀ acc, G (upd H4 D (.lst acc))) → Q y H4) → te ((wipe σ vs).set j (some x)) H' Q)
    (hd : ∀ H, Made K D f G xs.length H → Qd H) :
    LcOf (Itl K a) j te vs σ H1 D Qd := by
  refine lc_list (K := K) (a := a) (xs := xs) (Made K D f G) (.start h0) (fun i H' _ m => hl H' m.choose_spec.choose_spec.2.2.2.2.2) (fun i x H' hi m => ?_) hd
  refine ⟨hw _, ?_⟩
  show te _ H' _
  have l := (List.getElem?_eq_some_iff.mp hi).1
  exact hs i x H' hi m _ fun y d H4 s no hd hf g => m.next s no hd hf (by omega) g
/-- the data of a made list as a function of the place -/
theorem made_eq {ds : List PyData} {n : Nat} {g : Nat → PyData} (hl : ds.length = n) (h : ∀ k d, ds[k]? = some d → d = g k) : ds = (List.range n).map g := by
  refine List.ext_getElem (by rw [hl, List.length_map, List.length_range]) fun i h1 h2 => ?_
  rw [h i _ (List.getElem?_eq_getElem h1), List.getElem_map, List.getElem_range]
/-- some new data -/
def someD (K : PySem.W.Frag) (d : PyData) (H : Hp) (Q : VK) : Prop := ∀ (a : Addr) (H' : Hp), Same H H' → Dp K H' (.ref a) d → Q (.ref a) H'
/-- o[i] of a list, at a place counted from the left, by values -/
def rGetN (K : PySem.W.Frag) : V → V → Hp → VK → Prop := fun x y H Q => ∃ (p : Addr) (xs : List V) (j : Nat) (v : V), x = .ref p ∧ y = .int (j : Int) ∧ SqL K H p xs ∧ xs[j]? = some v ∧ Q v H
theorem get_list {X : Cx} : PGet X (rGetN X.K) := by
  intro pins s σ H o i ov iv Q I ro ri h
  obtain ⟨p, xs, j, v, rfl, rfl, hq, he, q⟩ := h
  cases ro
  obtain ⟨t, rfl⟩ := ri
  obtain ⟨its, r, pl, hz⟩ := I.list hq
  obtain ⟨w, ew, rw'⟩ := r.get he
  have hl := (List.getElem?_eq_some_iff.mp he).1
  have hn := line63
  exact wpAny_getItem_list pl.isList (by omega) (by omega) (by simpa using ew) ⟨v, H, I, rw', q⟩
end Vx

namespace Vx
open PySem PySem.Spec PyProof.Rows L2
/-! rows and matrices that are written by rules -/
def fnRow (n : Nat) (f : Nat → Int) : List Int := (List.range n).map f
def fnMx (n : Nat) (f : Fm) : Mx := (List.range n).map fun i => fnRow n (f i)
theorem fnRow_get {n j : Nat} {f : Nat → Int} (h : j < n) : (fnRow n f)[j]? = some (f j) := by
  unfold fnRow
  rw [List.getElem?_map, List.getElem?_range h]
  rfl
theorem fnRow_len (n : Nat) (f : Nat → Int) : (fnRow n f).length = n := by unfold fnRow; rw [List.length_map, List.length_range]
theorem fnMx_sq (n : Nat) (f : Fm) : Sq n (fnMx n f) := by
  constructor
  · unfold fnMx
    rw [List.length_map, List.length_range]
  · intro r hr
    unfold fnMx at hr
    obtain ⟨i, _, rfl⟩ := List.mem_map.mp hr
    exact fnRow_len _ _
theorem fnMx_ent {n : Nat} (f : Fm) {i j : Nat} (hi : i < n) (hj : j < n) : ent (fnMx n f) i j = f i j := by
  unfold ent fnMx
  rw [List.getD_eq_getElem?_getD, List.getD_eq_getElem?_getD, List.getElem?_map, List.getElem?_range hi]
  show (fnRow n (f i))[j]?.getD 0 = f i j
  rw [fnRow_get hj]
  rfl
/-- a matrix from its rows -/
theorem mx_rows {n : Nat} {M : Mx} (h : M.length = n) (f : Fm) (k : ∀ i r, M[i]? = some r → r = fnRow n (f i)) : M = fnMx n f := by
  show M = (List.range n).map fun i => fnRow n (f i)
  refine List.ext_getElem (by rw [h, List.length_map, List.length_range]) fun i h1 h2 => ?_
  rw [k i _ (List.getElem?_eq_getElem h1), List.getElem_map, List.getElem_range]
/-- a row of a unitriangular matrix of residues -/
def UtRow (q : Int) (n i : Nat) (r : List Int) : Prop := r.length = n ∧ (∀ j, j < i → r[j]? = some 0) ∧ r[i]? = some 1 ∧ ∀ (j : Nat) (x : Int), r[j]? = some x → 0 ≤ x ∧ x < q
structure UT (q : Int) (n : Nat) (M : Mx) : Prop where
  s : Sq n M
  r : Rs q n M
  u : Ut n (ent M)
theorem ut_rows {q : Int} {n : Nat} {M : Mx} (h : M.length = n) (k : ∀ i r, M[i]? = some r → UtRow q n i r) : UT q n M := by
  have row : ∀ i, i < n → ∃ r, M[i]? = some r ∧ UtRow q n i r := fun i hi => ⟨M[i], List.getElem?_eq_getElem (by omega), k i _ (List.getElem?_eq_getElem (by omega))⟩
  have en : ∀ i j, i < n → j < n → ∃ x, ent M i j = x ∧ ∃ r, UtRow q n i r ∧ r[j]? = some x := fun i j hi hj => by
    obtain ⟨r, e, u⟩ := row i hi
    have hl := u.1
    refine ⟨r[j], ?_, r, u, List.getElem?_eq_getElem (by omega)⟩
    unfold ent
    rw [List.getD_eq_getElem?_getD, List.getD_eq_getElem?_getD, e, Option.getD_some, List.getElem?_eq_getElem (by omega)]
    rfl
  refine ⟨⟨h, fun r hr => ?_⟩, fun i j hi hj => ?_, fun i j hi hj => ⟨fun l => ?_, fun l => ?_⟩⟩
  · obtain ⟨i, hi, rfl⟩ := List.mem_iff_getElem.mp hr
    exact (k i _ (List.getElem?_eq_getElem hi)).1
  · obtain ⟨x, e, r, u, ex⟩ := en i j hi hj
    rw [e]
    exact u.2.2.2 j x ex
  · obtain ⟨x, e, r, u, ex⟩ := en i j hi hj
    rw [u.2.1 j l] at ex
    rw [e]
    exact (Option.some.inj ex).symm
  · obtain ⟨x, e, r, u, ex⟩ := en i j hi hj
    rw [l, u.2.2.1] at ex
    rw [e]
    exact (Option.some.inj ex).symm
/-- zeros, a one, residues -/
theorem ut_row_of {q : Int} {n i : Nat} {rest : List Int} (hq : 1 < q) (hi : i < n) (hl : rest.length = n - (i + 1)) (hr : ∀ x ∈ rest, 0 ≤ x ∧ x < q) : UtRow q n i (List.replicate i 0 ++ [1] ++ rest) := by
  have l1 : (List.replicate i (0 : Int)).length = i := List.length_replicate
  have l2 : (List.replicate i (0 : Int) ++ [1]).length = i + 1 := by rw [List.length_append, l1]; rfl
  refine ⟨by rw [List.length_append, l2, hl]; omega, fun j hj => ?_, ?_, fun j x h => ?_⟩
  · rw [List.getElem?_append_left (by omega), List.getElem?_append_left (by omega), List.getElem?_replicate, if_pos hj]
  · rw [List.getElem?_append_left (by omega), List.getElem?_append_right (by omega), l1, Nat.sub_self]
    try rfl
  · have m := List.mem_of_getElem? h
    rcases List.mem_append.mp m with m | m
    · rcases List.mem_append.mp m with m | m
      · rw [List.eq_of_mem_replicate m]; omega
      · rw [List.mem_singleton.mp m]; omega
    · exact hr x m
/-- the inverse, as its properties say it -/
structure InvOf (q : Int) (n : Nat) (A : Fm) (B : Mx) : Prop where
  u : UT q n B
  r : RI q n A (ent B)
theorem InvOf.left {q : Int} {n : Nat} {A : Fm} {B : Mx} (h : InvOf q n A B) : RI q n (ent B) A := ut_left h.u.u h.r
theorem InvOf.unique {q : Int} {n : Nat} {A : Fm} {B C : Mx} (h : InvOf q n A B) (k : InvOf q n A C) : B = C :=
  mx_ext h.u.s k.u.s fun i j hi hj => ((h.r.unique k.r h.left) i j hi hj).eq (h.u.r i j hi hj).1 (h.u.r i j hi hj).2 (k.u.r i j hi hj).1 (k.u.r i j hi hj).2
/-- the product's matrix -/
def prod (q : Int) (n : Nat) (A B : Fm) : Mx := fnMx n fun i j => mm n A B i j % q
theorem prod_one {q : Int} {n : Nat} {A B : Fm} (hq : 1 < q) (h : RI q n A B) : prod q n A B = fnMx n dl := by
  refine mx_ext (fnMx_sq _ _) (fnMx_sq _ _) fun i j hi hj => ?_
  unfold prod
  rw [fnMx_ent _ hi hj, fnMx_ent _ hi hj]
  have e : mm n A B i j % q = dl i j % q := h i j hi hj
  rw [e]
  show (if i = j then (1 : Int) else 0) % q = if i = j then 1 else 0
  split
  · exact Int.emod_eq_of_lt (by omega) hq
  · exact Int.emod_eq_of_lt (by omega) (by omega)
/-- rows that stand in a list make a matrix's data -/
theorem rows_data {K : PySem.W.Frag} {H : Hp} {n : Nat} {xs : List V} {B : Fm} (hl : xs.length = n) (h : ∀ k, k < n → ∃ t : Addr, xs[k]? = some (.ref t) ∧ SqT K H t ((fnRow n (B k)).map V.int)) : DpAll K H xs ((fnMx n B).map rowD) := by
  refine dpAll_of (by rw [hl, List.length_map, (fnMx_sq n B).h]) fun i d hd => ?_
  have hi : i < n := by
    have := (List.getElem?_eq_some_iff.mp hd).1
    rwa [List.length_map, (fnMx_sq n B).h] at this
  obtain ⟨t, e, k⟩ := h i hi
  refine ⟨.ref t, e, ?_⟩
  rw [List.getElem?_map, show (fnMx n B)[i]? = some (fnRow n (B i)) by unfold fnMx; rw [List.getElem?_map, List.getElem?_range hi]; rfl] at hd
  obtain rfl : rowD (fnRow n (B i)) = d := Option.some.inj hd
  exact dp_row k
theorem fnMx_ents {n : Nat} {M : Mx} (h : Sq n M) : M = fnMx n (ent M) := mx_ext h (fnMx_sq _ _) fun i j hi hj => (fnMx_ent _ hi hj).symm
theorem row_ents {n : Nat} {M : Mx} (h : Sq n M) {i : Nat} (hi : i < n) : M[i]? = some (fnRow n (ent M i)) := by
  have e := fnMx_ents h
  have : (fnMx n (ent M))[i]? = some (fnRow n (ent M i)) := by unfold fnMx; rw [List.getElem?_map, List.getElem?_range hi]; rfl
  rw [← e] at this
  exact this
end Vx

namespace Vx
open PySem PySem.Spec PyProof.Rows L2
/-! enumerate over a tuple -/
theorem meets_enum1 {v : Value} {o : Obj} {H : Heap → Prop} (B : Begins v o H) :
    Meets (Builtin.«enumerate.__new__» ⟨[.type "enumerate", v], []⟩) (fun _ R s => H s.heap ∧
      R (.ok (.ret (.ref (s.heap.push o).objs.size))) { s with heap := (s.heap.push o).push { cls := .type "enumerate", data := .fields #[.none, .bool false, .ref s.heap.objs.size, rawInt 0, .none, .none] } }) := by
  refine .of_wp fun prog w A R s h => ?_
  obtain ⟨hp, g, d, tk, os⟩ := s
  obtain ⟨h1, h⟩ := h
  have isE := sub_enumerate
  have it : ∀ {A' : Around} {E : Value → Shared → Prop} {Q : Value → Shared → Prop}, Q (.ref hp.objs.size) ⟨hp.push o, g, d, tk, os⟩ → wpAny (model prog w) A' (pyIter v) Q E ⟨hp, g, d, tk, os⟩ := fun q => B.iter prog w _ _ ⟨hp, g, d, tk, os⟩ _ h1 q
  wp_walk using it
  refine wpAny_stack_any fun st => wpAny_pure ?_
  split
  · rename_i c _ _ _ _ _
    cases (c == Value.type "enumerate") <;> (wp_walk using it; exact ⟨_, rfl, h⟩)
  · wp_walk using it
    exact ⟨_, rfl, h⟩
theorem enum_of {prog : Program} {w : World} {A : Around} {E : Value → Shared → Prop} {s : Shared} {v : Value} {o : Obj} {H : Heap → Prop} {Q : Value → Shared → Prop} (B : Begins v o H) (h1 : H s.heap)
    (h : ∀ h', IsEnum h' (s.heap.objs.size + 1) s.heap.objs.size 0 .none → h'.get? s.heap.objs.size = some o → (∀ b u, s.heap.get? b = some u → h'.get? b = some u) → Q (.ref (s.heap.objs.size + 1)) { s with heap := h' }) :
    wpAny (model prog w) A (call (.type "enumerate") [v]) Q E s := by
  refine callType_new F.called_enumerate (by decide) (F.typeCall_enumerate_1 _) (F.newCall_enumerate_1 _) (fun obj => F.args_object_init_2 obj _) F.entry_enumerate_new (meets_enum1 B) ⟨h1, ?_⟩
  have z1 : (s.heap.push o).objs.size = s.heap.objs.size + 1 := Heap.size_push ..
  show _ ∧ _
  rw [z1]
  have en : IsEnum ((s.heap.push o).push { cls := .type "enumerate", data := .fields #[.none, .bool false, .ref s.heap.objs.size, rawInt 0, .none, .none] }) (s.heap.objs.size + 1) s.heap.objs.size 0 .none := by
    have := Heap.get?_push_size (s.heap.push o) (o := { cls := .type "enumerate", data := .fields #[.none, .bool false, .ref s.heap.objs.size, rawInt 0, .none, .none] }) rfl
    rwa [z1] at this
  exact ⟨⟨_, en, rfl⟩, h _ en (Heap.get?_push_of_some _ (Heap.get?_push_size _ B.free)) fun b u x => Heap.get?_push_of_some _ (Heap.get?_push_of_some _ x)⟩
/-- the tuple at a, each item in a new pair with its place -/
def IteT (K : PySem.W.Frag) (a : Addr) : It :=
  ⟨fun i H => ∃ (xs : List V) (x : V), SqT K H a xs ∧ xs[i]? = some x, fun i H v H' => ∃ T x, v = .ref T ∧ H T = none ∧ H' = upd H T (.tup [.int (i : Nat), x]) ∧ ∀ xs, SqT K H a xs → xs[i]? = some x, fun i H => ∃ xs : List V, SqT K H a xs ∧ xs.length = i⟩
theorem turn_enumT {P : Program} {w : World} {K : PySem.W.Frag} {elts : List Expr} {kk : Nat} {tpos : Pos} (a e it : Addr) (na : a ≠ it) :
    Turn P w K (.Tuple elts kk tpos) (IteT K a) [e, it] e (fun i h => (∃ old, IsEnum h e it ((i : Nat) : Int) old) ∧ h.IsTupleIter it a i ∧ e ≠ it ∧ e ≠ a) where
  mem := List.mem_cons_self
  obj := fun i h st b hb => by
    obtain ⟨⟨old, he⟩, ⟨o, ho, _, hd⟩, _⟩ := st
    rcases List.mem_cons.mp hb with rfl | hb
    · exact ⟨_, he, fun v q => nomatch q⟩
    · obtain rfl := List.mem_singleton.mp hb
      exact ⟨o, ho, fun v q => by rw [hd] at q; cases q⟩
  keep := fun i h h' st k => by
    obtain ⟨⟨old, he⟩, hi, hne⟩ := st
    exact ⟨⟨old, k e List.mem_cons_self _ he⟩, hi.at fun o q => k it (by simp) o q, hne⟩
  item := by
    intro X hP hw hK hc i pins s σ H E I hf st hg
    subst hP hw hK
    obtain ⟨⟨old, he⟩, hit, hne, hna⟩ := st
    obtain ⟨xs, x, hq, hx⟩ := hg
    obtain ⟨its, rv, p, _⟩ := I.tuple hq
    obtain ⟨u, hu, ru⟩ := rv.get hx
    have hel : e < s.heap.objs.size := Heap.lt_size he
    have hil : it < s.heap.objs.size := by
      obtain ⟨_, q, _⟩ := hit
      exact Heap.lt_size q
    have D := Draws.tuple (prog := X.prog) (w := X.w) (A := X.A.in1) (by show X.A.handled = none; exact I.ok.hd hc) it a na its.toArray
    have hlt : i < its.toArray.size := by
      have := (List.getElem?_eq_some_iff.mp hu).1
      rwa [List.size_toArray]
    refine wpAny_pyNext_enum_itemD D he ⟨hit, p⟩ hlt hne (by simp; exact ⟨hne, hna⟩) ?_
    rintro x' h' tk hx' ho ⟨hit', _⟩ hT hsz hk
    obtain rfl : u = x' := by
      rw [show its.toArray[i]? = some u by simpa using hu] at hx'
      exact Option.some.inj hx'
    refine ⟨_, rfl, wpAny_letOwnedTupleGo_enum (s := { s with heap := h', toks := tk + 1 }) ho fun h'' he' sb => ?_⟩
    have hT2 := (sb.2 _ (Nat.ne_of_gt hel)).trans hT
    have new : ObjOk X.prog X.w (upd H s.heap.objs.size (.tup [.int (i : Nat), x])) h'' s.heap.objs.size (.tup [.int (i : Nat), x]) :=
      ⟨by show 2 ≤ sizeLine; decide, [.int i tk, u], .cons ⟨_, rfl⟩ (.cons ru .nil), ⟨_, hT2, rfl, _, rfl⟩⟩
    have other : ∀ b ob, b ∉ [e, it] → s.heap.get? b = some ob → h''.get? b = some ob := fun b ob hb q => by
      have n1 : b ≠ e := fun z => hb (by simp [z])
      have n2 : b ≠ it := fun z => hb (by simp [z])
      exact (sb.2 b n1).trans (hk b ob n1 n2 q)
    have I1 : Inv X pins σ (upd H s.heap.objs.size (.tup [.int (i : Nat), x])) { s with heap := h'', toks := tk + 1 } := I.turnedNew (ch := [e, it]) other hf (Nat.le_refl _) new
    have fresh := I.hok.fresh (Nat.le_refl s.heap.objs.size)
    refine ⟨.ref s.heap.objs.size, _, I1, rfl, ⟨_, x, rfl, fresh, rfl, fun ys hy => by rw [I.tuple_inj hy hq]; exact hx⟩, ⟨⟨u, ?_⟩, hit'.at fun o q => (sb.2 it (Ne.symm hne)).trans q, hne, hna⟩, fun b hb => ?_⟩
    · rw [show ((i + 1 : Nat) : Int) = (i : Int) + 1 by omega]
      exact he'
    · have hb' : b < s.heap.objs.size := by
        rcases List.mem_cons.mp hb with rfl | hb
        · exact hel
        · obtain rfl := List.mem_singleton.mp hb
          exact hil
      rw [upd_ne (Nat.ne_of_lt hb')]
      exact (hf b hb).1
  done := by
    intro X hP hw hK hc i pins s σ H E I hf st hg
    subst hP hw hK
    obtain ⟨⟨old, he⟩, hit, hne, hna⟩ := st
    obtain ⟨xs, hq, hx⟩ := hg
    obtain ⟨its, rv, p, _⟩ := I.tuple hq
    obtain ⟨f0, f1, f2, f3, f4, f5⟩ := hf it (by simp)
    have hl := rv.length
    have st' : s.heap.IsTupleIter it a i := hit
    have hi : i = its.toArray.size := by rw [List.size_toArray, ← hl]; exact hx.symm
    subst hi
    have D := Draws.tuple (prog := X.prog) (w := X.w) (A := X.A.in1) (by show X.A.handled = none; exact I.ok.hd hc) it a na its.toArray
    exact wpAny_pyNext_enum_endD D he ⟨hit, p⟩ fun h' eb => ⟨rfl, I.turned (t' := s.toks) (fun b o hb q => eb b o hb q) f0 f1 f3 f4 f5⟩
  self := fun A i s Q E st h => by
    obtain ⟨⟨_, he⟩, _⟩ := st
    exact wpAny_pyIter_enum he h
def iEnumT (K : PySem.W.Frag) (ta : TA) : TI := fun σ H R => ta σ H fun vs H1 => ∃ a xs, vs = [.ref a] ∧ SqT K H1 a xs ∧ R (IteT K a) H1
theorem pi_enumT {X : Cx} {e : Expr} {ta : TA} {p pos tpos : Pos} {elts : List Expr} {kk : Nat} (hg : Gl X "enumerate") (hm : X.mg "enumerate" = none) (ha : PA X [e] ta) (hs : starEach [e] X.env = [(false, eval e X.env)] := by rfl) :
    PI X (.Tuple elts kk tpos) (.Call (.Name "enumerate" p) [e] [] pos) (iEnumT X.K ta) := by
  constructor
  intro pins s σ H R I h
  refine Call_ (ld_blt I hg hm boot_enumerate (PyProof.Rows.callWith_type1 (thn (ha.run pos pins s σ H _ I h) ?_) hs rfl))
  rintro us s1 ⟨vs, H1, I1, r1, a, xs, rfl, hq, q⟩
  obtain ⟨u, rfl, ru⟩ := vals1 r1
  obtain rfl : u = Value.ref a := ru
  obtain ⟨its, rv, p', _⟩ := I1.tuple hq
  have lt := p'.lt
  refine enum_of (begins_tuple a its.toArray) p' fun h' he hit hk => wpAny_pyIter_enum he ?_
  have I2 : Inv X pins σ H1 { s1 with heap := h' } := I1.kept (t' := s1.toks) hk
  have fp : ∀ b ∈ [s1.heap.objs.size + 1, s1.heap.objs.size], s1.heap.objs.size ≤ b := fun b hb => by
    rcases List.mem_cons.mp hb with rfl | hb
    · exact Nat.le_succ _
    · rw [List.mem_singleton.mp hb]
      exact Nat.le_refl _
  refine ⟨s1.heap.objs.size + 1, [s1.heap.objs.size + 1, s1.heap.objs.size], _, _, H1, rfl, I2, turn_enumT a (s1.heap.objs.size + 1) s1.heap.objs.size (Nat.ne_of_lt lt), ⟨⟨.none, he⟩, ⟨_, hit, rfl, rfl⟩, Nat.succ_ne_self _, Nat.ne_of_gt (Nat.lt_succ_of_lt lt)⟩, fun b hb => I1.fpOk (fp b hb) (I1.hok.fresh (fp b hb)), q⟩
/-- the turns of a for over an iterator J -/
def ForOf (J : It) (g : TG) (tb : TS) (D : Ends) (σ : L2.St) (H : Hp) : Prop :=
  ∃ U : Nat → Nat → L2.St → Hp → Prop, (∃ k, U 0 k σ H) ∧ ∀ n k ρ h, U n k ρ h → (J.stop n h ∧ D.nx ρ h) ∨ (J.go n h ∧ ∃ Z : L2.St → Hp → Prop, (∀ ρ' h', Z ρ' h' → ∃ k', k' < k ∧ U (n + 1) k' ρ' h') ∧
    ∀ z h', J.yld n h z h' → g z ρ h' fun ρ2 h2 => tb { D with nx := Z, ct := Z, bk := D.nx } ρ2 h2)
theorem for_enumT {K : PySem.W.Frag} {a : Addr} {xs : List V} {g : TG} {tb : TS} {D : Ends} {σ : L2.St} {H : Hp} (Pv : Nat → L2.St → Hp → Prop) (h0 : Pv 0 σ H) (hl : ∀ i ρ h, i ≤ xs.length → Pv i ρ h → SqT K h a xs)
    (hs : ∀ i x T ρ h, xs[i]? = some x → Pv i ρ h → h T = none → g (.ref T) ρ (upd h T (.tup [.int (i : Nat), x])) fun ρ2 h2 => tb { D with nx := Pv (i + 1), ct := Pv (i + 1), bk := D.nx } ρ2 h2) (hd : ∀ ρ h, Pv xs.length ρ h → D.nx ρ h) : ForOf (IteT K a) g tb D σ H := by
  refine ⟨fun i m ρ h => m = xs.length - i ∧ i ≤ xs.length ∧ Pv i ρ h, ⟨_, rfl, Nat.zero_le _, h0⟩, ?_⟩
  rintro i m ρ h ⟨rfl, hi, p⟩
  have q := hl i ρ h hi p
  by_cases l : i < xs.length
  · refine .inr ⟨⟨xs, xs[i], q, by simp [l]⟩, Pv (i + 1), fun ρ' h' p' => ⟨xs.length - (i + 1), by omega, rfl, l, p'⟩, ?_⟩
    rintro z h' ⟨T, x, rfl, hT, rfl, hx⟩
    exact hs i x T ρ h (hx xs q) p hT
  · obtain rfl : i = xs.length := by omega
    exact .inl ⟨⟨xs, q, rfl⟩, hd ρ h p⟩
/-! the rules that read the written part, for a comprehension's block: K said -/
section
variable {X : Cx} (K : PySem.W.Frag)
theorem op_repSK (h : X.K = K := by rfl) : OpR X (binaryOp .Mult) (rRepS K) := h ▸ op_repS
theorem op_catSK (h : X.K = K := by rfl) : OpR X (binaryOp .Add) (rCatS K) := h ▸ op_catS
theorem sl_tupSK (h : X.K = K := by rfl) : SlR X (rSlS K) := h ▸ sl_tupS
theorem sl_listK (h : X.K = K := by rfl) : SlR X (rSlL K) := h ▸ sl_list
theorem ix_listK (h : X.K = K := by rfl) : IxR X (rIxL K) := h ▸ ix_list
theorem ix_tupK (h : X.K = K := by rfl) : IxR X (rIxT K) := h ▸ ix_tup
def rLen (K : PySem.W.Frag) : List V → Hp → VK → Prop := fun xs H Q => ∃ p ys, xs = [.ref p] ∧ (SqL K H p ys ∨ SqT K H p ys) ∧ Q (.int ys.length) H
theorem call_len_seqK (h : X.K = K := by rfl) : CallR X (.builtin "len") (rLen K) := h ▸ call_len_seq
def rTupOf (K : PySem.W.Frag) : List V → Hp → VK → Prop := fun xs H Q => ∃ p ys, xs = [.ref p] ∧ ((SqL K H p ys ∧ ∀ l, H l = none → Q (.ref l) (upd H l (.tup ys))) ∨ (SqT K H p ys ∧ Q (.ref p) H))
theorem call_tuple_ofK (h : X.K = K := by rfl) : CallR X (.type "tuple") (rTupOf K) := h ▸ call_tuple_of
def rListOf (K : PySem.W.Frag) : List V → Hp → VK → Prop := fun xs H Q => ∃ p ys, xs = [.ref p] ∧ (SqL K H p ys ∨ SqT K H p ys) ∧ ∀ l, H l = none → Q (.ref l) (upd H l (.lst ys))
theorem call_list_ofK (h : X.K = K := by rfl) : CallR X (.type "list") (rListOf K) := h ▸ call_list_of
theorem cr_sumK (hc : X.calm = true) (h : X.K = K := by rfl) : CallR X (.builtin "sum") (rSum K) := h ▸ cr_sum hc
theorem op_eqDK (hu : X.A.units + 64 < cLine) (h : X.K = K := by rfl) : OpR X (compareOp .Eq) (rEqD K) := h ▸ op_eqD hu
theorem op_neDK (hu : X.A.units + 64 < cLine) (h : X.K = K := by rfl) : OpR X (compareOp .NotEq) (rNeD K) := h ▸ op_neD hu
end
theorem ty_tup {K : PySem.W.Frag} {H : Hp} {a : Addr} {xs : List V} (h : SqT K H a xs) : TyX K H (.ref a) (.type "tuple") := by
  rcases h with (h | ⟨o, h⟩) | ⟨o, vs, n, hk, hc, _⟩
  · exact .base (.tup h)
  · exact .fTuple h
  · exact .kTuple hk hc
theorem cutV_take (xs : List V) (k : Nat) : cutV xs none (some (k : Int)) = xs.take k := by
  unfold cutV
  rw [HT.sIx_none, HT.sIx_nat, List.drop_zero, Nat.sub_zero]
  by_cases h : k ≤ xs.length
  · rw [Nat.min_eq_left h]
  · rw [Nat.min_eq_right (by omega), List.take_length, List.take_of_length_le (by omega)]
theorem ne_same {d : PyData} {A B : Prop} (h : SeqAt.shaped d = true) (k : B) : if (!PyData.eqv d d) = true then A else B := by
  rw [eqv_same h]
  exact iteF k
theorem ut_take {q : Int} {n i : Nat} {r : List Int} (h : UtRow q n i r) (hi : i < n) : r.take (i + 1) = List.replicate i 0 ++ [1] := by
  obtain ⟨hl, h0, h1, _⟩ := h
  refine List.ext_getElem? fun k => ?_
  have l1 : (List.replicate i (0 : Int)).length = i := List.length_replicate
  by_cases a : k < i
  · rw [List.getElem?_take_of_lt (by omega), h0 k a, List.getElem?_append_left (by omega), List.getElem?_replicate, if_pos a]
  · by_cases b : k = i
    · subst b
      rw [List.getElem?_take_of_lt (by omega), h1, List.getElem?_append_right (by omega), l1, Nat.sub_self]
      rfl
    · rw [List.getElem?_eq_none (by rw [List.length_take]; omega), List.getElem?_eq_none (by rw [List.length_append, l1]; simp; omega)]
theorem ut_row {q : Int} {n : Nat} {M : Mx} (u : UT q n M) {i : Nat} {r : List Int} (hi : i < n) (hr : M[i]? = some r) : UtRow q n i r := by
  obtain ⟨r', e, l, g⟩ := row_get u.s hi
  obtain rfl : r = r' := by rw [e] at hr; exact (Option.some.inj hr).symm
  refine ⟨l, fun j hj => ?_, ?_, fun j x hx => ?_⟩
  · rw [g j (by omega), (u.u i j hi (by omega)).1 hj]
  · rw [g i hi, (u.u i i hi hi).2 rfl]
  · have hj : j < n := by have := (List.getElem?_eq_some_iff.mp hx).1; omega
    rw [g j hj] at hx
    obtain rfl := Option.some.inj hx
    exact u.r i j hi hj
end Vx

namespace Vx
open PySem PySem.Spec PyProof.Rows L2
theorem zt (vs : List Value) : checkTypeCall "zip" ⟨vs, []⟩ = pure () := by kernel_rfl
theorem zo (obj : Value) (vs : List Value) : argsOk "object.__init__" ⟨obj :: vs, []⟩ := by unfold argsOk; kernel_rfl
theorem zn : ∀ (vs : List Value), vs.length ≤ 8 → checkBuiltinCall "zip.__new__" ⟨.type "zip" :: vs, []⟩ = pure ()
  | [], _ => by kernel_rfl
  | [_], _ => by kernel_rfl
  | [_, _], _ => by kernel_rfl
  | [_, _, _], _ => by kernel_rfl
  | [_, _, _, _], _ => by kernel_rfl
  | [_, _, _, _, _], _ => by kernel_rfl
  | [_, _, _, _, _, _], _ => by kernel_rfl
  | [_, _, _, _, _, _, _], _ => by kernel_rfl
  | [_, _, _, _, _, _, _, _], _ => by kernel_rfl
  | _ :: _ :: _ :: _ :: _ :: _ :: _ :: _ :: _ :: _, h => absurd h (by simp)
section
variable {prog : Program} {w : World} {A : Around} {E : Value → Shared → Prop} {s : Shared}
/-- a loop in the machine's own monad, by a word of the turn -/
theorem forIn_by {α β : Type} {M : Model} {A : Around} {E : Value → Shared → Prop} {body : α → β → Sem (ForInStep β)} {Q : β → Shared → Prop} (J : Nat → β → Shared → Prop) : ∀ (l : List α) (k : Nat) (b : β) (s : Shared), J k b s →
    (∀ (j : Nat) (x : α) (b : β) (s : Shared), l[j]? = some x → J (k + j) b s → wpAny M A (body x b) (fun r s' => ∃ b', r = .yield b' ∧ J (k + j + 1) b' s') E s) → (∀ b s, J (k + l.length) b s → Q b s) → wpAny M A (forIn l b body) Q E s
  | [], k, b, s, h, _, hq => by
    rw [List.forIn_nil]
    exact wpAny_pure (hq b s h)
  | x :: l, k, b, s, h, hs, hq => by
    rw [List.forIn_cons]
    refine wpAny_bind (thn (hs 0 x b s rfl h) ?_)
    rintro r s' ⟨b', rfl, h'⟩
    refine forIn_by J l (k + 1) b' s' h' (fun j y c t e g => ?_) (fun c t g => ?_)
    · rw [show k + 1 + j = k + (j + 1) by omega] at g
      rw [show k + 1 + j + 1 = k + (j + 1) + 1 by omega]
      exact hs (j + 1) y c t (by simpa using e) g
    · rw [show k + 1 + l.length = k + (x :: l).length by rw [List.length_cons]; omega] at g
      exact hq c t g
theorem iterAll_tups {ts : List Addr} {items : Nat → Array Value} {Q : List Value → Shared → Prop} (ht : ∀ k t, ts[k]? = some t → s.heap.IsTuple t (items k))
    (h : ∀ h' : Heap, h'.objs.size = s.heap.objs.size + ts.length → (∀ b o, s.heap.get? b = some o → h'.get? b = some o) → (∀ k t, ts[k]? = some t → h'.IsTupleIter (s.heap.objs.size + k) t 0) →
      Q ((List.range ts.length).map fun k => .ref (s.heap.objs.size + k)) { s with heap := h' }) :
    wpAny (model prog w) A (Builtin.SmallTypes.iterAll (ts.map Value.ref)) Q E s := by
  unfold Builtin.SmallTypes.iterAll
  refine wpAny_bind ?_
  refine forIn_by (fun k b s' => b = ((List.range k).map fun k => Value.ref (s.heap.objs.size + k)).toArray ∧ ∃ h', s' = { s with heap := h' } ∧ h'.objs.size = s.heap.objs.size + k ∧ (∀ b o, s.heap.get? b = some o → h'.get? b = some o) ∧ ∀ j t, j < k → ts[j]? = some t → h'.IsTupleIter (s.heap.objs.size + j) t 0) _ 0 _ s ⟨rfl, s.heap, rfl, rfl, fun _ _ e => e, fun j t hj => absurd hj (by omega)⟩ ?_ ?_
  · rintro j x b s' hx ⟨rfl, h', rfl, hz, hk, hi⟩
    rw [Nat.zero_add] at *
    obtain ⟨t, et, rfl⟩ : ∃ t, ts[j]? = some t ∧ x = Value.ref t := by
      rw [List.getElem?_map] at hx
      cases e : ts[j]? with
      | none => rw [e] at hx; cases hx
      | some t => rw [e] at hx; exact ⟨t, rfl, (Option.some.inj hx).symm⟩
    refine wpAny_bind (wpAny_holding (wpAny_pyIter_tuple (s := { s with heap := h' }) ((ht j t et).at fun o e => hk t o e) ?_))
    refine wpAny_pure ⟨_, rfl, ?_, _, rfl, by rw [Heap.size_push, hz]; omega, fun b o e => Heap.get?_push_of_some _ (hk b o e), fun j' t' hj' e' => ?_⟩
    · show Array.push _ (Value.ref h'.objs.size) = _
      rw [hz, List.range_succ, List.map_append]
      simp
    · by_cases c : j' = j
      · subst c
        obtain rfl : t = t' := by rw [et] at e'; exact Option.some.inj e'
        rw [← hz]
        exact ⟨_, Heap.get?_push_size _ rfl, rfl, rfl⟩
      · exact (hi j' t' (by omega) e').at fun o e => Heap.get?_push_of_some _ e
  · rintro b s' ⟨rfl, h', rfl, hz, hk, hi⟩
    rw [Nat.zero_add, List.length_map] at *
    exact wpAny_pure (h h' hz hk fun k t e => hi k t (List.getElem?_eq_some_iff.mp e).1 e)
end
theorem ane {a b : Addr} (h : Nat.lt a b ∨ Nat.lt b a) : a ≠ b := fun e => by
  subst e
  rcases h with h | h <;> exact absurd h (Nat.lt_irrefl _)
/-- the iterators' places -/
def itv (N n : Nat) : List Value := (List.range n).map fun k => Value.ref (N + k)
abbrev tupObj (vs : List Value) : Obj := { cls := .type "tuple", data := .seq vs.toArray }
abbrev zipObj (f0 : Value) (b : Bool) (TI TO : Addr) : Obj := { cls := .type "zip", dict := none, data := .fields #[f0, .bool b, .bool false, .ref TI, .ref TO], slots := #[] }
abbrev zipHeap (h : Heap) (vs : List Value) : Heap := ((h.push (tupObj vs)).push (tupObj (vs.map fun _ => Value.none))).push (zipObj .none false h.objs.size (h.objs.size + 1))
theorem meets_zip (ts : List Addr) (items : Nat → Array Value) (hts : ts.length ≤ sizeLine) :
    Meets (Builtin.«zip.__new__» ⟨.type "zip" :: ts.map Value.ref, []⟩) (fun _ R s => (∀ k t, ts[k]? = some t → s.heap.IsTuple t (items k)) ∧
      ∀ h' : Heap, h'.objs.size = s.heap.objs.size + ts.length → (∀ b o, s.heap.get? b = some o → h'.get? b = some o) → (∀ k t, ts[k]? = some t → h'.IsTupleIter (s.heap.objs.size + k) t 0) →
        R (.ok (.ret (.ref (h'.objs.size + 2)))) { s with heap := zipHeap h' (itv s.heap.objs.size ts.length) }) := by
  refine .of_wp fun prog w A R s h => ?_
  obtain ⟨hp, g, d, tk, os⟩ := s
  obtain ⟨h1, h⟩ := h
  have isZ := sub_zip
  have it : ∀ {A' : Around} {E : Value → Shared → Prop} {Q : List Value → Shared → Prop}, (∀ h' : Heap, h'.objs.size = hp.objs.size + ts.length → (∀ b o, hp.get? b = some o → h'.get? b = some o) → (∀ k t, ts[k]? = some t → h'.IsTupleIter (hp.objs.size + k) t 0) →
      Q (itv hp.objs.size ts.length) ⟨h', g, d, tk, os⟩) → wpAny (model prog w) A' (Builtin.SmallTypes.iterAll (ts.map Value.ref)) Q E ⟨hp, g, d, tk, os⟩ := fun q => iterAll_tups (s := ⟨hp, g, d, tk, os⟩) h1 q
  wp_walk using it
  intro h' hz hk hi
  have len : (itv hp.objs.size ts.length).length = ts.length := by unfold itv; rw [List.length_map, List.length_range]
  refine wpAny_bind (wpAny_newTuple (s := ⟨h', g, d, tk, os⟩) (hsz := by rw [len]; exact hts) ?_)
  refine wpAny_bind (wpAny_newTuple (s := ⟨h'.push _, g, d, tk, os⟩) (hsz := by rw [List.length_map, len]; exact hts) ?_)
  wp_walk
  have e := h h' hz hk hi
  refine ⟨_, rfl, ?_⟩
  simp only [Heap.size_push]
  exact e
section
variable {prog : Program} {w : World} {A : Around} {E : Value → Shared → Prop} {s : Shared} {N n m : Nat} {t : Nat → Addr} {items : Nat → Array Value}
/-- n iterators over tuples of m items stand at N .. and at their place i; their tuple at N + n -/
structure ZSt (N n m : Nat) (t : Nat → Addr) (items : Nat → Array Value) (h : Heap) : Prop where
  TI : h.get? (N + n) = some (tupObj (itv N n))
  tup : ∀ k, k < n → h.IsTuple (t k) (items k)
  low : ∀ k, k < n → t k < N
  sz : ∀ k, k < n → (items k).size = m
/-- the first c of them have been drawn from -/
def Drawn (N n : Nat) (t : Nat → Addr) (i c : Nat) (h : Heap) : Prop := ∀ k, k < n → h.IsTupleIter (N + k) (t k) (if k < c then i + 1 else i)
def col (items : Nat → Array Value) (n i : Nat) : List Value := (List.range n).map fun k => ((items k)[i]?).getD .none
theorem ZSt.other {h h' : Heap} (Z : ZSt N n m t items h) {x : Addr} (sb : Heap.SameBut x h h') (h1 : x ≠ N + n) (h2 : N ≤ x) : ZSt N n m t items h' :=
  ⟨(sb.2 _ (Ne.symm h1)).trans Z.TI, fun k hk => (Z.tup k hk).extBut sb.extBut (fun e => by have := Z.low k hk; rw [e] at this; exact absurd h2 (Nat.not_le.mpr this)), Z.low, Z.sz⟩
theorem itv_get {k : Nat} (h : k < n) : (itv N n)[k]? = some (Value.ref (N + k)) := by
  unfold itv
  rw [List.getElem?_map, List.getElem?_range h]
  rfl
theorem zip_held {z TO T : Addr} {f : Bool} {oT : Obj} {i : Nat} {Q : Value → Shared → Prop} (Z : ZSt N n m t items s.heap) (D : Drawn N n t i 0 s.heap) (hz : s.heap.get? z = some (zipObj (rawInt T) f (N + n) TO)) (hT : s.heap.get? T = some oT) (z1 : N + n < z) (hn : 0 < n) (hn8 : n ≤ 8) (hi : i < m)
    (hQ : ∀ h' : Heap, ZSt N n m t items h' → Drawn N n t (i + 1) 0 h' → h'.get? z = some (zipObj (rawInt T) true (N + n) TO) → h'.get? s.heap.objs.size = some (tupObj (col items n i)) →
      (∀ b o, b ≠ z → (b < N ∨ N + n ≤ b) → s.heap.get? b = some o → h'.get? b = some o) → s.heap.objs.size < h'.objs.size → Q (.ref s.heap.objs.size) { s with heap := h' }) :
    wpAny (model prog w) A (Builtin.«zip.__next__» ⟨[.ref z], []⟩) (fun fin s' => ∃ v, fin = .done (.ret v) ∧ Q v s') E s := by
  show wpAny _ _ (field (.ref z) 2 >>= _) _ _ _
  refine wpAny_bind (wpAny_field hz rfl (x := .bool false) rfl ?_)
  show wpAny _ _ (field (.ref z) 3 >>= _) _ _ _
  refine wpAny_bind (wpAny_field hz rfl (x := .ref (N + n)) rfl (wpAny_bind (wpAny_seqItems Z.TI rfl ?_)))
  have ne : (itv N n).toArray.isEmpty = false := by
    have : (itv N n).length = n := by unfold itv; rw [List.length_map, List.length_range]
    cases e : itv N n with
    | nil => rw [e] at this; simp at this; omega
    | cons a b => rfl
  simp only [ne, Bool.false_eq_true, if_false]
  refine wpAny_bind (wpAny_tupleHeld_zip hz hT fun h1 hz1 hs1 => ?_)
  simp only [Bool.false_eq_true, if_false]
  refine wpAny_bind ?_
  rw [← Array.forIn_toList]
  refine forIn_by (fun c b s' => b = (none, ((List.range c).map fun k => ((items k)[i]?).getD .none).toArray) ∧ ∃ h' : Heap, s' = { s with heap := h' } ∧ h'.objs.size = s.heap.objs.size ∧ ZSt N n m t items h' ∧ Drawn N n t i c h' ∧ h'.get? z = some (zipObj (rawInt T) true (N + n) TO) ∧ ∀ b o, b ≠ z → (b < N ∨ N + n ≤ b) → s.heap.get? b = some o → h'.get? b = some o) _ 0 _ _ ?_ ?_ ?_
  · refine ⟨rfl, h1, rfl, hs1.1, Z.other hs1 (ane (.inr z1)) (by omega), fun k hk => ?_, hz1, fun b o hb _ e => hs1.extBut b o hb e⟩
    exact (D k hk).extBut hs1.extBut (ane (.inl (by show N + k < z; omega)))
  · rintro c x b s' hx ⟨rfl, h2, rfl, sz2, Z2, D2, hz2, k2⟩
    rw [Nat.zero_add] at *
    have hc : c < n := by
      have := (List.getElem?_eq_some_iff.mp hx).1
      simpa [itv] using this
    rw [show (itv N n).toArray.toList = itv N n from rfl, itv_get hc] at hx
    obtain rfl := Option.some.inj hx
    refine wpAny_bind (wpAny_holding ?_)
    show wpAny _ _ (Builtin.SmallTypes.nextOf (.ref (N + c)) >>= _) _ _ _
    have hit := D2 c hc
    rw [if_neg (by omega)] at hit
    have hlt : i < (items c).size := by rw [Z2.sz c hc]; exact hi
    refine wpAny_bind (wpAny_nextOf_tuple_item (s := { s with heap := h2 }) hit (Z2.tup c hc) (Array.getElem?_eq_getElem hlt) fun h3 hit3 hs3 => wpAny_pure (wpAny_pure ?_))
    replace hs3 : Heap.SameBut (N + c) h2 h3 := hs3
    refine ⟨_, rfl, ?_, h3, rfl, hs3.1.trans sz2, Z2.other hs3 (ane (.inl (by show N + c < N + n; omega))) (by omega), fun k hk => ?_, hs3.extBut _ _ (ane (.inr (by show N + c < z; omega))) hz2, fun b o hb hb2 e => hs3.extBut b o (ane (hb2.imp (fun h => Nat.lt_of_lt_of_le h (Nat.le_add_right N c)) fun h => Nat.lt_of_lt_of_le (Nat.add_lt_add_left hc N) h)) (k2 b o hb hb2 e)⟩
    · rw [List.range_succ, List.map_append]
      simp [Array.getElem?_eq_getElem hlt]
    · by_cases e : k = c
      · subst e
        rw [if_pos (by omega)]
        exact hit3
      · have := D2 k hk
        have q := this.extBut hs3.extBut (fun z => e (Nat.add_left_cancel z))
        by_cases l : k < c
        · rw [if_pos (by omega)]; rwa [if_pos l] at q
        · rw [if_neg (by omega)]; rwa [if_neg l] at q
  · rintro b s' ⟨rfl, h2, rfl, sz2, Z2, D2, hz2, k2⟩
    have len : (itv N n).toArray.toList.length = n := by simp [itv]
    rw [Nat.zero_add, len] at D2
    rw [Nat.zero_add, len]
    have sz : (col items n i).length = n := by unfold col; rw [List.length_map, List.length_range]
    show wpAny _ _ (newTuple (col items n i) >>= _) _ _ _
    refine wpAny_bind (wpAny_newTuple (s := { s with heap := h2 }) (hsz := by rw [sz]; exact Nat.le_trans hn8 (by decide)) ?_)
    refine wpAny_pure ⟨_, rfl, ?_⟩
    show Q (.ref h2.objs.size) _
    rw [sz2]
    have up : ∀ b o, h2.get? b = some o → (h2.push (tupObj (col items n i))).get? b = some o := fun b o e => Heap.get?_push_of_some _ e
    refine hQ _ ⟨up _ _ Z2.TI, fun k hk => (Z2.tup k hk).at fun o e => up _ o e, Z2.low, Z2.sz⟩ (fun k hk => ?_) (up _ _ hz2) ?_ (fun b o hb hb2 e => up _ _ (k2 b o hb hb2 e)) (by rw [Heap.size_push, sz2]; exact Nat.lt_succ_self _)
    · have := (D2 k hk).at fun o e => up _ o e
      rw [if_pos hk] at this
      rw [if_neg (by omega)]
      exact this
    · rw [← sz2]
      exact Heap.get?_push_size _ rfl
theorem zip_first {z TO : Addr} {vs : List Value} {Q : Value → Shared → Prop} (Z : ZSt N n m t items s.heap) (D : Drawn N n t 0 0 s.heap) (hz : s.heap.get? z = some (zipObj .none false (N + n) TO)) (hTO : s.heap.get? TO = some (tupObj vs)) (hvs : vs.length = n) (z1 : N + n < z) (t1 : N + n < TO) (zt : z ≠ TO) (hn : 0 < n) (hn8 : n ≤ 8) (hi : 0 < m)
    (hQ : ∀ h' : Heap, ZSt N n m t items h' → Drawn N n t 1 0 h' → h'.get? z = some (zipObj (rawInt s.heap.objs.size) false (N + n) TO) → h'.get? s.heap.objs.size = some (tupObj (col items n 0)) →
      (∀ b o, b ≠ z → b ≠ TO → (b < N ∨ N + n ≤ b) → s.heap.get? b = some o → h'.get? b = some o) → s.heap.objs.size < h'.objs.size → Q (.ref s.heap.objs.size) { s with heap := h' }) :
    wpAny (model prog w) A (Builtin.«zip.__next__» ⟨[.ref z], []⟩) (fun fin s' => ∃ v, fin = .done (.ret v) ∧ Q v s') E s := by
  show wpAny _ _ (field (.ref z) 2 >>= _) _ _ _
  refine wpAny_bind (wpAny_field hz rfl (x := .bool false) rfl ?_)
  show wpAny _ _ (field (.ref z) 3 >>= _) _ _ _
  refine wpAny_bind (wpAny_field hz rfl (x := .ref (N + n)) rfl (wpAny_bind (wpAny_seqItems Z.TI rfl ?_)))
  have ne : (itv N n).toArray.isEmpty = false := by
    have : (itv N n).length = n := by unfold itv; rw [List.length_map, List.length_range]
    cases e : itv N n with
    | nil => rw [e] at this; simp at this; omega
    | cons a b => rfl
  simp only [ne, Bool.false_eq_true, if_false]
  refine wpAny_bind ?_
  unfold Builtin.SmallTypes.ownedTupleIsFree
  refine wpAny_bind (wpAny_field hz rfl (x := .none) rfl (wpAny_pure ?_))
  simp only [if_true]
  refine wpAny_bind (wpAny_rule ?_)
  refine wpAny_bind (wpAny_field hz rfl (x := .ref TO) rfl ?_)
  refine wpAny_bind (wpAny_setField_rec hz (by simp) fun g0 hz0 hs0 => ?_)
  replace hz0 : g0.get? z = some (zipObj .ellipsis false (N + n) TO) := hz0
  refine wpAny_bind ?_
  refine forIn_by (fun c b s' => b = (none, ()) ∧ ∃ (h' : Heap) (arr : Array Value), s' = { s with heap := h' } ∧ h'.objs.size = s.heap.objs.size ∧ ZSt N n m t items h' ∧ Drawn N n t 0 c h' ∧ h'.get? z = some (zipObj .ellipsis false (N + n) TO) ∧
    h'.get? TO = some { cls := .type "tuple", data := .seq arr } ∧ arr.size = n ∧ (∀ k, k < c → arr[k]? = some (((items k)[0]?).getD .none)) ∧ ∀ b o, b ≠ z → b ≠ TO → (b < N ∨ N + n ≤ b) → s.heap.get? b = some o → h'.get? b = some o) _ 0 _ _ ?_ ?_ ?_
  · refine ⟨rfl, g0, _, rfl, hs0.1, Z.other hs0 (ane (.inr z1)) (by omega), fun k hk => ?_, hz0, hs0.extBut _ _ (Ne.symm zt) hTO, by rw [List.size_toArray]; exact hvs, fun k hk => absurd hk (by omega), fun b o hb _ _ e => hs0.extBut b o hb e⟩
    exact (D k hk).extBut hs0.extBut (ane (.inl (by show N + k < z; omega)))
  · rintro c x b s' hx ⟨rfl, h2, arr, rfl, sz2, Z2, D2, hz2, hT2, asz, av, k2⟩
    rw [Nat.zero_add] at *
    rw [List.getElem?_zipIdx] at hx
    have hc : c < n := by
      rw [Option.map_eq_some_iff] at hx
      obtain ⟨_, hx, _⟩ := hx
      have := (List.getElem?_eq_some_iff.mp hx).1
      simpa [itv] using this
    rw [itv_get hc, Option.map_some] at hx
    obtain rfl := Option.some.inj hx
    simp only [Nat.zero_add]
    refine wpAny_bind (wpAny_onRaise ?_)
    show wpAny _ _ (Builtin.SmallTypes.nextOf (.ref (N + c)) >>= _) _ _ _
    have hit := D2 c hc
    rw [if_neg (by omega)] at hit
    have hlt : 0 < (items c).size := by rw [Z2.sz c hc]; exact hi
    refine wpAny_bind (wpAny_nextOf_tuple_item (s := { s with heap := h2 }) hit (Z2.tup c hc) (Array.getElem?_eq_getElem hlt) fun h3 hit3 hs3 => wpAny_pure ?_)
    replace hs3 : Heap.SameBut (N + c) h2 h3 := hs3
    have hT3 : h3.get? TO = some { cls := .type "tuple", data := .seq arr } := hs3.extBut _ _ (ane (.inr (by show N + c < TO; omega))) hT2
    refine wpAny_bind (wpAny_seqItems (s := { s with heap := h3 }) hT3 rfl ?_)
    refine wpAny_bind (wpAny_updateSeq (s := { s with heap := h3 }) hT3 rfl ?_ (by rw [asz]; exact Nat.le_trans hn8 (by decide)) (by rw [Array.size_setIfInBounds, asz]; exact Nat.le_trans hn8 (by decide)))
    refine wpAny_bind (wpAny_letGo (wpAny_pure ⟨_, rfl, rfl, _, arr.setIfInBounds c ((items c)[0]), rfl, ?_⟩))
    generalize hh4 : h3.update TO (Obj.mapSeq fun x_1 => x_1.setIfInBounds c ((items c)[0])) = h4
    have hs4 : Heap.SameBut TO h3 h4 := by rw [← hh4]; exact Heap.SameBut.update ..
    have hT4 : h4.get? TO = some { cls := .type "tuple", data := .seq (arr.setIfInBounds c ((items c)[0])) } := by
      rw [← hh4, Heap.get?_update_self _ hT3 rfl]
      simp [Obj.mapSeq]
    refine ⟨(hs4.1.trans hs3.1).trans sz2, (Z2.other hs3 (ane (.inl (by show N + c < N + n; omega))) (by omega)).other hs4 (ane (.inr t1)) (by omega), fun k hk => ?_, hs4.extBut _ _ zt (hs3.extBut _ _ (ane (.inr (by show N + c < z; omega))) hz2), hT4, by rw [Array.size_setIfInBounds, asz], fun k hk => ?_, fun b o hb hb2 hb3 e => hs4.extBut b o hb2 (hs3.extBut b o (ane (hb3.imp (fun h => Nat.lt_of_lt_of_le h (Nat.le_add_right N c)) fun h => Nat.lt_of_lt_of_le (Nat.add_lt_add_left hc N) h)) (k2 b o hb hb2 hb3 e))⟩
    · have nT : N + k ≠ TO := ane (.inl (by show N + k < TO; omega))
      by_cases e : k = c
      · subst e
        rw [if_pos (by omega)]
        exact hit3.extBut hs4.extBut nT
      · have q := ((D2 k hk).extBut hs3.extBut (fun z => e (Nat.add_left_cancel z))).extBut hs4.extBut nT
        by_cases l : k < c
        · rw [if_pos (by omega)]; rwa [if_pos l] at q
        · rw [if_neg (by omega)]; rwa [if_neg l] at q
    · by_cases e : k = c
      · subst e
        rw [Array.getElem?_setIfInBounds_self, if_pos (by omega), Array.getElem?_eq_getElem hlt]
        rfl
      · rw [Array.getElem?_setIfInBounds_ne (Ne.symm e)]
        exact av k (by omega)
  · rintro b s' ⟨rfl, h2, arr, rfl, sz2, Z2, D2, hz2, hT2, asz, av, k2⟩
    have len : (itv N n).toArray.toList.zipIdx.length = n := by simp [itv]
    rw [Nat.zero_add, len] at D2
    have sz : (col items n 0).length = n := by unfold col; rw [List.length_map, List.length_range]
    have ea : arr.toList = col items n 0 := by
      refine List.ext_getElem? fun k => ?_
      by_cases hk : k < n
      · rw [Array.getElem?_toList, av k (by rw [Nat.zero_add, len]; exact hk), col, List.getElem?_map, List.getElem?_range hk]
        rfl
      · rw [List.getElem?_eq_none (by rw [Array.length_toList, asz]; omega), List.getElem?_eq_none (by rw [sz]; omega)]
    refine wpAny_bind (wpAny_seqItems (s := { s with heap := h2 }) hT2 rfl ?_)
    show wpAny _ _ (newTuple arr.toList >>= _) _ _ _
    rw [ea]
    refine wpAny_bind (wpAny_newTuple (s := { s with heap := h2 }) (hsz := by rw [sz]; exact Nat.le_trans hn8 (by decide)) ?_)
    have up : ∀ b o, h2.get? b = some o → (h2.push (tupObj (col items n 0))).get? b = some o := fun b o e => Heap.get?_push_of_some _ e
    refine wpAny_bind ?_
    show wpAny _ _ (Builtin.SmallTypes.ownedTupleHandOut (.ref z) (.ref h2.objs.size)) _ _ ⟨h2.push (tupObj (col items n 0)), _, _, _, _⟩
    unfold Builtin.SmallTypes.ownedTupleHandOut
    have hz4 : (h2.push (tupObj (col items n 0))).get? z = some (zipObj .ellipsis false (N + n) TO) := up _ _ hz2
    refine wpAny_bind (wpAny_setField_rec hz4 (by simp) fun h5 hz5 hs5 => ?_)
    replace hz5 : h5.get? z = some (zipObj (rawInt h2.objs.size) false (N + n) TO) := hz5
    replace hs5 : Heap.SameBut z (h2.push (tupObj (col items n 0))) h5 := hs5
    refine wpAny_setField_rec hz5 (by simp) fun h6 hz6 hs6 => ?_
    replace hz6 : h6.get? z = some (zipObj (rawInt h2.objs.size) false (N + n) TO) := hz6
    replace hs6 : Heap.SameBut z h5 h6 := hs6
    have zlt : z < h2.objs.size := Heap.lt_size hz2
    have up6 : ∀ b o, b ≠ z → h2.get? b = some o → h6.get? b = some o := fun b o hb e => hs6.extBut b o hb (hs5.extBut b o hb (up b o e))
    refine wpAny_pure ⟨_, rfl, ?_⟩
    show Q (.ref h2.objs.size) _
    have new : h6.get? h2.objs.size = some (tupObj (col items n 0)) := hs6.extBut _ _ (Nat.ne_of_gt zlt) (hs5.extBut _ _ (Nat.ne_of_gt zlt) (Heap.get?_push_size _ rfl))
    rw [sz2] at hz6 new ⊢
    refine hQ h6 ⟨up6 _ _ (ane (.inl z1)) Z2.TI, fun k hk => (Z2.tup k hk).at fun o e => up6 _ o (ane (.inl (Nat.lt_of_lt_of_le (Z2.low k hk) (by omega)))) e, Z2.low, Z2.sz⟩ (fun k hk => ?_) hz6 new (fun b o hb hb2 hb3 e => up6 b o hb (k2 b o hb hb2 hb3 e)) (by rw [hs6.1, hs5.1, Heap.size_push, sz2]; exact Nat.lt_succ_self _)
    have := (D2 k hk).at fun o e => up6 _ o (ane (.inl (by show N + k < z; omega))) e
    rw [if_pos hk] at this
    rw [if_neg (by omega)]
    exact this
theorem zip_end {z TO T : Addr} {f : Bool} {oT : Obj} {Q : Fin → Shared → Prop} (hh : A.handled = none) (Z : ZSt N n m t items s.heap) (D : Drawn N n t m 0 s.heap) (hz : s.heap.get? z = some (zipObj (rawInt T) f (N + n) TO)) (hT : s.heap.get? T = some oT) (z1 : N + n < z) (hn : 0 < n)
    (hE : ∀ h' e, (∀ b o, b ≠ z → (b < N ∨ N + n ≤ b) → s.heap.get? b = some o → h'.get? b = some o) → (∃ o, h'.get? e = some o ∧ o.cls = .type "StopIteration") → E (.ref e) { s with heap := h' }) :
    wpAny (model prog w) A (Builtin.«zip.__next__» ⟨[.ref z], []⟩) Q E s := by
  show wpAny _ _ (field (.ref z) 2 >>= _) _ _ _
  refine wpAny_bind (wpAny_field hz rfl (x := .bool false) rfl ?_)
  show wpAny _ _ (field (.ref z) 3 >>= _) _ _ _
  refine wpAny_bind (wpAny_field hz rfl (x := .ref (N + n)) rfl (wpAny_bind (wpAny_seqItems Z.TI rfl ?_)))
  obtain ⟨c, rfl⟩ : ∃ c, n = c + 1 := ⟨n - 1, by omega⟩
  have e0 : itv N (c + 1) = Value.ref N :: (List.range c).map (fun k => Value.ref (N + (k + 1))) := by
    unfold itv
    rw [List.range_succ_eq_map, List.map_cons, List.map_map]
    rfl
  have ne : (itv N (c + 1)).toArray.isEmpty = false := by rw [e0]; rfl
  simp only [ne, Bool.false_eq_true, if_false]
  refine wpAny_bind (wpAny_tupleHeld_zip hz hT fun h1 hz1 hs1 => ?_)
  simp only [Bool.false_eq_true, if_false]
  refine wpAny_bind ?_
  rw [← Array.forIn_toList, show (itv N (c + 1)).toArray.toList = itv N (c + 1) from rfl, e0, List.forIn_cons]
  refine wpAny_bind (wpAny_bind (wpAny_holding ?_))
  show wpAny _ _ (Builtin.SmallTypes.nextOf (.ref N) >>= _) _ _ _
  have hit := (D 0 hn).extBut hs1.extBut (ane (.inl (by show N + 0 < z; omega)))
  rw [if_neg (by omega)] at hit
  have tup := (Z.tup 0 hn).extBut hs1.extBut (ane (.inl (Nat.lt_of_lt_of_le (Z.low 0 hn) (by omega))))
  refine wpAny_bind (wpAny_nextOf_tuple_end (s := { s with heap := h1 }) hh hit tup (Array.getElem?_eq_none (by rw [Z.sz 0 hn]; exact Nat.le_refl _)) fun h2 e hs2 he => ?_)
  exact hE h2 e (fun b o hb hb2 q => hs2 b o (ane (hb2.imp (fun h => h) fun h => Nat.lt_of_lt_of_le (by omega) h)) (hs1.extBut b o hb q)) he
theorem zip_no_len : typeLookup (.type "zip") "__len__" = pure none := by
  rw [typeLookup_type, builtinLookup_eq_fast]; kernel_rfl
theorem zip_no_hint : typeLookup (.type "zip") "__length_hint__" = pure none := by
  rw [typeLookup_type, builtinLookup_eq_fast]; kernel_rfl
/-- i columns stand in the list at S -/
structure Fill (N n m : Nat) (t : Nat → Addr) (items : Nat → Array Value) (h0 : Heap) (i : Nat) (h : Heap) (acc : Array Value) : Prop where
  Z : ZSt N n m t items h
  D : Drawn N n t i 0 h
  zf : (i = 0 ∧ h.get? (N + n + 2) = some (zipObj .none false (N + n) (N + n + 1)) ∧ ∃ vs : List Value, h.get? (N + n + 1) = some (tupObj vs) ∧ vs.length = n) ∨ (0 < i ∧ ∃ (T : Addr) (f : Bool), acc[0]? = some (.ref T) ∧ h.get? (N + n + 2) = some (zipObj (rawInt T) f (N + n) (N + n + 1)))
  ac : acc.size = i
  made : ∀ j, j < i → ∃ T : Addr, acc[j]? = some (.ref T) ∧ N + n + 3 < T ∧ h.get? T = some (tupObj (col items n j))
  keep : ∀ b o, b < N → h0.get? b = some o → h.get? b = some o
  inj : ∀ (i j : Nat) (T : Addr), acc[i]? = some (.ref T) → acc[j]? = some (.ref T) → i = j
theorem fill_step {h0 : Heap} {i : Nat} {acc : Array Value} {Q : Option Value → Shared → Prop} (Fi : Fill N n m t items h0 i s.heap acc) (hn : 0 < n) (hn8 : n ≤ 8) (hi : i < m) (hsz : N + n + 3 < s.heap.objs.size)
    (hQ : ∀ (h' : Heap) (T : Addr), Fill N n m t items h0 (i + 1) h' (acc.push (.ref T)) → (∀ o, s.heap.get? (N + n + 3) = some o → h'.get? (N + n + 3) = some o) → s.heap.objs.size < h'.objs.size → Q (some (.ref T)) { s with heap := h' }) :
    wpAny (model prog w) A (pyNext (.ref (N + n + 2))) Q E s := by
  have nw : s.heap.get? s.heap.objs.size = none := Heap.get?_none_of_le (Nat.le_refl _)
  have old : ∀ (h' : Heap), (∀ b o, b ≠ N + n + 2 → b ≠ N + n + 1 → (b < N ∨ N + n ≤ b) → s.heap.get? b = some o → h'.get? b = some o) → h'.get? s.heap.objs.size = some (tupObj (col items n i)) →
      (∀ j, j < i + 1 → ∃ T : Addr, (acc.push (Value.ref s.heap.objs.size))[j]? = some (.ref T) ∧ N + n + 3 < T ∧ h'.get? T = some (tupObj (col items n j))) ∧ (∀ b o, b < N → h0.get? b = some o → h'.get? b = some o) ∧ ∀ o, s.heap.get? (N + n + 3) = some o → h'.get? (N + n + 3) = some o := by
    intro h' k new
    refine ⟨fun j hj => ?_, fun b o hb e => k b o (ane (.inl (by show b < N + n + 2; exact Nat.lt_of_lt_of_le hb (by omega)))) (ane (.inl (Nat.lt_of_lt_of_le hb (by omega)))) (.inl hb) (Fi.keep b o hb e), fun o e => k _ o (ane (.inr (Nat.lt_succ_self _))) (ane (.inr (by show N + n + 1 < N + n + 3; omega))) (.inr (by omega)) e⟩
    by_cases c : j = i
    · subst c
      refine ⟨s.heap.objs.size, ?_, hsz, new⟩
      rw [Array.getElem?_push, Fi.ac, if_pos rfl]
    · obtain ⟨T, e1, e2, e3⟩ := Fi.made j (by omega)
      refine ⟨T, ?_, e2, k T _ (ane (.inr (Nat.lt_trans (Nat.lt_succ_self _) e2))) (ane (.inr (Nat.lt_trans (by show N + n + 1 < N + n + 3; omega) e2))) (.inr (Nat.le_of_lt (Nat.lt_of_le_of_lt (by omega) e2))) e3⟩
      rw [Array.getElem?_push, Fi.ac, if_neg c]
      exact e1
  have inj : ∀ (a b : Nat) (T : Addr), (acc.push (Value.ref s.heap.objs.size))[a]? = some (.ref T) → (acc.push (Value.ref s.heap.objs.size))[b]? = some (.ref T) → a = b := by
    have low : ∀ (a : Nat) (T : Addr), acc[a]? = some (.ref T) → T < s.heap.objs.size := by
      intro a T e
      obtain ⟨T', e', _, g⟩ := Fi.made a (by rw [← Fi.ac]; exact (Array.getElem?_eq_some_iff.mp e).1)
      rw [e] at e'; cases e'
      exact Heap.lt_size g
    intro a b T ha hb
    rw [Array.getElem?_push] at ha hb
    by_cases ca : a = acc.size
    · by_cases cb : b = acc.size
      · rw [ca, cb]
      · rw [if_pos ca] at ha; rw [if_neg cb] at hb
        cases ha
        exact absurd (low _ _ hb) (Nat.lt_irrefl _)
    · rw [if_neg ca] at ha
      by_cases cb : b = acc.size
      · rw [if_pos cb] at hb
        cases hb
        exact absurd (low _ _ ha) (Nat.lt_irrefl _)
      · rw [if_neg cb] at hb
        exact Fi.inj a b T ha hb
  have go : ∀ (f0 : Value) (b0 : Bool) (hz : s.heap.get? (N + n + 2) = some (zipObj f0 b0 (N + n) (N + n + 1))), (∀ E' : Value → Shared → Prop, wpAny (model prog w) A.in1 (Builtin.«zip.__next__» ⟨[.ref (N + n + 2)], []⟩) (fun fin s' => ∃ v, fin = .done (.ret v) ∧ Q (some v) s') E' s) → wpAny (model prog w) A (pyNext (.ref (N + n + 2))) Q E s := by
    intro f0 b0 hz hw
    have hTy : s.TypeIs (.ref (N + n + 2)) "zip" := ⟨_, hz, rfl⟩
    unfold pyNext
    refine wpAny_bind (wpAny_attempt (wpAny_callSpecial?_slot (name := Str.ofString "__next__") hTy F.slot_zip_next (wpAny_call_entry F.slot_zip_next hTy F.entry_zip_next ?_ (F.args_zip_next_1 _))))
    refine thn (hw _) ?_
    rintro fin' s' ⟨v, e, q⟩
    exact ⟨v, e, wpAny_pure q⟩
  rcases Fi.zf with ⟨i0, hz, vs, hT, hv⟩ | ⟨i0, T, f, e1, hz⟩
  · subst i0
    refine go _ _ hz fun E' => (zip_first Fi.Z Fi.D hz hT hv (by show N + n < N + n + 2; omega) (by show N + n < N + n + 1; omega) (ane (.inr (Nat.lt_succ_self _))) hn hn8 hi ?_)
    intro h' Z' D' z' new k sz
    obtain ⟨m1, m2, m3⟩ := old h' k new
    refine hQ h' _ ⟨Z', D', .inr ⟨by omega, _, _, ?_, z'⟩, by rw [Array.size_push, Fi.ac], m1, m2, inj⟩ m3 sz
    rw [Array.getElem?_push, Fi.ac, if_pos (by omega)]
  · obtain ⟨T', e2, e3, e4⟩ := Fi.made 0 i0
    obtain rfl : T = T' := by rw [e1] at e2; cases e2; rfl
    refine go _ _ hz fun E' => (zip_held Fi.Z Fi.D hz e4 (by show N + n < N + n + 2; omega) hn hn8 hi ?_)
    intro h' Z' D' z' new k sz
    obtain ⟨m1, m2, m3⟩ := old h' (fun b o b1 _ b3 => k b o b1 b3) new
    refine hQ h' _ ⟨Z', D', .inr ⟨by omega, T, _, ?_, z'⟩, by rw [Array.size_push, Fi.ac], m1, m2, inj⟩ m3 sz
    rw [Array.getElem?_push, Fi.ac, if_neg (by omega)]
    exact e1
/-- list(zip(..)) fills its list -/
theorem zip_loop {h0 : Heap} {R : Result → Shared → Prop} {res : Value} (hh : A.handled = none) (hn : 0 < n) (hn8 : n ≤ 8) (hm : 0 < m) (hm2 : m ≤ 1000) : ∀ (k i : Nat) (s : Shared) (acc : Array Value) (c : Nat), m - i = k → i ≤ m → Fill N n m t items h0 i s.heap acc → N + n + 3 < s.heap.objs.size →
    s.heap.get? (N + n + 3) = some { cls := .type "list", dict := none, data := .seq acc c, slots := #[] } →
    (∀ (h' : Heap) (acc' : Array Value) (c' : Nat), (∀ b o, b < N → h0.get? b = some o → h'.get? b = some o) → h'.get? (N + n + 3) = some { cls := .type "list", dict := none, data := .seq acc' c', slots := #[] } → acc'.size = m →
      (∀ j, j < m → ∃ T : Addr, acc'[j]? = some (.ref T) ∧ N + n + 3 < T ∧ h'.get? T = some (tupObj (col items n j))) → (∀ (i j : Nat) (T : Addr), acc'[i]? = some (.ref T) → acc'[j]? = some (.ref T) → i = j) → R (.ok (.ret res)) { s with heap := h' }) →
    codeAny (model prog w) A (.builtin "list.extend.loop" ⟨[.ref (N + n + 3), .ref (N + n + 2), res], []⟩) R s := by
  intro k
  induction k with
  | zero =>
    intro i s acc c hk hi Fi sz hS hR
    obtain rfl : i = m := by omega
    refine codeAny_builtin F.entry_extend_loop ?_
    rw [Around.under_plainId F.plain_extend_loop _]
    show wpAny _ A.in1 (pyNext (.ref (N + n + 2)) >>= _) _ _ s
    refine wpAny_bind ?_
    rcases Fi.zf with ⟨i0, _⟩ | ⟨i0, T, f, e1, hz⟩
    · omega
    obtain ⟨T', e2, e3, e4⟩ := Fi.made 0 i0
    obtain rfl : T = T' := by rw [e1] at e2; cases e2; rfl
    have hTy : s.TypeIs (.ref (N + n + 2)) "zip" := ⟨_, hz, rfl⟩
    unfold pyNext
    refine wpAny_bind (wpAny_attempt (wpAny_callSpecial?_slot (name := Str.ofString "__next__") hTy F.slot_zip_next (wpAny_call_entry F.slot_zip_next hTy F.entry_zip_next
      (zip_end hh Fi.Z Fi.D hz e4 (by show N + n < N + n + 2; omega) hn fun h' e ks he => ?_) (F.args_zip_next_1 _))))
    obtain ⟨o, ho, hc⟩ := he
    refine wpAny_bind (wpAny_isInstance (T := "StopIteration") (b := true) ⟨o, ho, hc⟩ isSubtype_stop ?_)
    refine wpAny_pure (wpAny_pure (hR h' acc c (fun b o hb q => ks b o (ane (.inl (Nat.lt_of_lt_of_le hb (by omega)))) (.inl hb) (Fi.keep b o hb q)) (ks _ _ (ane (.inr (Nat.lt_succ_self _))) (.inr (by omega)) hS) Fi.ac (fun j hj => ?_) Fi.inj))
    obtain ⟨T2, q1, q2, q3⟩ := Fi.made j hj
    exact ⟨T2, q1, q2, ks T2 _ (ane (.inr (Nat.lt_trans (Nat.lt_succ_self _) q2))) (.inr (Nat.le_of_lt (Nat.lt_of_le_of_lt (by omega) q2))) q3⟩
  | succ k ih =>
    intro i s acc c hk hi Fi sz hS hR
    refine codeAny_builtin F.entry_extend_loop ?_
    rw [Around.under_plainId F.plain_extend_loop _]
    show wpAny _ A.in1 (pyNext (.ref (N + n + 2)) >>= _) _ _ s
    refine wpAny_bind (fill_step Fi hn hn8 (by omega) sz fun h' T Fi' kS sz' => ?_)
    have hS' := kS _ hS
    show wpAny _ A.in1 (updateSeq (N + n + 3) (·.push (Value.ref T)) >>= _) _ _ _
    refine wpAny_bind (wpAny_updateSeq (s := { s with heap := h' }) hS' rfl (wpAny_pure ⟨plainId_quiet F.plain_extend_loop _, ?_⟩) (by rw [Fi.ac]; exact Nat.le_of_lt (small1000 (by omega))) (by show (acc.push _).size ≤ _; rw [Array.size_push, Fi.ac]; exact Nat.succ_le_succ (Nat.le_of_lt (small1000 (by omega)))))
    generalize hh5 : h'.update (N + n + 3) (Obj.mapSeq fun x => x.push (Value.ref T)) = h5
    have up : ∀ b o, b ≠ N + n + 3 → h'.get? b = some o → h5.get? b = some o := fun b o hb e => by rw [← hh5]; exact (Heap.get?_update_other _ _ (Ne.symm hb)).trans e
    have new : h5.get? (N + n + 3) = some { cls := .type "list", dict := none, data := .seq (acc.push (Value.ref T)) (c + 1), slots := #[] } := by
      rw [← hh5, Heap.get?_update_self _ hS' rfl]
      simp [Obj.mapSeq]
    have s5 : h5.objs.size = h'.objs.size := by rw [← hh5]; exact (Heap.SameBut.update ..).1
    have F5 : Fill N n m t items h0 (i + 1) h5 (acc.push (.ref T)) := by
      refine ⟨⟨up _ _ (ane (.inl (by show N + n < N + n + 3; omega))) Fi'.Z.TI, fun k hk => (Fi'.Z.tup k hk).at fun o e => up _ o (ane (.inl (Nat.lt_of_lt_of_le (Fi'.Z.low k hk) (by omega)))) e, Fi'.Z.low, Fi'.Z.sz⟩, fun k hk => (Fi'.D k hk).at fun o e => up _ o (ane (.inl (by show N + k < N + n + 3; omega))) e, ?_, Fi'.ac, fun j hj => ?_, fun b o hb e => up b o (ane (.inl (Nat.lt_of_lt_of_le hb (by omega)))) (Fi'.keep b o hb e), Fi'.inj⟩
      · rcases Fi'.zf with ⟨i0, _⟩ | ⟨i0, T1, f, e1, hz⟩
        · omega
        · exact .inr ⟨i0, T1, f, e1, up _ _ (ane (.inl (Nat.lt_succ_self _))) hz⟩
      · obtain ⟨T2, q1, q2, q3⟩ := Fi'.made j hj
        exact ⟨T2, q1, q2, up T2 _ (ane (.inr q2)) q3⟩
    exact ih (i + 1) { s with heap := h5 } (acc.push (.ref T)) (c + 1) (by omega) (by omega) F5 (by show N + n + 3 < h5.objs.size; rw [s5]; exact Nat.lt_trans sz sz') new hR
/-- list(z) of a zip that has just been made -/
theorem zip_init {R : Result → Shared → Prop} (hh : A.handled = none) (hn : 0 < n) (hn8 : n ≤ 8) (hm : 0 < m) (hm2 : m ≤ 1000) (Fi : Fill N n m t items s.heap 0 s.heap #[]) (sz : s.heap.objs.size = N + n + 4) (hS : s.heap.get? (N + n + 3) = some { cls := .type "list", data := .seq #[] })
    (hR : ∀ (h' : Heap) (acc' : Array Value) (c' : Nat), (∀ b o, b < N → s.heap.get? b = some o → h'.get? b = some o) → h'.get? (N + n + 3) = some { cls := .type "list", dict := none, data := .seq acc' c', slots := #[] } → acc'.size = m →
      (∀ j, j < m → ∃ T : Addr, acc'[j]? = some (.ref T) ∧ N + n + 3 < T ∧ h'.get? T = some (tupObj (col items n j))) → (∀ (i j : Nat) (T : Addr), acc'[i]? = some (.ref T) → acc'[j]? = some (.ref T) → i = j) → R (.ok (.ret .none)) { s with heap := h' }) :
    wpAny (model prog w) A.in1 (Builtin.«list.__init__» ⟨[.ref (N + n + 3), .ref (N + n + 2)], []⟩)
      (fun fin s' => match fin with | .done f => R (.ok f) s' | .again c' => c'.quiet = true ∧ codeAny (model prog w) A c' R s') (fun e s' => R (.error e) s') s := by
  rcases Fi.zf with ⟨_, hz, vs, hT, hv⟩ | ⟨i0, _⟩
  rotate_left
  · exact absurd i0 (Nat.lt_irrefl _)
  show wpAny _ A.in1 (Builtin.List.listItems (.ref (N + n + 3)) >>= fun old => Builtin.List.listUpdate (.ref (N + n + 3)) (fun _ => #[]) >>= fun _ => letGo old.toList.reverse >>= fun _ => Builtin.List.listExtendWith (.ref (N + n + 3)) (.ref (N + n + 2)) .none) _ _ s
  refine wpAny_bind ?_
  unfold Builtin.List.listItems
  refine wpAny_bind (wpAny_seqItems hS rfl (wpAny_pure ?_))
  show wpAny _ A.in1 (updateSeq (N + n + 3) (fun _ => #[]) >>= fun _ => letGo (#[] : Array Value).toList.reverse >>= fun _ => Builtin.List.listExtendWith (.ref (N + n + 3)) (.ref (N + n + 2)) .none) _ _ s
  -- every change of the list's own object keeps the rest
  have step : ∀ (g : Heap) (f : Array Value → Array Value) (xs : Array Value) (c : Nat), g.get? (N + n + 3) = some { cls := .type "list", dict := none, data := .seq xs c, slots := #[] } → ∃ g' c', g.update (N + n + 3) (Obj.mapSeq f) = g' ∧ g'.get? (N + n + 3) = some { cls := .type "list", dict := none, data := .seq (f xs) c', slots := #[] } ∧ g'.objs.size = g.objs.size ∧ ∀ b o, b ≠ N + n + 3 → g.get? b = some o → g'.get? b = some o := by
    intro g f xs c hg
    exact ⟨_, _, rfl, Heap.get?_update_self _ hg rfl, (Heap.SameBut.update ..).1, fun b o hb e => (Heap.get?_update_other _ _ (Ne.symm hb)).trans e⟩
  have carry : ∀ (g g' : Heap), g'.objs.size = g.objs.size → (∀ b o, b ≠ N + n + 3 → g.get? b = some o → g'.get? b = some o) → Fill N n m t items s.heap 0 g #[] → Fill N n m t items s.heap 0 g' #[] := by
    intro g g' _ up Fg
    refine ⟨⟨up _ _ (ane (.inl (by show N + n < N + n + 3; omega))) Fg.Z.TI, fun k hk => (Fg.Z.tup k hk).at fun o e => up _ o (ane (.inl (Nat.lt_of_lt_of_le (Fg.Z.low k hk) (by omega)))) e, Fg.Z.low, Fg.Z.sz⟩, fun k hk => (Fg.D k hk).at fun o e => up _ o (ane (.inl (by show N + k < N + n + 3; omega))) e, ?_, rfl, fun j hj => absurd hj (Nat.not_lt_zero _), fun b o hb e => up b o (ane (.inl (Nat.lt_of_lt_of_le hb (by omega)))) (Fg.keep b o hb e), Fg.inj⟩
    rcases Fg.zf with ⟨_, q1, ws, q2, q3⟩ | ⟨i0, _⟩
    · exact .inl ⟨rfl, up _ _ (ane (.inl (Nat.lt_succ_self _))) q1, ws, up _ _ (ane (.inl (by show N + n + 1 < N + n + 3; omega))) q2, q3⟩
    · exact absurd i0 (Nat.lt_irrefl _)
  obtain ⟨g1, c1, e1, l1, z1, k1⟩ := step s.heap (fun _ => #[]) #[] _ hS
  have F1 := carry _ _ z1 k1 Fi
  refine wpAny_bind (wpAny_updateSeq hS rfl (wpAny_bind (wpAny_letGo ?_)))
  rw [e1]
  unfold Builtin.List.listExtendWith
  have hz1 : g1.get? (N + n + 2) = some (zipObj .none false (N + n) (N + n + 1)) := k1 _ _ (ane (.inl (Nat.lt_succ_self _))) hz
  have hTy : (⟨g1, s.gens, s.drawn, s.toks, s.os⟩ : Shared).TypeIs (.ref (N + n + 2)) "zip" := ⟨_, hz1, rfl⟩
  refine wpAny_bind (wpAny_typeOf hTy ?_)
  have h1 : Builtin.List.listSameRef (.ref (N + n + 3)) (.ref (N + n + 2)) = false := by simp [Builtin.List.listSameRef]
  have h2 : (Value.type "zip" == Value.type "list") = false := by decide
  have h3 : (Value.type "zip" == Value.type "tuple") = false := by decide
  simp only [h1, h2, h3, Bool.or_false, Bool.false_eq_true, if_false]
  refine wpAny_bind (wpAny_pyIter_zip (s := ⟨g1, s.gens, s.drawn, s.toks, s.os⟩) hz1 (wpAny_bind (wpAny_holding ?_)))
  unfold Builtin.List.listLengthHint
  refine wpAny_bind (wpAny_specialOf hTy zip_no_len ?_)
  show wpAny _ A.in1 (specialOf (Value.ref (N + n + 2)) (Str.ofString "__length_hint__") >>= _) _ _ _
  refine wpAny_bind (wpAny_specialOf hTy zip_no_hint (wpAny_pure ?_))
  show wpAny _ A.in1 (rule "list.extend.makes-room" >>= fun _ => Builtin.List.listTouch (.ref (N + n + 3)) >>= fun _ =>
    again (.builtin "list.extend.loop" ⟨[.ref (N + n + 3), .ref (N + n + 2), .none], []⟩)) _ _ _
  refine wpAny_bind (wpAny_rule ?_)
  refine wpAny_bind ?_
  show wpAny _ A.in1 (updateSeq (N + n + 3) (·.push .none) >>= fun _ => updateSeq (N + n + 3) (·.pop)) _ _ _
  obtain ⟨g2, c2, e2, l2, z2, k2⟩ := step g1 (·.push .none) #[] _ l1
  have F2 := carry _ _ z2 k2 F1
  refine wpAny_bind (wpAny_updateSeq (s := ⟨g1, s.gens, s.drawn, s.toks, s.os⟩) l1 rfl ?_)
  rw [e2]
  obtain ⟨g3, c3, e3, l3, z3, k3⟩ := step g2 (·.pop) _ _ l2
  have F3 := carry _ _ z3 k3 F2
  refine wpAny_updateSeq (s := ⟨g2, s.gens, s.drawn, s.toks, s.os⟩) l2 rfl ?_
  rw [e3]
  have hsz3 : N + n + 3 < g3.objs.size := by rw [z3, z2, z1, sz]; omega
  refine wpAny_pure ⟨plainId_quiet F.plain_extend_loop _, zip_loop hh hn hn8 hm hm2 m 0 ⟨g3, s.gens, s.drawn, s.toks, s.os⟩ #[] c3 (Nat.sub_zero _) (Nat.zero_le _) F3 hsz3 l3 ?_⟩
  exact hR
end
end Vx

namespace Vx
open PySem PySem.Spec PyProof.Rows L2
/-- a built-in class called with one starred argument -/
theorem callWith_typeS {M : Model} {A : Around} {E : Value → Shared → Prop} {s : Shared} {pos p : Pos} {T : String} {env : Env} {e : Expr} {Q : Value → Shared → Prop}
    (h : wpAny M A (eval e env) (fun v s₁ => PySem.W.StarOf M A E v (fun us s₂ => wpAny M A (call (.type T) us) Q E s₂) s₁) E s) (he : starEach [.Starred e p] env = [(true, eval e env)] := by rfl) :
    wpAny M A (callWith pos (.type T) [] (backTo pos (starEach [.Starred e p] env)) []) Q E s := by
  rw [he]
  refine PySem.W.ks_call (P := fun _ => True) rfl (fun h _ => ⟨.machine, .inr (.inl rfl), .of_pure rfl⟩) (PySem.W.ks_lone (Q := fun a s₁ => True ∧ wpAny M A (call (.type T) ([] ++ a.pos) a.kw) Q E s₁) ?_)
  refine thn h fun v s₁ h₁ => ?_
  unfold PySem.W.StarOf at h₁ ⊢
  exact thn h₁ fun b s₂ h₂ => ⟨h₂.1, thn h₂.2 fun us s₃ h₃ => ⟨trivial, h₃⟩⟩
section
variable {prog : Program} {w : World} {A : Around} {E : Value → Shared → Prop} {s : Shared}
theorem call_zipN {ts : List Addr} {items : Nat → Array Value} {Q : Value → Shared → Prop} (h8 : ts.length ≤ 8) (ht : ∀ k t, ts[k]? = some t → s.heap.IsTuple t (items k))
    (hQ : ∀ h' : Heap, h'.objs.size = s.heap.objs.size + ts.length → (∀ b o, s.heap.get? b = some o → h'.get? b = some o) → (∀ k t, ts[k]? = some t → h'.IsTupleIter (s.heap.objs.size + k) t 0) →
      Q (.ref (h'.objs.size + 2)) { s with heap := zipHeap h' (itv s.heap.objs.size ts.length) }) : wpAny (model prog w) A (call (.type "zip") (ts.map Value.ref)) Q E s := by
  refine callType_new F.called_zip (by decide) (zt _) (zn _ (by rw [List.length_map]; exact h8)) (fun obj => zo obj _) F.entry_zip_new (meets_zip ts items (Nat.le_trans h8 (by decide))) ⟨ht, fun h' hz hk hi => ?_⟩
  have e : ((h'.push (tupObj (itv s.heap.objs.size ts.length))).push (tupObj ((itv s.heap.objs.size ts.length).map fun _ => Value.none))).objs.size = h'.objs.size + 2 := by rw [Heap.size_push, Heap.size_push]
  have g : (zipHeap h' (itv s.heap.objs.size ts.length)).get? (h'.objs.size + 2) = some (zipObj .none false h'.objs.size (h'.objs.size + 1)) := by
    rw [← e]
    exact Heap.get?_push_size _ rfl
  exact ⟨⟨_, g, rfl⟩, hQ h' hz hk hi⟩
/-- list(zip(..)): n tuples of m items each -/
theorem call_listZip {n m : Nat} {ts : List Addr} {items : Nat → Array Value} {Q : Value → Shared → Prop} (hh : A.handled = none) (hl : ts.length = n) (hn : 0 < n) (hn8 : n ≤ 8) (hm : 0 < m) (hm2 : m ≤ 1000)
    (ht : ∀ k t, ts[k]? = some t → s.heap.IsTuple t (items k)) (hs : ∀ k, k < n → (items k).size = m)
    (hQ : ∀ (h' : Heap) (acc' : Array Value) (c' : Nat) (L : Addr), s.heap.objs.size ≤ L → (∀ b o, s.heap.get? b = some o → h'.get? b = some o) → h'.get? L = some { cls := .type "list", dict := none, data := .seq acc' c', slots := #[] } → acc'.size = m →
      (∀ j, j < m → ∃ T : Addr, acc'[j]? = some (.ref T) ∧ L < T ∧ h'.get? T = some (tupObj (col items n j))) → (∀ (i j : Nat) (T : Addr), acc'[i]? = some (.ref T) → acc'[j]? = some (.ref T) → i = j) → Q (.ref L) { s with heap := h' }) :
    wpAny (model prog w) A (call (.type "zip") (ts.map Value.ref)) (fun v s1 => wpAny (model prog w) A (call (.type "list") [v]) Q E s1) E s := by
  subst hl
  refine call_zipN hn8 ht fun h' hz hk hi => ?_
  generalize hN : s.heap.objs.size = N at *
  have sz : (zipHeap h' (itv N ts.length)).objs.size = N + ts.length + 3 := by simp only [Heap.size_push, hz]
  have g1 : (zipHeap h' (itv N ts.length)).get? (N + ts.length) = some (tupObj (itv N ts.length)) := by
    refine Heap.get?_push_of_some _ (Heap.get?_push_of_some _ ?_)
    rw [← hz]
    exact Heap.get?_push_size _ rfl
  have g2 : (zipHeap h' (itv N ts.length)).get? (N + ts.length + 1) = some (tupObj ((itv N ts.length).map fun _ => Value.none)) := by
    refine Heap.get?_push_of_some _ ?_
    have e : (h'.push (tupObj (itv N ts.length))).objs.size = N + ts.length + 1 := by rw [Heap.size_push, hz]
    rw [← e]
    exact Heap.get?_push_size _ rfl
  have g3 : (zipHeap h' (itv N ts.length)).get? (N + ts.length + 2) = some (zipObj .none false (N + ts.length) (N + ts.length + 1)) := by
    have e : ((h'.push (tupObj (itv N ts.length))).push (tupObj ((itv N ts.length).map fun _ => Value.none))).objs.size = N + ts.length + 2 := by rw [Heap.size_push, Heap.size_push, hz]
    rw [← e, ← hz]
    exact Heap.get?_push_size _ rfl
  have up0 : ∀ b o, h'.get? b = some o → (zipHeap h' (itv N ts.length)).get? b = some o := fun b o e => Heap.get?_push_of_some _ (Heap.get?_push_of_some _ (Heap.get?_push_of_some _ e))
  rw [show h'.objs.size + 2 = N + ts.length + 2 by rw [hz]]
  generalize hZ : zipHeap h' (itv N ts.length) = hp at *
  refine callType_codes (Q₁ := fun obj s₁ => obj = .ref (N + ts.length + 3) ∧ s₁ = { s with heap := hp.push { cls := .type "list", data := .seq #[] } }) F.called_list (F.typeCall_list_1 _) F.entry_list_init
    (code_list_new _ ⟨by rw [show ({ s with heap := hp } : Shared).heap.objs.size = N + ts.length + 3 from sz], rfl⟩) fun obj s₁ h₁ => ?_
  obtain ⟨rfl, rfl⟩ := h₁
  have hS : (hp.push { cls := .type "list", data := .seq #[] }).get? (N + ts.length + 3) = some { cls := .type "list", data := .seq #[] } := by
    rw [← sz]
    exact Heap.get?_push_size _ rfl
  have up1 : ∀ b o, hp.get? b = some o → (hp.push { cls := .type "list", data := .seq #[] }).get? b = some o := fun b o e => Heap.get?_push_of_some _ e
  have tk : ∀ k, k < ts.length → ts[k]? = some (ts[k]?.getD 0) := fun k hk => by rw [List.getElem?_eq_getElem hk]; rfl
  have Fi : Fill N ts.length m (fun k => ts[k]?.getD 0) items (hp.push { cls := .type "list", data := .seq #[] }) 0 (hp.push { cls := .type "list", data := .seq #[] }) #[] := by
    refine ⟨⟨up1 _ _ g1, fun k hk' => ?_, fun k hk' => ?_, hs⟩, fun k hk' => ?_, .inl ⟨rfl, up1 _ _ g3, _, up1 _ _ g2, ?_⟩, rfl, fun j hj => absurd hj (Nat.not_lt_zero _), fun b o _ e => e, fun i j T e => by simp at e⟩
    · exact (ht k _ (tk k hk')).at fun o e => up1 _ o (up0 _ o (hk _ o e))
    · obtain ⟨o, ho, _⟩ := ht k _ (tk k hk')
      rw [← hN]
      exact Heap.lt_size ho
    · rw [if_neg (Nat.not_lt_zero _)]
      exact (hi k _ (tk k hk')).at fun o e => up1 _ o (up0 _ o e)
    · unfold itv; rw [List.length_map, List.length_map, List.length_range]
  refine ⟨⟨_, hS, rfl⟩, F.args_list_init_2 _ _, zip_init (A := A.in1) hh hn hn8 hm hm2 Fi (by show (hp.push _).objs.size = _; rw [Heap.size_push, sz]) hS fun h2 acc c kp gL sz2 made inj => ?_⟩
  refine ⟨rfl, hQ h2 acc c _ (by omega) (fun b o e => kp b o ?_ (up1 _ _ (up0 _ _ (hk b o e)))) gL sz2 made inj⟩
  rw [← hN]
  exact Heap.lt_size e
end
end Vx

namespace Vx
open PySem PySem.Spec PyProof.Rows L2
/-- several objects are new at once -/
theorem inv_many {X : Cx} {pins : List (Addr × Obj)} {σ : L2.St} {H H' : Hp} {s : Shared} {h' : Heap} {t' : Nat} (I : Inv X pins σ H s) (k : ∀ b u, s.heap.get? b = some u → h'.get? b = some u) (same : Same H H')
    (new : ∀ b u, H b = none → H' b = some u → ObjOk X.prog X.w H' h' b u ∧ s.heap.objs.size ≤ b) : Inv X pins σ H' { s with heap := h', toks := t' } := by
  refine I.un ⟨fun b o e _ _ _ => k b o e, fun b o e _ _ _ => ⟨o.slots, k b o e⟩, fun b o e n _ => ?_, fun b o e _ => ⟨o, k b o e⟩, fun b xs e => same _ _ e, fun b o u e => same _ _ e, fun b ps e => ⟨#[], by rw [same _ _ e]; simp⟩⟩ fun b u e => ?_
  · cases q : H' b with
    | none => rfl
    | some u => exact absurd (Nat.lt_of_lt_of_le (Heap.lt_size e) (new b u n q).2) (Nat.lt_irrefl _)
  · cases q : H b with
    | none => exact (new b u q e).1
    | some v =>
      obtain rfl : v = u := by rw [same _ _ q] at e; exact Option.some.inj e
      exact (I.hok b v q).stay (fun c v' _ z => k c v' z) (fun c z => same _ _ z) fun c xs z => same _ _ z
def colV (rows : List (List V)) (j : Nat) : List V := rows.map fun r => (r[j]?).getD .non
def tLZ (K : PySem.W.Frag) (te : TE) : TE := fun σ H Q => te σ H fun x H1 => ∃ (p : Addr) (ps : List Addr) (rows : List (List V)) (m : Nat), x = V.ref p ∧ (SqT K H1 p (ps.map V.ref) ∨ SqL K H1 p (ps.map V.ref)) ∧ ps.length = rows.length ∧ 0 < ps.length ∧ ps.length ≤ 8 ∧ 0 < m ∧ m ≤ 1000 ∧
  (∀ (k : Nat) (q : Addr) (r : List V), ps[k]? = some q → rows[k]? = some r → SqT K H1 q r ∧ r.length = m) ∧
  ∀ (L : Addr) (Ts : List Addr) (H2 : Hp), Same H1 H2 → H1 L = none → H2 L = some (.lst (Ts.map V.ref)) → Ts.length = m → (∀ (j : Nat) (t : Addr), Ts[j]? = some t → H1 t = none ∧ t ≠ L ∧ H2 t = some (.tup (colV rows j))) → Q (.ref L) H2
open Classical in
theorem pe_listZip {X : Cx} {e : Expr} {te : TE} {p p2 sp_ pos pos2 : Pos} (hc : X.calm = true) (hg : Gl X "list") (hm : X.mg "list" = none) (hg2 : Gl X "zip") (hm2 : X.mg "zip" = none) (he : PE X e te)
    (na : starEach [.Call (.Name "zip" p2) [.Starred e sp_] [] pos2] X.env = (false, eval (.Call (.Name "zip" p2) [.Starred e sp_] [] pos2) X.env) :: starEach [] X.env := by rfl)
    (hst : starEach [.Starred e sp_] X.env = [(true, eval e X.env)] := by rfl) : PE X (.Call (.Name "list" p) [.Call (.Name "zip" p2) [.Starred e sp_] [] pos2] [] pos) (tLZ X.K te) := by
  refine ⟨fun pins s σ H Q I h => ?_⟩
  refine Call_ (ld_blt I hg hm boot_list (PyProof.Rows.callWith_type1 (args_cons ?_ na) na))
  refine Call_ (ld_blt I hg2 hm2 PyProof.Rows.boot_zip (callWith_typeS (thn (he.run pins s σ H _ I h) fun v s1 ⟨y, H1, I1, ry, q⟩ => ?_) hst))
  obtain ⟨a, ps, rows, m, rfl, hsq, hlen, hn, hn8, hm0, hm1, hrow, q⟩ := q
  obtain rfl : v = Value.ref a := ry
  refine StX.star_any I1 hsq fun us s2 I2 rv => ?_
  have us_eq : us = ps.map Value.ref := by
    have all : ∀ (l : List Addr) (us : List Value), Vals (l.map V.ref) us → us = l.map Value.ref := by
      intro l
      induction l with
      | nil => intro us r; cases r; rfl
      | cons x l ih =>
        intro us r
        cases r with
        | cons r1 r2 =>
          cases r1
          rw [ih _ r2] <;> rfl
    exact all ps us rv
  subst us_eq
  have ex : ∀ k : Nat, ∃ its : Array Value, ∀ (b : Addr) (r : List V), ps[k]? = some b → rows[k]? = some r → s2.heap.IsTuple b its ∧ Vals r its.toList := by
    intro k
    cases e1 : ps[k]? with
    | none => exact ⟨#[], fun b r z => by cases z⟩
    | some b =>
      cases e2 : rows[k]? with
      | none => exact ⟨#[], fun b r _ z => by cases z⟩
      | some r =>
        obtain ⟨its, r1, p1, _⟩ := I2.tuple (hrow k b r e1 e2).1
        refine ⟨its.toArray, fun b' r' z1 z2 => ?_⟩
        cases z1; cases z2
        exact ⟨p1, by simpa using r1⟩
  have rk : ∀ (k : Nat) (b : Addr), ps[k]? = some b → ∃ r, rows[k]? = some r := by
    intro k b e
    have := (List.getElem?_eq_some_iff.mp e).1
    exact ⟨_, List.getElem?_eq_getElem (by omega)⟩
  have pk : ∀ k : Nat, k < ps.length → ∃ (b : Addr) (r : List V), ps[k]? = some b ∧ rows[k]? = some r := fun k hk => ⟨_, _, List.getElem?_eq_getElem hk, List.getElem?_eq_getElem (by omega)⟩
  refine wpAny_mono (call_listZip (n := ps.length) (m := m) (items := fun k => (ex k).choose) (Q := fun r s3 => EP X pins σ Q r s3) (I2.ok.hd hc) rfl hn hn8 hm0 hm1 ?_ ?_ ?_) ?_ fun _ _ z => z
  · intro k t e
    obtain ⟨r, er⟩ := rk k t e
    exact ((ex k).choose_spec t r e er).1
  · intro k hk
    obtain ⟨b, r, e1, e2⟩ := pk k hk
    have z := ((ex k).choose_spec b r e1 e2).2.length
    rw [(hrow k b r e1 e2).2] at z
    simpa using z.symm
  · intro h' acc c L hL kp gL sz made inj
    have addr : ∃ Ts : List Addr, acc.toList = Ts.map Value.ref := by
      refine ⟨(List.range m).map fun j => if hj : j < m then (made j hj).choose else 0, ?_⟩
      refine List.ext_getElem (by simp [sz]) fun j h1 h2 => ?_
      have hj : j < m := by simpa [sz] using h1
      have z := (made j hj).choose_spec.1
      rw [List.getElem_map, List.getElem_map, List.getElem_range, dif_pos hj]
      have z2 : acc[j]? = some (acc.toList[j]) := by rw [Array.getElem_toList]; exact Array.getElem?_eq_getElem (by rw [sz]; exact hj)
      exact Option.some.inj (z2.symm.trans z)
    obtain ⟨Ts, eT⟩ := addr
    have tl : Ts.length = m := by
      have := congrArg List.length eT
      simpa [sz] using this.symm
    have tget : ∀ (j : Nat) (t : Addr), Ts[j]? = some t → acc[j]? = some (Value.ref t) := by
      intro j t e
      rw [← Array.getElem?_toList, eT, List.getElem?_map, e]
      rfl
    have tmade : ∀ (j : Nat) (t : Addr), Ts[j]? = some t → L < t ∧ h'.get? t = some (tupObj (col (fun k => (ex k).choose) ps.length j)) := by
      intro j t e
      have hj : j < m := by rw [← tl]; exact (List.getElem?_eq_some_iff.mp e).1
      obtain ⟨T, e1, e2, e3⟩ := made j hj
      rw [tget j t e] at e1
      cases e1
      exact ⟨e2, e3⟩
    have tinj : ∀ (i j : Nat) (t : Addr), Ts[i]? = some t → Ts[j]? = some t → i = j := fun i j t a b => inj i j t (tget i t a) (tget j t b)
    let H2 : Hp := fun b => if b = L then some (.lst (Ts.map V.ref)) else if e : ∃ j : Nat, Ts[j]? = some b then some (.tup (colV rows e.choose)) else H1 b
    have h2L : H2 L = some (.lst (Ts.map V.ref)) := if_pos rfl
    have h2T : ∀ (j : Nat) (t : Addr), Ts[j]? = some t → H2 t = some (.tup (colV rows j)) := by
      intro j t e
      have ne : t ≠ L := fun z => by have := (tmade j t e).1; rw [z] at this; exact Nat.lt_irrefl _ this
      have ex2 : ∃ j : Nat, Ts[j]? = some t := ⟨j, e⟩
      show (if t = L then _ else if e : ∃ j : Nat, Ts[j]? = some t then some (HO.tup (colV rows e.choose)) else H1 t) = _
      rw [if_neg ne, dif_pos ex2, tinj _ _ _ ex2.choose_spec e]
    have frT : ∀ (j : Nat) (t : Addr), Ts[j]? = some t → H1 t = none := fun j t e => I2.hok.fresh (Nat.le_trans hL (Nat.le_of_lt (tmade j t e).1))
    have frL : H1 L = none := I2.hok.fresh hL
    have same : Same H1 H2 := by
      intro b u e
      have n1 : b ≠ L := fun z => by rw [z, frL] at e; cases e
      have n2 : ¬ ∃ j : Nat, Ts[j]? = some b := fun ⟨j, z⟩ => by rw [frT j b z] at e; cases e
      show (if b = L then _ else if e : ∃ j : Nat, Ts[j]? = some b then some (HO.tup (colV rows e.choose)) else H1 b) = _
      rw [if_neg n1, dif_neg n2]
      exact e
    refine ⟨.ref L, H2, inv_many (t' := s2.toks) I2 kp same fun b u n e => ?_, rfl, q L Ts H2 same frL h2L tl fun j t e => ⟨frT j t e, fun z => by have := (tmade j t e).1; rw [z] at this; exact Nat.lt_irrefl _ this, h2T j t e⟩⟩
    by_cases n1 : b = L
    · subst n1
      rw [h2L] at e
      cases e
      refine ⟨⟨?_, acc.toList, c, ?_, by rw [Array.toArray_toList]; exact gL⟩, hL⟩
      · rw [List.length_map, tl]; exact Nat.le_of_lt (small1000 hm1)
      · rw [eT]
        have all : ∀ l : List Addr, Vals (l.map V.ref) (l.map Value.ref) := fun l => by
          induction l with
          | nil => exact .nil
          | cons x l ih => exact .cons rfl ih
        exact all Ts
    · by_cases n2 : ∃ j : Nat, Ts[j]? = some b
      · obtain ⟨j, z⟩ := n2
        rw [h2T j b z] at e
        cases e
        obtain ⟨m1, m2⟩ := tmade j b z
        refine ⟨⟨?_, _, ?_, ⟨_, m2, rfl, _, rfl⟩⟩, Nat.le_trans hL (Nat.le_of_lt m1)⟩
        · show (colV rows j).length ≤ _
          unfold colV
          rw [List.length_map, ← hlen]
          exact Nat.le_trans hn8 (by decide)
        · have hj : j < m := by rw [← tl]; exact (List.getElem?_eq_some_iff.mp z).1
          refine vals_of_at (by unfold colV col; rw [List.length_map, List.length_map, List.length_range, hlen]) fun k x u e1 e2 => ?_
          have hk : k < ps.length := by
            have := (List.getElem?_eq_some_iff.mp e1).1
            unfold colV at this
            rw [List.length_map, ← hlen] at this
            exact this
          obtain ⟨b', r, q1, q2⟩ := pk k hk
          obtain ⟨_, rv'⟩ := (ex k).choose_spec b' r q1 q2
          unfold colV at e1
          unfold col at e2
          rw [List.getElem?_map, q2] at e1
          rw [List.getElem?_map, List.getElem?_range hk] at e2
          cases e1
          cases e2
          have hr : j < r.length := by rw [(hrow k b' r q1 q2).2]; exact hj
          obtain ⟨w, ew, rw'⟩ := rv'.get (List.getElem?_eq_getElem hr)
          rw [Array.getElem?_toList] at ew
          show RelV ((r[j]?).getD .non) (((ex k).choose[j]?).getD .none)
          rw [List.getElem?_eq_getElem hr, ew]
          exact rw'
      · exfalso
        have : H2 b = H1 b := by
          show (if b = L then _ else if e : ∃ j : Nat, Ts[j]? = some b then some (HO.tup (colV rows e.choose)) else H1 b) = _
          rw [if_neg n1, dif_neg n2]
        rw [this, n] at e
        cases e
  · intro v s3 h3
    exact args_nil h3
end Vx

namespace Vx
open PySem PySem.Spec PyProof.Rows L2
/-- a comprehension over zip of two tuples of one length -/
theorem lc_zipT {K : PySem.W.Frag} {a b : Addr} {xs ys : List V} {g : TG} {tt : TT} {te : TE} {vs : List Nat} {σ : L2.St} {H1 : Hp} {D : Addr} {Qd : Hp → Prop} (hl : xs.length = ys.length) (Pv : Nat → Hp → Prop) (h0 : Pv 0 (upd H1 D (.lst [])))
    (hq : ∀ i H, i ≤ xs.length → Pv i H → SqT K H a xs ∧ SqT K H b ys)
    (hs : ∀ (i : Nat) (x y : V) (T : Addr) (H : Hp), xs[i]? = some x → ys[i]? = some y → Pv i H → H T = none → g (.ref T) (wipe σ vs) (upd H T (.tup [x, y])) fun σ2 H2 => wipe σ2 vs = wipe σ vs ∧ tt σ2 H2 fun b H3 =>
      if b = true then te σ2 H3 fun y H4 => ∃ acc, H4 D = some (.lst acc) ∧ acc.length < sizeLine ∧ Pv (i + 1) (upd H4 D (.lst (acc ++ [y]))) else Pv (i + 1) H3) (hd : ∀ H, Pv xs.length H → Qd H) :
    ∃ W : Nat → Nat → Hp → Prop, (∃ m, W 0 m (upd H1 D (.lst []))) ∧ ∀ i m H, W i m H →
      ((RZ.ItzT K a b).stop i H ∧ Qd H) ∨ ((RZ.ItzT K a b).go i H ∧ ∃ Nx : Hp → Prop, (∀ H', Nx H' → ∃ m', m' < m ∧ W (i + 1) m' H') ∧ ∀ x H', (RZ.ItzT K a b).yld i H x H' → g x (wipe σ vs) H' fun σ2 H2 => wipe σ2 vs = wipe σ vs ∧ tt σ2 H2 fun b H3 =>
        if b = true then te σ2 H3 fun y H4 => ∃ acc, H4 D = some (.lst acc) ∧ acc.length < sizeLine ∧ Nx (upd H4 D (.lst (acc ++ [y]))) else Nx H3) := by
  refine ⟨fun i m H => m = xs.length - i ∧ i ≤ xs.length ∧ Pv i H, ⟨xs.length, by simp, Nat.zero_le _, h0⟩, ?_⟩
  rintro i m H ⟨rfl, hi, p⟩
  obtain ⟨q1, q2⟩ := hq i H hi p
  by_cases hlt : i < xs.length
  · refine .inr ⟨⟨xs, ys, xs[i], ys[i]'(by omega), q1, q2, by simp [hlt], by simp [show i < ys.length by omega]⟩, Pv (i + 1), fun H' p' => ⟨xs.length - (i + 1), by omega, rfl, hlt, p'⟩, ?_⟩
    rintro z H' ⟨T, x, y, rfl, hT, rfl, hx, hy⟩
    exact hs i x y T H (hx xs q1) (hy ys q2) p hT
  · obtain rfl : i = xs.length := by omega
    exact .inl ⟨⟨xs, ys, q1, q2, .inl (Nat.le_refl _)⟩, hd H p⟩
/-- a target that takes a tuple or a list -/
def gOr (g1 g2 : TG) : TG := fun v σ H Q => g1 v σ H Q ∨ g2 v σ H Q
theorem pg_or {X : Cx} {tg : Expr} {g1 g2 : TG} (h1 : PG X tg g1) (h2 : PG X tg g2) : PG X tg (gOr g1 g2) := by
  constructor
  intro pins s σ H v u Q I r h
  rcases h with h | h
  · exact h1.run pins s σ H v u Q I r h
  · exact h2.run pins s σ H v u Q I r h
section
variable {X : Cx} (K : PySem.W.Frag)
theorem pi_listK {tg e : Expr} {te : TE} (he : PE X e te) (h : X.K = K := by rfl) : PI X tg e (iList K te) := h ▸ pi_list he
theorem pi_tupK {tg e : Expr} {te : TE} (he : PE X e te) (h : X.K = K := by rfl) : PI X tg e (iTup K te) := h ▸ pi_tup he
theorem pi_zipAK {e e2 : Expr} {ta : TA} {p pos tpos : Pos} {elts : List Expr} {kk : Nat} (hg : Gl X "zip") (hm : X.mg "zip" = none) (ha : PA X [e, e2] ta)
    (hs : starEach [e, e2] X.env = (false, eval e X.env) :: starEach [e2] X.env := by rfl) (hpl : (backTo pos (starEach [e2] X.env)).any (·.1) = false := by rfl) (h : X.K = K := by rfl) :
    PI X (.Tuple elts kk tpos) (.Call (.Name "zip" p) [e, e2] [] pos) (RZ.iZipA K ta) := h ▸ RZ.pi_zipA hg hm ha hs hpl
theorem pg_tupK {es : List Expr} {k : Nat} {t : TGs} {n : Nat} {pos : Pos} (hc : X.calm = true) (ht : PGs X es t)
    (hn : (assignEach es X.env).length = n := by rfl) (hst : (assignEach es X.env).findIdx? (·.1) = none := by rfl) (h : X.K = K := by rfl) : PG X (.Tuple es k pos) (gTup K n t) := h ▸ pg_tup hc ht hn hst
theorem pe_listZipK {e : Expr} {te : TE} {p p2 sp_ pos pos2 : Pos} (hc : X.calm = true) (hg : Gl X "list") (hm : X.mg "list" = none) (hg2 : Gl X "zip") (hm2 : X.mg "zip" = none) (he : PE X e te)
    (na : starEach [.Call (.Name "zip" p2) [.Starred e sp_] [] pos2] X.env = (false, eval (.Call (.Name "zip" p2) [.Starred e sp_] [] pos2) X.env) :: starEach [] X.env := by rfl)
    (hst : starEach [.Starred e sp_] X.env = [(true, eval e X.env)] := by rfl) (h : X.K = K := by rfl) : PE X (.Call (.Name "list" p) [.Call (.Name "zip" p2) [.Starred e sp_] [] pos2] [] pos) (tLZ K te) := h ▸ pe_listZip hc hg hm hg2 hm2 he na hst
end
end Vx

namespace Vk04
open PySem PySem.Spec PyProof.Rows L2 Vx
def top (i : Nat) : Stmt := PySem.Challenge.pw_maskedlist_k04_whole_products_and_invers.main.body.getD i (.Pass ⟨0, 0, 0, 0⟩)
section
variable {P : Program} {w : World} {K : PySem.W.Frag} {mg : Str → Option Value} {base : Heap}
/-- sums of products -/
theorem sum_sm {n : Nat} {f : Nat → Int} : ((List.range n).map f).sum = sm n f := by
  induction n with
  | zero => rfl
  | succ n ih => rw [List.range_succ, List.map_append, List.sum_append, ih]; simp [sm]
theorem fnRow_succ (n : Nat) (f : Nat → Int) : fnRow (n + 1) f = fnRow n f ++ [f n] := by unfold fnRow; rw [List.range_succ, List.map_append]; rfl
theorem row_at {n i : Nat} {f : Nat → Int} {x : V} (h : ((fnRow n f).map V.int)[i]? = some x) : i < n ∧ x = .int (f i) := by
  have hi : i < n := by have := (List.getElem?_eq_some_iff.mp h).1; rwa [List.length_map, fnRow_len] at this
  rw [List.getElem?_map, fnRow_get hi] at h
  exact ⟨hi, (Option.some.inj h).symm⟩
def sp_row_times_column (K : PySem.W.Frag) : Sp := fun vs H Q _ => ∃ (a b : Addr) (n : Nat) (f g : Nat → Int), vs = [.ref a, .ref b] ∧ SqT K H a ((fnRow n f).map V.int) ∧ SqT K H b ((fnRow n g).map V.int) ∧ (∀ k, k < n → -1000 ≤ f k ∧ f k ≤ 1000) ∧ n ≤ 100 ∧ ∀ H', Same H H' → Q (.int (sm n fun k => f k * g k)) H'

abbrev s_row_times_column : Stmt := top 2
theorem sc_row_times_column : FnScope ["row", "column", "left", "right"] ["row", "column"] (defScope s_row_times_column) := ⟨rfl, rfl, rfl, by decide +kernel, rfl, by decide +kernel, by decide +kernel⟩
theorem ok_row_times_column {f : Addr} {fd : FuncData} (F : Fun K "_row_times_column" "_row_times_column" s_row_times_column f fd) (m_sum : mg "sum" = none) (m_zip : mg "zip" = none) : FnG P w K mg base CX0 1 f fd ["row", "column"] (sp_row_times_column K) := by
  refine okG F sc_row_times_column (fun vs H Q E h => ?_) (fun cdv A o s H vs Q E hr h => ?_)
  · obtain ⟨a, b, n, f', g', rfl, _⟩ := h
    rfl
  obtain ⟨a, b, n, f', g', rfl, hA, hB, hb, hn, done⟩ := h
  refine ⟨_, (pss_one (ps_ret (pe_callB (cr_sum rfl) (by rfl) m_sum (by decide +kernel) (pa_cons (pe_lc (own := [("left", 2), ("right", 3)]) (g := (gTup K 2 (gCons (gName 2) (gCons (gName 3) gNil)))) (by rfl) sc_row_times_column.nd (RZ.pi_zipA (by rfl) m_zip (pa_cons (pv 0) (pa_cons (pv 1) pa_nil))) (blkOk_by (own := [("left", 2), ("right", 3)]) (by kernel_rfl)) (fun _ _ _ _ _ => (pg_tupK K rfl (pgs_cons (pg_name (i := 2) sc_row_times_column.nd rfl (Or.inl rfl)) (pgs_cons (pg_name (i := 3) sc_row_times_column.nd rfl (Or.inl rfl)) pgs_nil)))) (fun _ _ _ _ _ => pts_nil) (fun _ _ _ _ _ => (pe_op op_mul (pv 2) (pv 3)))) pa_nil)))), ?_⟩
  refine ⟨_, rfl, _, rfl, a, b, _, _, rfl, .inr ⟨hA, hB, fun D hD => lc_zipT (K := K) (xs := (fnRow n f').map V.int) (ys := (fnRow n g').map V.int) (by simp only [List.length_map, fnRow_len]) (fun i H' => Same H H' ∧ H' D = some (.lst ((fnRow i fun k => f' k * g' k).map V.int))) ⟨same_new hD _, upd_same⟩ (fun i H' _ p => ⟨Same.seqT p.1 hA, Same.seqT p.1 hB⟩) ?_ ?_⟩⟩
  · rintro i x y T H' hx hy ⟨s1, e1⟩ hT
    obtain ⟨hi, rfl⟩ := row_at hx
    obtain ⟨_, rfl⟩ := row_at hy
    have s2 := same_new hT (.tup [V.int (f' i), V.int (g' i)])
    have bd := hb i hi
    refine ⟨T, _, rfl, SqT.of upd_same, rfl, _, _, rfl, _, _, rfl, rfl, rfl, ?_⟩
    refine ⟨_, rfl, _, rfl, _, _, rfl, rfl, .inl ⟨by omega, by omega⟩, ?_⟩
    refine ⟨_, s2 _ _ e1, ?_, same_mut (s1.trans s2) hD, ?_⟩
    · rw [List.length_map, fnRow_len]; exact small1000 (by omega)
    · rw [upd_same, fnRow_succ, List.map_append]; rfl
  · rintro H' ⟨s1, e1⟩
    rw [List.length_map, fnRow_len] at e1
    refine ⟨D, _, rfl, SqL.of e1, ?_⟩
    rw [show (fnRow n fun k => f' k * g' k).sum = sm n fun k => f' k * g' k from sum_sm]
    exact done _ s1

def sp_multiply_matrices (K : PySem.W.Frag) : Sp := fun vs H Q _ => ∃ (v1 v2 : V) (q : Int) (n : Nat) (A B : Mx), vs = [v1, v2, .int q] ∧ Dp K H v1 (mat A) ∧ Dp K H v2 (mat B) ∧ Sq n A ∧ Sq n B ∧ (∀ i j, i < n → j < n → -1000 ≤ ent A i j ∧ ent A i j ≤ 1000) ∧ 0 < q ∧ 0 < n ∧ n ≤ 8 ∧
  someD K (mat (prod q n (ent A) (ent B))) H Q
/-- the places of a matrix's rows -/
theorem mat_refs {K : PySem.W.Frag} {H : Hp} {v : V} {n : Nat} {M : Mx} (h : Dp K H v (mat M)) (s : Sq n M) : ∃ (a : Addr) (ps : List Addr), v = .ref a ∧ SqT K H a (ps.map V.ref) ∧ ps.length = n ∧ ∀ (k : Nat) (t : Addr), ps[k]? = some t → SqT K H t ((fnRow n (ent M k)).map V.int) := by
  obtain ⟨a, xs, rfl, hS, hl, hrow⟩ := mat_row h
  have row : ∀ k, k < n → ∃ t : Addr, xs[k]? = some (.ref t) ∧ SqT K H t ((fnRow n (ent M k)).map V.int) := fun k hk => hrow k _ (row_ents s hk)
  rw [s.h] at hl
  have ex : ∃ ps : List Addr, xs = ps.map V.ref := by
    have all : ∀ (l : List V), (∀ x ∈ l, ∃ t : Addr, x = .ref t) → ∃ ps : List Addr, l = ps.map V.ref := by
      intro l
      induction l with
      | nil => exact fun _ => ⟨[], rfl⟩
      | cons x l ih =>
        intro h
        obtain ⟨t, rfl⟩ := h x List.mem_cons_self
        obtain ⟨ps, rfl⟩ := ih fun y hy => h y (List.mem_cons_of_mem _ hy)
        exact ⟨t :: ps, rfl⟩
    refine all xs fun x hx => ?_
    obtain ⟨k, hk, rfl⟩ := List.mem_iff_getElem.mp hx
    obtain ⟨t, e, _⟩ := row k (by omega)
    rw [List.getElem?_eq_getElem hk] at e
    exact ⟨t, Option.some.inj e⟩
  obtain ⟨ps, rfl⟩ := ex
  rw [List.length_map] at hl
  refine ⟨a, ps, rfl, hS, hl, fun k t e => ?_⟩
  have hk : k < n := by have := (List.getElem?_eq_some_iff.mp e).1; omega
  obtain ⟨t', e', q⟩ := row k hk
  rw [List.getElem?_map, e] at e'
  cases e'
  exact q
/-- a matrix's column as a row -/
theorem col_row {n j : Nat} {B : Fm} (hj : j < n) : colV ((List.range n).map fun i => (fnRow n (B i)).map V.int) j = (fnRow n fun i => B i j).map V.int := by
  unfold colV fnRow
  rw [List.map_map, List.map_map]
  refine List.map_congr_left fun i _ => ?_
  show ((((List.range n).map (B i)).map V.int)[j]?).getD .non = V.int (B i j)
  rw [List.getElem?_map, List.getElem?_map, List.getElem?_range hj]
  rfl

abbrev s_multiply_matrices : Stmt := top 1
theorem sc_multiply_matrices : FnScope ["one", "other", "modulus", "columns", "column", "row"] ["one", "other", "modulus"] (defScope s_multiply_matrices) := ⟨rfl, rfl, rfl, by decide +kernel, rfl, by decide +kernel, by decide +kernel⟩
theorem ok_multiply_matrices {f : Addr} {fd : FuncData} (F : Fun K "multiply_matrices" "multiply_matrices" s_multiply_matrices f fd) (m_list : mg "list" = none) (m_tuple : mg "tuple" = none) (m_zip : mg "zip" = none) (c__row_times_column : Cal P w K mg base "_row_times_column" 1 ["row", "column"] (sp_row_times_column K)) : FnG P w K mg base CX0 2 f fd ["one", "other", "modulus"] (sp_multiply_matrices K) := by
  obtain ⟨f__row_times_column, fd__row_times_column, G__row_times_column, m__row_times_column, k__row_times_column, b__row_times_column⟩ := c__row_times_column.ex
  refine okG F sc_multiply_matrices (fun vs H Q E h => ?_) (fun cdv A' o s H vs Q E hr h => ?_)
  · obtain ⟨v1, v2, q, n, A, B, rfl, _⟩ := h
    rfl
  obtain ⟨v1, v2, q, n, A, B, rfl, hA, hB, sA, sB, hb, hq, hn, hn8, done⟩ := h
  obtain ⟨a, as, rfl, hS, hal, harow⟩ := mat_refs hA sA
  obtain ⟨b, bs, rfl, hS2, hbl, hbrow⟩ := mat_refs hB sB
  refine ⟨_, (pss_cons (ps_set (i := 3) sc_multiply_matrices.nd rfl (Or.inr rfl) (pe_listZip rfl (by rfl) m_list (by rfl) m_zip (pv 1)))
      (pss_one (ps_ret (pe_callTy call_tuple_of (by rfl) m_tuple (by decide +kernel) (pa_cons (pe_lc (own := [("row", 5)]) (g := (gName 5)) (by rfl) sc_multiply_matrices.nd (pi_tup (pv 0)) (blkOk_by (own := [("row", 5)]) (by kernel_rfl)) (fun _ _ _ _ _ => (pg_name (i := 5) sc_multiply_matrices.nd rfl (Or.inr rfl))) (fun _ _ _ _ _ => pts_nil) (fun _ _ _ _ _ => (pe_callTy (call_tuple_ofK K) (by rfl) m_tuple (by decide +kernel) (pa_cons (pe_lc (own := [("column", 4)]) (g := (gName 4)) (by rfl) sc_multiply_matrices.nd (pi_listK K (pv 3)) (blkOk_by (own := [("column", 4)]) (by kernel_rfl)) (fun _ _ _ _ _ => (pg_name (i := 4) sc_multiply_matrices.nd rfl (Or.inl rfl))) (fun _ _ _ _ _ => pts_nil) (fun _ _ _ _ _ => (pe_op op_mod (ge_call G__row_times_column (hr.mono (by decide)) (by rfl) m__row_times_column k__row_times_column b__row_times_column .nil pass0 (pa_cons (pv 5) (pa_cons (pv 4) pa_nil))) (pv 2)))) pa_nil)))) pa_nil))))), ?_⟩
  refine ⟨_, rfl, b, bs, (List.range n).map fun i => (fnRow n (ent B i)).map V.int, n, rfl, .inl hS2, by rw [List.length_map, List.length_range, hbl], by omega, by omega, hn, by omega, ?_, fun L Ts H1 s1 hL eL tl hT => ?_⟩
  · intro k t r e1 e2
    have hk : k < n := by have := (List.getElem?_eq_some_iff.mp e1).1; omega
    rw [List.getElem?_map, List.getElem?_range hk] at e2
    cases e2
    exact ⟨hbrow k t e1, by rw [List.length_map, fnRow_len]⟩
  have hS1 := Same.seqT s1 hS
  refine ⟨_, rfl, a, rfl, ⟨_, hS1⟩, fun D hD => lc_tupD (K := K) (a := a) (xs := as.map V.ref) (Same H1) (fun k d => d = rowD (fnRow n fun j => mm n (ent A) (ent B) k j % q)) (by rw [List.length_map]; omega) (same_new hD _) (fun H' g => Same.seqT g hS1) (fun _ => rfl) ?_ ?_⟩
  · intro i x H2 hx m Q' q'
    obtain ⟨acc, ds, eD, _, _, _, _, g⟩ := id m
    obtain ⟨t, et, rfl⟩ : ∃ t, as[i]? = some t ∧ x = .ref t := by
      rw [List.getElem?_map] at hx
      cases e : as[i]? with
      | none => rw [e] at hx; cases hx
      | some t => rw [e] at hx; exact ⟨t, rfl, (Option.some.inj hx).symm⟩
    have hi : i < n := by have := (List.getElem?_eq_some_iff.mp et).1; omega
    have hrow := Same.seqT (s1.trans g) (harow i t et)
    have eL2 := g _ _ eL
    refine ⟨_, rfl, L, rfl, ⟨_, SqL.of eL2⟩, fun W hW => lc_listD (K := K) (a := L) (xs := Ts.map V.ref) (Same H2) (fun k d => d = .int (mm n (ent A) (ent B) i k % q)) (by rw [List.length_map]; omega) (same_new hW _) (fun H' g' => g'.seq (SqL.of eL2)) (fun _ => rfl) ?_ ?_⟩
    · intro j y H3 hy m2 Q2 q2
      obtain ⟨acc2, ds2, eW, _, _, _, _, g2⟩ := id m2
      obtain ⟨c, ec, rfl⟩ : ∃ c, Ts[j]? = some c ∧ y = .ref c := by
        rw [List.getElem?_map] at hy
        cases e : Ts[j]? with
        | none => rw [e] at hy; cases hy
        | some t => rw [e] at hy; exact ⟨t, rfl, (Option.some.inj hy).symm⟩
      have hj : j < n := by have := (List.getElem?_eq_some_iff.mp ec).1; omega
      have hc := (hT j c ec).2.2
      rw [col_row hj] at hc
      refine ⟨_, rfl, _, rfl, t, c, n, ent A i, (fun k => ent B k j), rfl, Same.seqT g2 hrow, SqT.of (g2 _ _ (g _ _ hc)), fun k hk => hb i k hi hk, by omega, fun H4 s4 => ?_⟩
      refine ⟨_, rfl, _, _, rfl, rfl, hq, ?_⟩
      exact q2 _ _ _ (.same s4 eW) rfl (.int _) rfl fun _ => same_mut (g2.trans s4) hW
    · rintro H3 ⟨acc2, ds2, eW, k2, no2, hl2, hk2, g2⟩
      rw [List.length_map, tl] at hl2
      have e2 := made_eq (g := fun k => PyData.int (mm n (ent A) (ent B) i k % q)) hl2 hk2
      have e3 : ds2 = (fnRow n fun j => mm n (ent A) (ent B) i j % q).map PyData.int := by rw [e2, fnRow, List.map_map]; rfl
      subst e3
      have e4 := dp_ints_eq k2
      subst e4
      refine ⟨W, _, rfl, .inl ⟨SqL.of eW, fun l hl => ?_⟩⟩
      have s5 := g2.trans (same_new hl (.tup ((fnRow n fun j => mm n (ent A) (ent B) i j % q).map V.int)))
      exact q' _ _ _ (.same s5 eD) (noL_row _) (dp_row (SqT.of upd_same)) rfl fun _ => same_mut (g.trans s5) hD
  · rintro H2 ⟨acc, ds, eD, k, no, hlen, hk, g⟩
    rw [List.length_map, hal] at hlen
    have e2 := made_eq (g := fun k => rowD (fnRow n fun j => mm n (ent A) (ent B) k j % q)) hlen hk
    have e3 : ds = (prod q n (ent A) (ent B)).map rowD := by rw [e2, prod, fnMx, List.map_map]; rfl
    subst e3
    refine ⟨D, _, rfl, .inl ⟨SqL.of eD, fun l hl => ?_⟩⟩
    exact done l _ (s1.trans (g.trans (same_new hl _))) (.tup (SqT.of upd_same) (dpAll_same (same_new hl _) _ _ k))


def sp_unit_row (K : PySem.W.Frag) : Sp := fun vs H Q _ => ∃ i n : Nat, vs = [.int (i : Int), .int (n : Int)] ∧ n ≤ 1000 ∧ someT K ((fnRow n (dl i)).map V.int) H Q

abbrev s_unit_row : Stmt := top 4
theorem sc_unit_row : FnScope ["index", "size", "at"] ["index", "size"] (defScope s_unit_row) := ⟨rfl, rfl, rfl, by decide +kernel, rfl, by decide +kernel, by decide +kernel⟩
theorem ok_unit_row {f : Addr} {fd : FuncData} (F : Fun K "_unit_row" "_unit_row" s_unit_row f fd) (m_tuple : mg "tuple" = none) (m_range : mg "range" = none) : FnG P w K mg base CX0 1 f fd ["index", "size"] (sp_unit_row K) := by
  refine okG F sc_unit_row (fun vs H Q E h => ?_) (fun cdv A o s H vs Q E hr h => ?_)
  · obtain ⟨i, n, rfl, _⟩ := h
    rfl
  obtain ⟨i, n, rfl, hn, q⟩ := h
  refine ⟨_, (pss_one (ps_ret (pe_callTy call_tuple_of (by rfl) m_tuple (by decide +kernel) (pa_cons (pe_lc (own := [("at", 2)]) (g := (gName 2)) (by rfl) sc_unit_row.nd (pi_range1 rfl m_range (pa_cons (pv 1) pa_nil)) (blkOk_by (own := [("at", 2)]) (by kernel_rfl)) (fun _ _ _ _ _ => (pg_name (i := 2) sc_unit_row.nd rfl (Or.inl rfl))) (fun _ _ _ _ _ => pts_nil) (fun _ _ _ _ _ => (pe_ifExp (pt_cmpR op_eq (pv 2) (pv 0) (nomark _)) pe_int pe_int))) pa_nil)))), ?_⟩
  refine ⟨_, rfl, _, rfl, by omega, by omega, fun D hD => lc_rangeD (K := K) (fun H' => Same H H') (fun k d => d = .int (dl i k)) (by simp; omega) (same_new hD _) (fun _ => rfl) ?_ ?_⟩
  · intro k H' hk m Q' q'
    obtain ⟨acc, ds, e, _, _, _, _, g⟩ := m
    have fin : Q' (.int (dl i k)) H' := q' _ _ _ (.same (Same.refl _) e) rfl (.int _) rfl (fun _ => same_mut g hD)
    refine ⟨_, rfl, _, rfl, rfl, _, rfl, ?_⟩
    by_cases c : i = k
    · subst c
      rw [show dl i i = 1 from if_pos rfl] at fin
      rw [show decide (V.int (0 + ((i : Nat) : Int)) = V.int (i : Int)) = true from decide_eq_true (by rw [Int.zero_add])]
      exact fin
    · rw [show dl i k = 0 from if_neg c] at fin
      rw [show decide (V.int (0 + ((k : Nat) : Int)) = V.int (i : Int)) = false from decide_eq_false (fun z => c (by injection z with z; omega))]
      exact fin
  · rintro H' ⟨acc, ds, e, k, no, hl, hk, g⟩
    rw [Int.toNat_natCast] at hl
    have e2 := made_eq (g := fun k => PyData.int (dl i k)) hl hk
    have e3 : ds = (fnRow n (dl i)).map PyData.int := by rw [e2, fnRow, List.map_map]; rfl
    rw [e3] at k
    have e4 := dp_ints_eq k
    subst e4
    refine ⟨D, _, rfl, .inl ⟨SqL.of e, fun l hl => q _ _ (g.trans (same_new hl _)) (SqT.of upd_same)⟩⟩

def sp_identity_matrix (K : PySem.W.Frag) : Sp := fun vs H Q _ => ∃ n : Nat, vs = [.int (n : Int)] ∧ n ≤ 1000 ∧ someD K (mat (fnMx n dl)) H Q

abbrev s_identity_matrix : Stmt := top 3
theorem sc_identity_matrix : FnScope ["size", "index"] ["size"] (defScope s_identity_matrix) := ⟨rfl, rfl, rfl, by decide +kernel, rfl, by decide +kernel, by decide +kernel⟩
theorem ok_identity_matrix {f : Addr} {fd : FuncData} (F : Fun K "identity_matrix" "identity_matrix" s_identity_matrix f fd) (m_tuple : mg "tuple" = none) (m_range : mg "range" = none) (c__unit_row : Cal P w K mg base "_unit_row" 1 ["index", "size"] (sp_unit_row K)) : FnG P w K mg base CX0 2 f fd ["size"] (sp_identity_matrix K) := by
  obtain ⟨f__unit_row, fd__unit_row, G__unit_row, m__unit_row, k__unit_row, b__unit_row⟩ := c__unit_row.ex
  refine okG F sc_identity_matrix (fun vs H Q E h => ?_) (fun cdv A o s H vs Q E hr h => ?_)
  · obtain ⟨n, rfl, _⟩ := h
    rfl
  obtain ⟨n, rfl, hn, q⟩ := h
  refine ⟨_, (pss_one (ps_ret (pe_callTy call_tuple_of (by rfl) m_tuple (by decide +kernel) (pa_cons (pe_lc (own := [("index", 1)]) (g := (gName 1)) (by rfl) sc_identity_matrix.nd (pi_range1 rfl m_range (pa_cons (pv 0) pa_nil)) (blkOk_by (own := [("index", 1)]) (by kernel_rfl)) (fun _ _ _ _ _ => (pg_name (i := 1) sc_identity_matrix.nd rfl (Or.inl rfl))) (fun _ _ _ _ _ => pts_nil) (fun _ _ _ _ _ => (ge_call G__unit_row (hr.mono (by decide)) (by rfl) m__unit_row k__unit_row b__unit_row .nil pass0 (pa_cons (pv 1) (pa_cons (pv 0) pa_nil))))) pa_nil)))), ?_⟩
  refine ⟨_, rfl, _, rfl, by omega, by omega, fun D hD => lc_rangeD (K := K) (fun H' => Same H H') (fun k d => d = rowD (fnRow n (dl k))) (by simp; omega) (same_new hD _) (fun _ => rfl) ?_ ?_⟩
  · intro k H' hk m Q' q'
    obtain ⟨acc, ds, e, _, _, _, _, g⟩ := m
    refine ⟨_, rfl, _, rfl, k, n, (by rw [Int.zero_add]; rfl), hn, fun t H1 s1 ht => ?_⟩
    exact q' _ _ _ (.same s1 e) (noL_row _) (dp_row ht) rfl (fun _ => same_mut (g.trans s1) hD)
  · rintro H' ⟨acc, ds, e, k, no, hl, hk, g⟩
    rw [Int.toNat_natCast] at hl
    have e2 := made_eq (g := fun k => rowD (fnRow n (dl k))) hl hk
    have e3 : ds = (fnMx n dl).map rowD := by rw [e2, fnMx, List.map_map]; rfl
    rw [e3] at k
    refine ⟨D, _, rfl, .inl ⟨SqL.of e, fun l hl => q _ _ (g.trans (same_new hl _)) (.tup (SqT.of upd_same) (dpAll_same (same_new hl _) _ _ k))⟩⟩


/-- what the elimination leaves behind m rows below: the unit row less m products -/
def elim (A B : Fm) (i m : Nat) : Nat → Int := fun j => dl i j - sm m fun d => if i + 1 + d ≤ j then A i (i + 1 + d) * B (i + 1 + d) j else 0
/-- .. and t places of one more -/
def elimT (A B : Fm) (i m t : Nat) : Nat → Int := fun j => if i + 1 + m ≤ j ∧ j < i + 1 + m + t then elim A B i m j - A i (i + 1 + m) * B (i + 1 + m) j else elim A B i m j
theorem elimT_zero (A B : Fm) (i m : Nat) : elimT A B i m 0 = elim A B i m := by
  funext j
  unfold elimT
  rw [if_neg (by omega)]
theorem elimT_all {A B : Fm} {i m n j : Nat} (hj : j < n) : elimT A B i m (n - (i + 1 + m)) j = elim A B i (m + 1) j := by
  unfold elimT elim
  show _ = dl i j - (sm m _ + if i + 1 + m ≤ j then A i (i + 1 + m) * B (i + 1 + m) j else 0)
  split
  · rw [if_pos (by omega)]; omega
  · rw [if_neg (by omega)]; omega
theorem fnRow_set {n j : Nat} {f g : Nat → Int} {x : Int} (hj : j < n) (hx : g j = x) (ho : ∀ k, k < n → k ≠ j → g k = f k) : ((fnRow n f).map V.int).set j (.int x) = (fnRow n g).map V.int := by
  refine List.ext_getElem? fun k => ?_
  by_cases hk : k < n
  · by_cases e : k = j
    · subst e
      rw [List.getElem?_set_self (by rw [List.length_map, fnRow_len]; exact hk), List.getElem?_map, fnRow_get hk, hx]
      rfl
    · rw [List.getElem?_set_ne (Ne.symm e), List.getElem?_map, List.getElem?_map, fnRow_get hk, fnRow_get hk, ho k hk e]
  · rw [List.getElem?_eq_none (by rw [List.length_set, List.length_map, fnRow_len]; omega), List.getElem?_eq_none (by rw [List.length_map, fnRow_len]; omega)]
theorem fnRow_congr {n : Nat} {f g : Nat → Int} (h : ∀ k, k < n → f k = g k) : fnRow n f = fnRow n g := by
  unfold fnRow
  exact List.map_congr_left fun k hk => h k (List.mem_range.mp hk)
def sp_inverse_row (K : PySem.W.Frag) : Sp := fun vs H Q _ => ∃ (r b : Addr) (i n : Nat) (q : Int) (A B : Fm) (xs : List V), vs = [.ref r, .int (i : Int), .ref b, .int q] ∧ 0 < q ∧ q ≤ 1000 ∧ i < n ∧ n ≤ 1000 ∧ SqT K H r ((fnRow n (A i)).map V.int) ∧
  (∀ k, k < n → -1000 ≤ A i k ∧ A i k ≤ 1000) ∧ H b = some (.lst xs) ∧ (∀ k, i < k → k < n → ∃ t : Addr, xs[k]? = some (.ref t) ∧ SqT K H t ((fnRow n (B k)).map V.int)) ∧
  someT K ((fnRow n fun j => elim A B i (n - (i + 1)) j % q).map V.int) H Q

abbrev s_inverse_row : Stmt := top 6
theorem sc_inverse_row : FnScope ["row", "index", "inverse", "modulus", "entries", "below", "at", "entry"] ["row", "index", "inverse", "modulus"] (defScope s_inverse_row) := ⟨rfl, rfl, rfl, by decide +kernel, rfl, by decide +kernel, by decide +kernel⟩
theorem ok_inverse_row {f : Addr} {fd : FuncData} (F : Fun K "_inverse_row" "_inverse_row" s_inverse_row f fd) (m_list : mg "list" = none) (m_range : mg "range" = none) (m_tuple : mg "tuple" = none) (m_len : mg "len" = none) (c__unit_row : Cal P w K mg base "_unit_row" 1 ["index", "size"] (sp_unit_row K)) : FnG P w K mg base CX0 2 f fd ["row", "index", "inverse", "modulus"] (sp_inverse_row K) := by
  obtain ⟨f__unit_row, fd__unit_row, G__unit_row, m__unit_row, k__unit_row, b__unit_row⟩ := c__unit_row.ex
  refine okG F sc_inverse_row (fun vs H Q E h => ?_) (fun cdv A' o s H vs Q E hr h => ?_)
  · obtain ⟨r, b, i, n, q, A, B, xs, rfl, _⟩ := h
    rfl
  obtain ⟨r, b, i, n, q, A, B, xs, rfl, hq, hq2, hi, hn, hR, hA, hb, hB, done⟩ := h
  refine ⟨_, (pss_cons (ps_set (i := 4) sc_inverse_row.nd rfl (Or.inl rfl) (pe_callTy call_list_of (by rfl) m_list (by decide +kernel) (pa_cons (ge_call G__unit_row (hr.mono (by decide)) (by rfl) m__unit_row k__unit_row b__unit_row .nil pass0 (pa_cons (pv 1) (pa_cons (pe_callB call_len_seq (by rfl) m_len (by decide +kernel) (pa_cons (pv 0) pa_nil)) pa_nil))) pa_nil)))
      (pss_cons (ps_for PassesOwn.never rfl (pi_range2 rfl m_range (pa_cons (pe_op op_add (pv 1) pe_int) (pa_cons (pe_callB call_len_seq (by rfl) m_len (by decide +kernel) (pa_cons (pv 0) pa_nil)) pa_nil))) (pg_name (i := 5) sc_inverse_row.nd rfl (Or.inl rfl)) (pss_one (ps_for PassesOwn.never rfl (pi_range2 rfl m_range (pa_cons (pv 5) (pa_cons (pe_callB call_len_seq (by rfl) m_len (by decide +kernel) (pa_cons (pv 0) pa_nil)) pa_nil))) (pg_name (i := 6) sc_inverse_row.nd rfl (Or.inl rfl)) (pss_one (ps_augS (pv 4) (pv 6) get_list (pe_op op_mul (pe_ix ix_tup (pv 0) (pv 5) (fun _ _ => rfl)) (pe_ix ix_tup (pe_ix ix_list (pv 2) (pv 5) (fun _ _ => rfl)) (pv 6) (fun _ _ => rfl))) ip_sub set_list)))))
      (pss_one (ps_ret (pe_callTy call_tuple_of (by rfl) m_tuple (by decide +kernel) (pa_cons (pe_lc (own := [("entry", 7)]) (g := (gName 7)) (by rfl) sc_inverse_row.nd (pi_list (pv 4)) (blkOk_by (own := [("entry", 7)]) (by kernel_rfl)) (fun _ _ _ _ _ => (pg_name (i := 7) sc_inverse_row.nd rfl (Or.inl rfl))) (fun _ _ _ _ _ => pts_nil) (fun _ _ _ _ _ => (pe_op op_mod (pv 7) (pv 3)))) pa_nil)))))), ?_⟩
  have rl : ((fnRow n (A i)).map V.int).length = n := by rw [List.length_map, fnRow_len]
  refine ⟨_, rfl, _, rfl, r, _, rfl, .inr hR, i, n, (by rw [rl]; rfl), hn, fun u H1 s1 hu => ?_⟩
  refine ⟨u, _, rfl, .inr hu, fun e he => ?_⟩
  have he0 : H e = none := Same.free s1 he
  have hR2 : ∀ {H'}, Same H H' → SqT K H' r ((fnRow n (A i)).map V.int) := fun z => Same.seqT z hR
  refine ⟨_, rfl, _, _, rfl, rfl, _, rfl, r, _, rfl, .inr (hR2 (s1.trans (same_new he _))), _, _, rfl, ⟨by omega, by omega, by omega, by rw [rl]; omega⟩, ?_⟩
  rw [rl, show ((n : Int) - ((i : Int) + 1)).toNat = n - (i + 1) by omega]
  refine for_range (fun m σ' H' => Same H H' ∧ H' e = some (.lst ((fnRow n (elim A B i m)).map V.int)) ∧ ∃ x y, σ' = [some (.ref r), some (.int (i : Int)), some (.ref b), some (.int q), some (.ref e), x, y, none]) ?_ ?_ ?_
  · refine ⟨s1.trans (same_new he _), ?_, none, none, rfl⟩
    rw [upd_same, show elim A B i 0 = dl i from funext fun j => Int.sub_zero _]
  · rintro m σ' H' hm ⟨s2, hE, x, y, rfl⟩
    refine ⟨_, rfl, _, rfl, r, _, rfl, .inr (hR2 s2), _, _, rfl, ⟨by omega, by omega, by omega, by rw [rl]; omega⟩, ?_⟩
    have e1 : (i : Int) + 1 + (m : Int) = ((i + 1 + m : Nat) : Int) := by omega
    rw [rl, show ((n : Int) - ((i : Int) + 1 + (m : Int))).toNat = n - (i + 1 + m) by omega, e1]
    obtain ⟨t, ht, hT⟩ := hB (i + 1 + m) (by omega) (by omega)
    refine for_range (fun d σ' H' => Same H H' ∧ H' e = some (.lst ((fnRow n (elimT A B i m d)).map V.int)) ∧ ∃ y, σ' = [some (.ref r), some (.int (i : Int)), some (.ref b), some (.int q), some (.ref e), some (.int ((i + 1 + m : Nat) : Int)), y, none]) ?_ ?_ ?_
    · exact ⟨s2, by rw [elimT_zero]; exact hE, y, rfl⟩
    · rintro d σ' H' hd ⟨s3, hE, y, rfl⟩
      have e2 : ((i + 1 + m : Nat) : Int) + (d : Int) = ((i + 1 + m + d : Nat) : Int) := by omega
      rw [e2]
      have g1 : (fnRow n (A i))[i + 1 + m]? = some (A i (i + 1 + m)) := fnRow_get (by omega)
      have g2 : (fnRow n (B (i + 1 + m)))[i + 1 + m + d]? = some (B (i + 1 + m) (i + 1 + m + d)) := fnRow_get (by omega)
      have g3 : ((fnRow n (elimT A B i m d)).map V.int)[i + 1 + m + d]? = some (.int (elimT A B i m d (i + 1 + m + d))) := by rw [List.getElem?_map, fnRow_get (by omega)]; rfl
      have hAi := hA (i + 1 + m) (by omega)
      refine ⟨_, rfl, _, rfl, e, _, _, _, rfl, rfl, SqL.of hE, g3, ?_⟩
      refine ⟨_, rfl, _, rfl, r, _, _, _, rfl, rfl, hR2 s3, at_of g1, _, rfl, _, rfl, b, _, _, _, rfl, rfl, SqL.of (s3 _ _ hb), atI_nat ht, _, rfl, t, _, _, _, rfl, rfl, Same.seqT s3 hT, at_of g2, ?_⟩
      refine ⟨_, _, rfl, rfl, .inl ⟨by omega, by omega⟩, _, _, rfl, rfl, ?_⟩
      refine ⟨e, _, _, i + 1 + m + d, rfl, rfl, hE, Evl.ixN_nat (by rw [List.length_map, fnRow_len]; omega), ?_⟩
      refine ⟨same_mut s3 he0, ?_, _, rfl⟩
      rw [upd_same, fnRow_set (g := elimT A B i m (d + 1)) (by omega) ?_ ?_]
      · unfold elimT
        rw [if_pos (by omega), if_neg (by omega)]
      · intro k hk hne
        unfold elimT
        split
        · rw [if_pos (by omega)]
        · rw [if_neg (by omega)]
    · rintro σ' H' ⟨s3, hE, y, rfl⟩
      refine ⟨s3, ?_, _, _, rfl⟩
      rw [hE, fnRow_congr fun k hk => elimT_all (A := A) (B := B) (i := i) (m := m) hk]
  · rintro σ' H' ⟨s2, hE, x, y, rfl⟩
    refine ⟨_, rfl, e, rfl, ⟨_, SqL.of hE⟩, fun D hD => lc_listD (K := K) (a := e) (xs := (fnRow n (elim A B i (n - (i + 1)))).map V.int) (fun H2 => Same H' H2) (fun k d => d = .int (elim A B i (n - (i + 1)) k % q)) (by rw [List.length_map, fnRow_len]; omega) (same_new hD _) (fun H2 g => g.seq (SqL.of hE)) (fun _ => rfl) ?_ ?_⟩
    · intro k v H2 hk m Q' q'
      obtain ⟨acc, ds, ea, _, _, _, _, g⟩ := m
      have hkn : k < n := by have := (List.getElem?_eq_some_iff.mp hk).1; rw [List.length_map, fnRow_len] at this; exact this
      rw [List.getElem?_map, fnRow_get hkn] at hk
      obtain rfl : V.int (elim A B i (n - (i + 1)) k) = v := Option.some.inj hk
      exact ⟨_, rfl, _, rfl, _, _, rfl, rfl, hq, q' _ _ _ (.same (Same.refl _) ea) rfl (.int _) rfl fun _ => same_mut g hD⟩
    · rintro H2 ⟨acc, ds, ea, k, no, hl, hk, g⟩
      rw [List.length_map, fnRow_len] at hl
      have e2 := made_eq (g := fun k => PyData.int (elim A B i (n - (i + 1)) k % q)) hl hk
      have e3 : ds = (fnRow n fun j => elim A B i (n - (i + 1)) j % q).map PyData.int := by rw [e2, fnRow, List.map_map]; rfl
      rw [e3] at k
      have e4 := dp_ints_eq k
      subst e4
      exact ⟨D, _, rfl, .inl ⟨SqL.of ea, fun l hl => done _ _ (s2.trans (g.trans (same_new hl _))) (SqT.of upd_same)⟩⟩

/-- what one more row of the inverse has -/
theorem elim_row {A B : Fm} {i n : Nat} {q : Int} (hq : 1 < q) (hi : i < n) (hA : ∀ k, k < i → A i k = 0) (h1 : A i i = 1) (hB : ∀ k j, i < k → k < n → j < k → B k j = 0) :
    (∀ j, 0 ≤ elim A B i (n - (i + 1)) j % q ∧ elim A B i (n - (i + 1)) j % q < q) ∧ (∀ j, j < i → elim A B i (n - (i + 1)) j % q = 0) ∧ elim A B i (n - (i + 1)) i % q = 1 ∧
    ∀ (C : Fm) (j : Nat), C i j = elim A B i (n - (i + 1)) j % q → (∀ k, i < k → k < n → C k j = B k j) → Cg q (sm n fun l => A i l * C l j) (dl i j) := by
  refine ⟨fun j => ⟨Int.emod_nonneg _ (by omega), Int.emod_lt_of_pos _ (by omega)⟩, fun j hj => ?_, ?_, fun C j hC hk => ?_⟩
  · unfold elim
    rw [sm_zero' fun d _ => if_neg (by omega), show dl i j = 0 from if_neg (by omega)]
    rfl
  · unfold elim
    rw [sm_zero' fun d _ => if_neg (by omega), show dl i i = 1 from if_pos rfl]
    exact Int.emod_eq_of_lt (by decide) hq
  · rw [sm_split (i := i) (by omega) fun k hk2 => by rw [hA k hk2]; omega]
    obtain ⟨m, hm⟩ : ∃ m, n - i = m + 1 := ⟨n - i - 1, by omega⟩
    rw [hm, sm_head]
    show Cg q (A i (i + 0) * C (i + 0) j + sm m fun k => A i (i + (k + 1)) * C (i + (k + 1)) j) (dl i j)
    rw [Nat.add_zero, h1, hC, Int.one_mul]
    have e : (sm m fun k => A i (i + (k + 1)) * C (i + (k + 1)) j) = sm (n - (i + 1)) fun d => if i + 1 + d ≤ j then A i (i + 1 + d) * B (i + 1 + d) j else 0 := by
      rw [show n - (i + 1) = m by omega]
      refine sm_congr fun d hd => ?_
      rw [show i + (d + 1) = i + 1 + d by omega, hk _ (by omega) (by omega)]
      split
      · rfl
      · rw [hB _ _ (by omega) (by omega) (by omega), Int.mul_zero]
    rw [e]
    have z := (Cg.mod q (elim A B i (n - (i + 1)) j)).add (Cg.refl q (sm (n - (i + 1)) fun d => if i + 1 + d ≤ j then A i (i + 1 + d) * B (i + 1 + d) j else 0))
    refine z.trans (.of_eq ?_)
    unfold elim
    omega
/-- the rows from lo on are those of the inverse -/
structure Part (K : PySem.W.Frag) (H : Hp) (q : Int) (n lo : Nat) (A B : Fm) (xs : List V) : Prop where
  at_ : ∀ k, lo ≤ k → k < n → ∃ t : Addr, xs[k]? = some (.ref t) ∧ SqT K H t ((fnRow n (B k)).map V.int)
  res : ∀ k j, lo ≤ k → k < n → j < n → 0 ≤ B k j ∧ B k j < q
  low : ∀ k j, lo ≤ k → k < n → j < k → B k j = 0
  one : ∀ k, lo ≤ k → k < n → B k k = 1
  inv : ∀ k j, lo ≤ k → k < n → j < n → Cg q (sm n fun l => A k l * B l j) (dl k j)
def sp_invert_unitriangular (K : PySem.W.Frag) : Sp := fun vs H Q _ => ∃ (v : V) (q : Int) (n : Nat) (M : Mx), vs = [v, .int q] ∧ Dp K H v (mat M) ∧ UT q n M ∧ 1 < q ∧ q ≤ 1000 ∧ n ≤ 1000 ∧
  ∀ (a : Addr) (H' : Hp) (B : Mx), Same H H' → Dp K H' (.ref a) (mat B) → InvOf q n (ent M) B → Q (.ref a) H'

abbrev s_invert_unitriangular : Stmt := top 5
theorem sc_invert_unitriangular : FnScope ["matrix", "modulus", "size", "inverse", "index"] ["matrix", "modulus"] (defScope s_invert_unitriangular) := ⟨rfl, rfl, rfl, by decide +kernel, rfl, by decide +kernel, by decide +kernel⟩
theorem ok_invert_unitriangular {f : Addr} {fd : FuncData} (F : Fun K "invert_unitriangular" "invert_unitriangular" s_invert_unitriangular f fd) (m_len : mg "len" = none) (m_list : mg "list" = none) (m_reversed : mg "reversed" = none) (m_tuple : mg "tuple" = none) (m_range : mg "range" = none) (c_identity_matrix : Cal P w K mg base "identity_matrix" 2 ["size"] (sp_identity_matrix K)) (c__inverse_row : Cal P w K mg base "_inverse_row" 2 ["row", "index", "inverse", "modulus"] (sp_inverse_row K)) : FnG P w K mg base CX0 3 f fd ["matrix", "modulus"] (sp_invert_unitriangular K) := by
  obtain ⟨f_identity_matrix, fd_identity_matrix, G_identity_matrix, m_identity_matrix, k_identity_matrix, b_identity_matrix⟩ := c_identity_matrix.ex
  obtain ⟨f__inverse_row, fd__inverse_row, G__inverse_row, m__inverse_row, k__inverse_row, b__inverse_row⟩ := c__inverse_row.ex
  refine okG F sc_invert_unitriangular (fun vs H Q E h => ?_) (fun cdv A' o s H vs Q E hr h => ?_)
  · obtain ⟨v, q, n, M, rfl, _⟩ := h
    rfl
  obtain ⟨v, q, n, M, rfl, hM, u, hq, hq2, hn, done⟩ := h
  obtain ⟨a, ys, rfl, hS, hl, hrow⟩ := mat_row hM
  refine ⟨_, (pss_cons (ps_set (i := 2) sc_invert_unitriangular.nd rfl (Or.inl rfl) (pe_callB call_len_seq (by rfl) m_len (by decide +kernel) (pa_cons (pv 0) pa_nil)))
      (pss_cons (ps_set (i := 3) sc_invert_unitriangular.nd rfl (Or.inl rfl) (pe_callTy call_list_of (by rfl) m_list (by decide +kernel) (pa_cons (ge_call G_identity_matrix (hr.mono (by decide)) (by rfl) m_identity_matrix k_identity_matrix b_identity_matrix .nil pass0 (pa_cons (pv 2) pa_nil)) pa_nil)))
      (pss_cons (ps_for PassesOwn.never rfl (pi_revR (by rfl) m_reversed (prg_1 rfl m_range (pv 2))) (pg_name (i := 4) sc_invert_unitriangular.nd rfl (Or.inl rfl)) (pss_one (ps_asg (ge_call G__inverse_row (hr.mono (by decide)) (by rfl) m__inverse_row k__inverse_row b__inverse_row .nil pass0 (pa_cons (pe_ix ix_tup (pv 0) (pv 4) (fun _ _ => rfl)) (pa_cons (pv 4) (pa_cons (pv 3) (pa_cons (pv 1) pa_nil))))) (pg_sub (pv 3) (pv 4) set_list))))
      (pss_one (ps_ret (pe_callTy call_tuple_of (by rfl) m_tuple (by decide +kernel) (pa_cons (pv 3) pa_nil))))))), ?_⟩
  refine ⟨_, rfl, a, _, rfl, .inr hS, ?_⟩
  rw [hl, u.s.h]
  refine ⟨_, rfl, n, rfl, hn, fun c H1 s1 hc => ?_⟩
  obtain ⟨c', xs0, ec, hcS, hcl, _⟩ := mat_row hc
  obtain rfl : c = c' := by injection ec
  refine ⟨c, _, rfl, .inr hcS, fun b hb => ?_⟩
  have hb0 : H b = none := Same.free s1 hb
  refine ⟨_, rfl, n, rfl, by omega, by omega, by omega, by omega, ?_⟩
  have e0 : (0 : Int) + ((((n : Int) - 0).toNat : Nat) : Int) - 1 = (n : Int) - 1 := by omega
  rw [e0, show ((n : Int) - 0).toNat = n by omega]
  refine for_rangeC (fun d σ' H' => Same H H' ∧ ∃ (xs : List V) (B : Fm) (x : Option V), H' b = some (.lst xs) ∧ xs.length = n ∧ Part K H' q n (n - d) (ent M) B xs ∧ σ' = [some (.ref a), some (.int q), some (.int (n : Int)), some (.ref b), x]) ?_ ?_ ?_
  · refine ⟨s1.trans (same_new hb _), xs0, dl, none, upd_same, by rw [hcl, (fnMx_sq n dl).h], ?_, rfl⟩
    exact ⟨fun k h1 h2 => absurd h1 (by omega), fun k j h1 h2 => absurd h1 (by omega), fun k j h1 h2 => absurd h1 (by omega), fun k h1 h2 => absurd h1 (by omega), fun k j h1 h2 => absurd h1 (by omega)⟩
  · rintro d σ' H' hd ⟨s2, xs, B, x, hB, hxl, hp, rfl⟩
    have hi : n - 1 - d < n := by omega
    have e1 : (n : Int) - 1 + ((d : Nat) : Int) * (-1) = ((n - 1 - d : Nat) : Int) := by omega
    rw [e1]
    obtain ⟨t, ht, hT⟩ := hrow (n - 1 - d) _ (row_ents u.s hi)
    have hAi : ∀ k, k < n → -1000 ≤ ent M (n - 1 - d) k ∧ ent M (n - 1 - d) k ≤ 1000 := fun k hk => by have := u.r (n - 1 - d) k hi hk; omega
    refine ⟨_, rfl, _, rfl, a, _, _, _, rfl, rfl, Same.seqT s2 hS, atI_nat ht, _, rfl, _, rfl, _, rfl, ?_⟩
    refine ⟨t, b, n - 1 - d, n, q, ent M, B, xs, rfl, by omega, hq2, hi, hn, Same.seqT s2 hT, hAi, hB, fun k h1 h2 => hp.at_ k (by omega) h2, ?_⟩
    intro r H3 s3 hr3
    refine ⟨_, rfl, _, rfl, b, xs, _, n - 1 - d, rfl, rfl, s3 _ _ hB, Evl.ixN_nat (by omega), ?_⟩
    obtain ⟨p1, p2, p3, p4⟩ := elim_row (A := ent M) (B := B) (i := n - 1 - d) (n := n) (q := q) hq hi (fun k hk => (u.u _ _ hi (by omega)).1 hk) ((u.u _ _ hi hi).2 rfl) (fun k j h1 h2 h3 => hp.low k j (by omega) h2 h3)
    have c3 : Chg H3 b := .inl ⟨xs, s3 _ _ hB⟩
    refine ⟨same_mut (s2.trans s3) hb0, xs.set (n - 1 - d) (.ref r), fun k => if k = n - 1 - d then fun j => elim (ent M) B (n - 1 - d) (n - (n - 1 - d + 1)) j % q else B k, _, upd_same, by rw [List.length_set]; exact hxl, ?_, rfl⟩
    have old : ∀ k, n - (d + 1) ≤ k → k < n → k ≠ n - 1 - d → n - d ≤ k := fun k h1 h2 h3 => by omega
    refine ⟨fun k h1 h2 => ?_, fun k j h1 h2 h3 => ?_, fun k j h1 h2 h3 => ?_, fun k h1 h2 => ?_, fun k j h1 h2 h3 => ?_⟩
    · by_cases e : k = n - 1 - d
      · subst e
        refine ⟨r, by rw [List.getElem?_set_self (by omega)], ?_⟩
        show SqT K _ r ((fnRow n (if n - 1 - d = n - 1 - d then _ else _)).map V.int)
        rw [if_pos rfl]
        exact c3.tup .upd hr3
      · obtain ⟨t', e1, k1⟩ := hp.at_ k (old k h1 h2 e) h2
        refine ⟨t', by rw [List.getElem?_set_ne (Ne.symm e)]; exact e1, ?_⟩
        show SqT K _ t' ((fnRow n (if k = n - 1 - d then _ else B k)).map V.int)
        rw [if_neg e]
        exact c3.tup .upd (Same.seqT s3 k1)
    · show 0 ≤ (if k = n - 1 - d then _ else B k) j ∧ (if k = n - 1 - d then _ else B k) j < q
      by_cases e : k = n - 1 - d
      · rw [if_pos e]; exact p1 j
      · rw [if_neg e]; exact hp.res k j (old k h1 h2 e) h2 h3
    · show (if k = n - 1 - d then _ else B k) j = 0
      by_cases e : k = n - 1 - d
      · rw [if_pos e]; exact p2 j (by omega)
      · rw [if_neg e]; exact hp.low k j (old k h1 h2 e) h2 h3
    · show (if k = n - 1 - d then _ else B k) k = 1
      by_cases e : k = n - 1 - d
      · rw [if_pos e, e]; exact p3
      · rw [if_neg e]; exact hp.one k (old k h1 h2 e) h2
    · by_cases e : k = n - 1 - d
      · subst e
        refine p4 _ j ?_ fun l h4 h5 => ?_
        · exact congrFun (if_pos rfl) j
        · exact congrFun (if_neg (show ¬ l = n - 1 - d by omega)) j
      · have z := hp.inv k j (old k h1 h2 e) h2 h3
        refine (Cg.of_eq (sm_congr fun l hl2 => ?_)).trans z
        show ent M k l * (if l = n - 1 - d then _ else B l) j = ent M k l * B l j
        by_cases e2 : l = n - 1 - d
        · rw [(u.u k l h2 hl2).1 (by omega), Int.zero_mul, Int.zero_mul]
        · rw [if_neg e2]
  · rintro σ' H' ⟨s2, xs, B, x, hB, hxl, hp, rfl⟩
    rw [Nat.sub_self] at hp
    have hD := rows_data (B := B) hxl fun k hk => hp.at_ k (Nat.zero_le _) hk
    refine ⟨_, rfl, b, xs, rfl, .inl ⟨SqL.of hB, fun l hl2 => ?_⟩⟩
    refine done l _ (fnMx n B) (s2.trans (same_new hl2 _)) (.tup (SqT.of upd_same) (dpAll_same (same_new hl2 _) _ _ hD)) ⟨⟨fnMx_sq _ _, fun i j hi hj => ?_, fun i j hi hj => ⟨fun l => ?_, fun l => ?_⟩⟩, fun i j hi hj => ?_⟩
    · rw [fnMx_ent _ hi hj]; exact hp.res i j (Nat.zero_le _) hi hj
    · rw [fnMx_ent _ hi hj]; exact hp.low i j (Nat.zero_le _) hi l
    · subst l; rw [fnMx_ent _ hi hj]; exact hp.one _ (Nat.zero_le _) hi
    · refine (Cg.of_eq (sm_congr fun l hl3 => ?_)).trans (hp.inv i j (Nat.zero_le _) hi hj)
      rw [fnMx_ent _ hl3 hj]

end
end Vk04

namespace Vk04
open PySem PySem.Spec PyProof.Rows L2 Vx
section
variable {P : Program} {w : World} {K : PySem.W.Frag} {mg : Str → Option Value} {base : Heap}
def sp_law_pen (K : PySem.W.Frag) : Sp := fun vs H Q _ => ∃ (a : Addr) (ns : List Int), vs = [.ref a] ∧ SqL K H a (ns.map V.int) ∧ ∀ (H' : Hp) (p : Addr), Same H H' → H p = none → Pen K H' p → Q (.ref p) H'

abbrev s_law_pen : Stmt := top 8
theorem sc_law_pen : FnScope ["script"] ["script"] (defScope s_law_pen) := ⟨rfl, rfl, rfl, by decide +kernel, rfl, by decide +kernel, by decide +kernel⟩
theorem ok_law_pen {f : Addr} {fd : FuncData} (F : Fun K "_law_pen" "_law_pen" s_law_pen f fd) (m_list : mg "list" = none) : FnG P w K mg base CX0 1 f fd ["script"] (sp_law_pen K) := by
  refine okG F sc_law_pen (fun vs H Q E h => ?_) (fun cdv A o s H vs Q E hr h => ?_)
  · obtain ⟨a, ns, rfl, _⟩ := h
    rfl
  obtain ⟨a, ns, rfl, hS, q⟩ := h
  refine ⟨_, (pss_one (ps_ret (pe_lst (pa_cons (pe_callTy call_list_of (by rfl) m_list (by decide +kernel) (pa_cons (pe_slice sl_list (pv 0) po_none (po_some pe_int)) pa_nil)) (pa_cons pe_int (pa_cons pe_int pa_nil)))))), ?_⟩
  obtain ⟨ms, em⟩ := cutV_map ns none (some 63)
  refine ⟨_, rfl, 63, rfl, a, _, rfl, hS, fun p hp => ?_⟩
  refine ⟨p, _, rfl, .inl (SqL.of upd_same), fun l hl => ?_⟩
  refine ⟨(by show 3 ≤ sizeLine; decide), fun d hd => ?_⟩
  have s1 := same_new hp (.lst (cutV (ns.map V.int) none (some 63)))
  have s2 := same_new hl (.lst (cutV (ns.map V.int) none (some 63)))
  have s3 := same_new hd (.lst [V.ref l, V.int 0, V.int 0])
  refine q _ d (s1.trans (s2.trans s3)) (s1.free (s2.free hd)) ⟨l, ms, 0, 0, upd_same, ?_, ne_of_none upd_same hd⟩
  rw [← em]
  exact SqL.of (s3 _ _ upd_same)

def sp_law_fresh (K : PySem.W.Frag) : Sp := fun vs H Q _ => ∃ p, vs = [.ref p] ∧ Pen K H p ∧ ∀ H' (r : Int), Dr p H H' → Q (.int r) H'
theorem fresh_bound (a p : Int) (h : p = 2305843009213693951) : 0 ≤ a % p ∧ a % p < p := by
  subst h
  exact ⟨Int.emod_nonneg _ (by decide), Int.emod_lt_of_pos _ (by decide)⟩

abbrev s_law_fresh : Stmt := top 9
theorem sc_law_fresh : FnScope ["pen", "position", "cell", "prime", "state", "mixed", "step"] ["pen"] (defScope s_law_fresh) := ⟨rfl, rfl, rfl, by decide +kernel, rfl, by decide +kernel, by decide +kernel⟩
theorem ok_law_fresh {f : Addr} {fd : FuncData} (F : Fun K "_law_fresh" "_law_fresh" s_law_fresh f fd) (m_range : mg "range" = none) (m_len : mg "len" = none) : FnG P w K mg base CX0 1 f fd ["pen"] (sp_law_fresh K) := by
  refine okG F sc_law_fresh (fun vs H Q E h => ?_) (fun cdv A o s H vs Q E hr h => ?_)
  · obtain ⟨a, rfl, _⟩ := h
    rfl
  obtain ⟨p, rfl, ⟨c, ns, i, m, hP, hC, ne⟩, q⟩ := h
  refine ⟨_, (pss_cons (ps_set (i := 1) sc_law_fresh.nd rfl (Or.inl rfl) (pe_ix ix_list (pv 0) pe_int (fun _ _ => rfl)))
      (pss_cons (ps_asg (pe_op op_add (pv 1) pe_int) (pg_sub (pv 0) pe_int set_list))
      (pss_cons (ps_set (i := 2) sc_law_fresh.nd rfl (Or.inl rfl) pe_int)
      (Evl.pss_cut (ps_if (pt_cmpR (op_neD hr.r.units) (pe_ix ix_list (pv 0) pe_int (fun _ _ => rfl)) (pe_lst pa_nil) (nomark _)) (pss_one (ps_set (i := 2) sc_law_fresh.nd rfl (Or.inl rfl) (pe_ix ix_list (pe_ix ix_list (pv 0) pe_int (fun _ _ => rfl)) (pe_op op_mod (pv 1) (pe_callB call_len_seq (by rfl) m_len (by decide +kernel) (pa_cons (pe_ix ix_list (pv 0) pe_int (fun _ _ => rfl)) pa_nil))) (fun _ _ => rfl)))) pss_nil)
      (Evl.pss_cut (ps_if (PW.pt (pw_and (pt_cmpR op_lt (pv 1) (pe_callB call_len_seq (by rfl) m_len (by decide +kernel) (pa_cons (pe_ix ix_list (pv 0) pe_int (fun _ _ => rfl)) pa_nil)) (nomark _)) (pw_and1 (pt_cmpR op_ge (pv 2) (pe_op op_pow pe_int pe_int) (nomark _))))) (pss_one (ps_ret (pe_op op_sub (pv 2) (pe_op op_pow pe_int pe_int)))) pss_nil)
      (pss_cons (ps_set (i := 3) sc_law_fresh.nd rfl (Or.inl rfl) pe_int)
      (pss_cons (ps_set (i := 4) sc_law_fresh.nd rfl (Or.inl rfl) (pe_op op_mod (pe_op op_add (pe_op op_add (pe_op op_mul (pv 2) pe_int) (pe_op op_mul pe_int (pv 1))) pe_int) (pv 3)))
      (pss_cons (ps_set (i := 5) sc_law_fresh.nd rfl (Or.inl rfl) (pv 4))
      (pss_cons (ps_for PassesOwn.never rfl (pi_range1 rfl m_range (pa_cons pe_int pa_nil)) (pg_name (i := 6) sc_law_fresh.nd rfl (Or.inl rfl)) (pss_cons (ps_set (i := 4) sc_law_fresh.nd rfl (Or.inl rfl) (pe_op op_add (pe_op op_mul (pv 4) (pv 4)) (pe_op op_mul (pe_op op_mul pe_int (pe_op op_add (pv 6) pe_int)) (pe_op op_add (pv 1) pe_int))))
      (pss_cons (ps_set (i := 4) sc_law_fresh.nd rfl (Or.inl rfl) (pe_op op_mod (pe_op op_add (pv 4) (pv 2)) (pv 3)))
      (pss_one (ps_set (i := 5) sc_law_fresh.nd rfl (Or.inl rfl) (pe_op op_add (pe_op op_mul (pv 5) (pv 3)) (pv 4)))))))
      (pss_one (ps_ret (pv 5)))))))))))), ?_⟩
  have P0 : PenAt K H p c ns i m := ⟨hP, hC, ne⟩
  have P1 := P0.put (i + 1) m
  refine ⟨_, rfl, p, _, 1, _, rfl, rfl, SqL.of hP, rfl, ?_⟩
  refine ⟨_, rfl, _, _, rfl, rfl, ?_⟩
  refine ⟨_, rfl, p, _, 1, 1, rfl, rfl, hP, rfl, ?_⟩
  have b1 : But p H (upd H p (.lst [.ref c, .int (i + 1), .int m])) := But.upd
  -- cell = 0; if pen[0] != []
  refine ⟨fun σ H2 => ∃ z : Int, σ = [some (.ref p), some (.int i), some (.int z), none, none, none, none] ∧ But p H H2 ∧ PenAt K H2 p c ns (i + 1) m, ?_, ?_⟩
  · refine ⟨_, rfl, p, _, 0, _, rfl, rfl, SqL.of P1.1, rfl, Nat.zero_le _, fun e0 he => ?_⟩
    have s1 := same_new he (.lst [])
    have P2 : PenAt K (upd (upd H p (.lst [.ref c, .int (i + 1), .int m])) e0 (.lst [])) p c ns (i + 1) m := ⟨s1 _ _ P1.1, s1.seq P1.2.1, ne⟩
    have b2 : But p H (upd (upd H p (.lst [.ref c, .int (i + 1), .int m])) e0 (.lst [])) := b1.trans (.new he _)
    refine ⟨.list (ns.map .int), .list [], .lst P2.2.1 (dp_ints K _ ns), .lst (SqL.of upd_same) .nil, shaped_ints ns, rfl, _, rfl, ?_⟩
    refine ite2 (fun hne => ?_) (fun _ => ?_)
    · have hn : ns ≠ [] := fun e => by
        subst e
        exact absurd hne (by decide)
      have hl : 0 < ((ns.map V.int).length : Int) := by
        rw [List.length_map]
        have := List.length_pos_iff.mpr hn
        omega
      have hm0 := Int.emod_nonneg i (show ((ns.map V.int).length : Int) ≠ 0 by omega)
      have hm1 := Int.emod_lt_of_pos i hl
      obtain ⟨v, hv⟩ := at_map (ns := ns) hm0 (by rw [List.length_map] at hm1 ⊢; exact hm1)
      refine ⟨_, rfl, p, _, 0, _, rfl, rfl, SqL.of P2.1, rfl, _, rfl, _, rfl, p, _, 0, _, rfl, rfl, SqL.of P2.1, rfl, c, _, rfl, .inl P2.2.1, _, _, rfl, rfl, hl, ?_⟩
      exact ⟨c, _, _, _, rfl, rfl, P2.2.1, hv, v, rfl, b2, P2⟩
    · exact ⟨0, rfl, b2, P2⟩
  · rintro σ H2 ⟨z, rfl, b2, P2⟩
    have fin : ∀ r : Int, Q (.int r) H2 := fun r => q H2 r (.put b2 P0 P2.1)
    -- if position < len(pen[0]) and cell >= 10 ** 18: return ..
    refine ⟨fun σ' H' => σ' = [some (.ref p), some (.int i), some (.int z), none, none, none, none] ∧ H' = H2, ?_, ?_⟩
    · refine ⟨_, rfl, _, rfl, p, _, 0, _, rfl, rfl, SqL.of P2.1, rfl, c, _, rfl, .inl P2.2.1, _, _, rfl, rfl, _, rfl, ?_⟩
      refine ite2 (fun _ => ?_) (fun _ => iteF ⟨rfl, rfl⟩)
      refine ⟨_, rfl, _, _, rfl, rfl, ⟨by decide, by decide, by decide⟩, _, _, rfl, rfl, _, rfl, ?_⟩
      refine ite2 (fun _ => ?_) (fun _ => ⟨rfl, rfl⟩)
      exact ⟨_, rfl, _, _, rfl, rfl, ⟨by decide, by decide, by decide⟩, _, _, rfl, rfl, fin _⟩
    rintro _ H3 ⟨rfl, rfl⟩
    -- prime, state, mixed
    refine ⟨_, rfl, _, _, rfl, rfl, .inr ⟨by decide, by decide⟩, _, rfl, _, _, rfl, rfl, .inl ⟨by decide, by decide⟩, _, _, rfl, rfl, _, _, rfl, rfl, _, rfl, _, _, rfl, rfl, (by show (0 : Int) < 2305843009213693951; decide), ?_⟩
    refine ⟨_, rfl, ?_⟩
    refine ⟨6, rfl, by decide, by decide, for_range (n := 6) (fun _ σ' H' => H' = H3 ∧ ∃ (st mx : Int) (sp : Option V), 0 ≤ st ∧ st < 2305843009213693951 ∧ σ' = [some (.ref p), some (.int i), some (.int z), some (.int 2305843009213693951), some (.int st), some (.int mx), sp]) ?_ ?_ ?_⟩
    · obtain ⟨h0, h1⟩ := fresh_bound (z * 48271 + 40692 * i + 31) _ rfl
      exact ⟨rfl, _, _, _, h0, h1, rfl⟩
    · rintro j σ' H' hj ⟨rfl, st, mx, sp, h0, h1, rfl⟩
      refine ⟨_, rfl, _, rfl, _, _, rfl, rfl, .inl ⟨by omega, by omega⟩, _, rfl, _, _, rfl, rfl, _, _, rfl, rfl, .inl ⟨by decide, by decide⟩, _, rfl, _, _, rfl, rfl, _, _, rfl, rfl, .inl ⟨by omega, by omega⟩, _, _, rfl, rfl, ?_⟩
      refine ⟨_, rfl, _, rfl, _, _, rfl, rfl, _, rfl, _, _, rfl, rfl, (by show (0 : Int) < 2305843009213693951; decide), ?_⟩
      refine ⟨_, rfl, _, rfl, _, _, rfl, rfl, .inr ⟨by decide, by decide⟩, _, rfl, _, _, rfl, rfl, ?_⟩
      obtain ⟨h2, h3⟩ := fresh_bound (st * st + 69621 * (0 + (j : Int) + 1) * (i + 1) + z) _ rfl
      exact ⟨rfl, _, _, _, h2, h3, rfl⟩
    · rintro σ' H' ⟨rfl, st, mx, sp, h0, h1, rfl⟩
      exact ⟨_, rfl, fin _⟩

def sp_law_draw (K : PySem.W.Frag) : Sp := fun vs H Q _ => ∃ (p : Addr) (b : Int), vs = [.ref p, .int b] ∧ Pen K H p ∧ 0 < b ∧ b.natAbs < 2 ^ 300 ∧ ∀ (H' : Hp) (r : Int), Dr p H H' → 0 ≤ r → r < b → Q (.int r) H'

abbrev s_law_draw : Stmt := top 10
theorem sc_law_draw : FnScope ["pen", "bound", "digit"] ["pen", "bound"] (defScope s_law_draw) := ⟨rfl, rfl, rfl, by decide +kernel, rfl, by decide +kernel, by decide +kernel⟩
theorem ok_law_draw {f : Addr} {fd : FuncData} (F : Fun K "_law_draw" "_law_draw" s_law_draw f fd) (c__law_fresh : Cal P w K mg base "_law_fresh" 1 ["pen"] (sp_law_fresh K)) : FnG P w K mg base CX0 2 f fd ["pen", "bound"] (sp_law_draw K) := by
  obtain ⟨f__law_fresh, fd__law_fresh, G__law_fresh, m__law_fresh, k__law_fresh, b__law_fresh⟩ := c__law_fresh.ex
  refine okG F sc_law_draw (fun vs H Q E h => ?_) (fun cdv A o s H vs Q E hr h => ?_)
  · obtain ⟨a, b, rfl, _⟩ := h
    rfl
  obtain ⟨p, b, rfl, hPen, hb, hb2, q⟩ := h
  refine ⟨_, (Evl.pss_cut (ps_if (pt_cmpR op_lt (pe_ix ix_list (pv 0) pe_int (fun _ _ => rfl)) (pv 1) (nomark _)) (pss_one (ps_asg (ge_call G__law_fresh (hr.mono (by decide)) (by rfl) m__law_fresh k__law_fresh b__law_fresh .nil pass0 (pa_cons (pv 0) pa_nil)) (pg_sub (pv 0) pe_int set_list))) pss_nil)
      (pss_cons (ps_set (i := 2) sc_law_draw.nd rfl (Or.inl rfl) (pe_op op_mod (pe_ix ix_list (pv 0) pe_int (fun _ _ => rfl)) (pv 1)))
      (pss_cons (ps_asg (pe_op op_fdivW (pe_ix ix_list (pv 0) pe_int (fun _ _ => rfl)) (pv 1)) (pg_sub (pv 0) pe_int set_list))
      (pss_one (ps_ret (pv 2)))))), ?_⟩
  refine ⟨fun σ H2 => σ = [some (.ref p), some (.int b), none] ∧ Dr p H H2, ?_, ?_⟩
  · obtain ⟨c, ns, i, m, hP, hC, ne⟩ := id hPen
    refine ⟨_, rfl, p, _, 2, _, rfl, rfl, SqL.of hP, rfl, _, rfl, _, _, rfl, rfl, _, rfl, ?_⟩
    refine ite2 (fun _ => ?_) (fun _ => ⟨rfl, .refl _ _⟩)
    refine ⟨_, rfl, p, rfl, hPen, fun H' r k1 => ?_⟩
    obtain ⟨c', ns', i', m', P2⟩ := k1.pen hPen
    refine ⟨_, rfl, p, _, 2, 2, rfl, rfl, P2.1, rfl, rfl, k1.trans (.put .upd P2 (P2.put i' r).1)⟩
  · rintro _ H2 ⟨rfl, b1⟩
    obtain ⟨c, ns, i, m, P2⟩ := b1.pen hPen
    refine ⟨_, rfl, p, _, 2, _, rfl, rfl, SqL.of P2.1, rfl, _, rfl, _, _, rfl, rfl, hb, ?_⟩
    refine ⟨_, rfl, p, _, 2, _, rfl, rfl, SqL.of P2.1, rfl, _, rfl, _, _, rfl, rfl, wide_div hb hb2 (by decide) (by decide), ?_⟩
    refine ⟨_, rfl, p, _, 2, 2, rfl, rfl, P2.1, rfl, ?_⟩
    exact ⟨_, rfl, q _ _ (b1.trans (.put .upd P2 (P2.put i _).1)) (Int.emod_nonneg _ (by omega)) (Int.emod_lt_of_pos _ hb)⟩


def sp_law_modulus (K : PySem.W.Frag) : Sp := fun vs H Q _ => ∃ p : Addr, vs = [.ref p] ∧ Pen K H p ∧ ∀ (H' : Hp) (q : Int), Dr p H H' → 2 ≤ q → q ≤ 1000 → Q (.int q) H'
theorem at_mem {ns : List Int} {i : Int} (h0 : 0 ≤ i) (h : i < ns.length) : ∃ v ∈ ns, atI (ns.map V.int) i = some (.int v) := by
  have hk : i.toNat < ns.length := by omega
  have e : i = ((i.toNat : Nat) : Int) := by omega
  refine ⟨ns[i.toNat], List.getElem_mem hk, ?_⟩
  generalize hg : ns[i.toNat] = v
  rw [e]
  subst hg
  exact atI_nat (by rw [List.getElem?_map, List.getElem?_eq_getElem (by omega)]; rfl)

abbrev s_law_modulus : Stmt := top 11
theorem sc_law_modulus : FnScope ["pen"] ["pen"] (defScope s_law_modulus) := ⟨rfl, rfl, rfl, by decide +kernel, rfl, by decide +kernel, by decide +kernel⟩
theorem ok_law_modulus {f : Addr} {fd : FuncData} (F : Fun K "_law_modulus" "_law_modulus" s_law_modulus f fd) (c__law_draw : Cal P w K mg base "_law_draw" 2 ["pen", "bound"] (sp_law_draw K)) : FnG P w K mg base CX0 3 f fd ["pen"] (sp_law_modulus K) := by
  obtain ⟨f__law_draw, fd__law_draw, G__law_draw, m__law_draw, k__law_draw, b__law_draw⟩ := c__law_draw.ex
  refine okG F sc_law_modulus (fun vs H Q E h => ?_) (fun cdv A o s H vs Q E hr h => ?_)
  · obtain ⟨p, rfl, _⟩ := h
    rfl
  obtain ⟨p, rfl, hP, q⟩ := h
  refine ⟨_, (pss_one (ps_ret (pe_ix ix_list (pe_lst (pa_cons pe_int (pa_cons pe_int (pa_cons pe_int (pa_cons pe_int (pa_cons pe_int (pa_cons pe_int (pa_cons pe_int (pa_cons pe_int (pa_cons pe_int (pa_cons (pe_op op_add pe_int (ge_call G__law_draw (hr.mono (by decide)) (by rfl) m__law_draw k__law_draw b__law_draw .nil pass0 (pa_cons (pv 0) (pa_cons pe_int pa_nil)))) pa_nil))))))))))) (ge_call G__law_draw (hr.mono (by decide)) (by rfl) m__law_draw k__law_draw b__law_draw .nil pass0 (pa_cons (pv 0) (pa_cons pe_int pa_nil))) (fun _ _ => rfl)))), ?_⟩
  refine ⟨_, rfl, p, 999, rfl, hP, by decide, by decide, fun H1 r b1 r0 r1 => ?_⟩
  have P1 := b1.pen hP
  refine ⟨_, _, rfl, rfl, (by show 10 ≤ sizeLine; decide), fun l hl => ?_⟩
  have P2 := P1.new hl (.lst (([2, 3, 4, 5, 6, 7, 12, 97, 1000, 2 + r] : List Int).map V.int))
  refine ⟨_, rfl, p, 10, rfl, P2, by decide, by decide, fun H2 k b2 k0 k1 => ?_⟩
  obtain ⟨v, hv, e⟩ := at_mem (ns := [2, 3, 4, 5, 6, 7, 12, 97, 1000, 2 + r]) k0 k1
  refine ⟨l, _, _, _, rfl, rfl, SqL.of (b2.but _ _ (P1.free hl) upd_same), e, ?_⟩
  have hb : 2 ≤ v ∧ v ≤ 1000 := by
    simp only [List.mem_cons, List.not_mem_nil, or_false] at hv
    omega
  exact q H2 v (b1.trans ((Dr.new hl _).trans b2)) hb.1 hb.2

end
end Vk04

namespace Vk04
open PySem PySem.Spec PyProof.Rows L2 Vx
section
variable {P : Program} {w : World} {K : PySem.W.Frag} {mg : Str → Option Value} {base : Heap}
theorem data_ints {K : PySem.W.Frag} {H : Hp} : ∀ {ds : List PyData} {vs : List V} {q : Int}, DpAll K H vs ds → (∀ (k : Nat) d, ds[k]? = some d → ∃ x : Int, d = .int x ∧ 0 ≤ x ∧ x < q) → ∃ xs : List Int, vs = xs.map V.int ∧ xs.length = ds.length ∧ ∀ x ∈ xs, 0 ≤ x ∧ x < q
  | [], _, _, h, _ => by cases h; exact ⟨[], rfl, rfl, fun x hx => nomatch hx⟩
  | d :: ds, _, q, h, k => by
    cases h with
    | cons a b =>
      obtain ⟨x, rfl, h0, h1⟩ := k 0 d rfl
      obtain ⟨xs, e, l, hx⟩ := data_ints b fun i d' hd => k (i + 1) d' (by simpa using hd)
      refine ⟨x :: xs, by rw [dp_int a, e]; rfl, by rw [List.length_cons, l]; rfl, fun y hy => ?_⟩
      rcases List.mem_cons.mp hy with rfl | hy
      · exact ⟨h0, h1⟩
      · exact hx y hy
theorem rows_of {ds : List PyData} {q : Int} {n : Nat} (hl : ds.length = n) (h : ∀ (k : Nat) d, ds[k]? = some d → ∃ r, d = rowD r ∧ UtRow q n k r) : ∃ M : Mx, ds = M.map rowD ∧ UT q n M := by
  have : ∃ M : Mx, ds = M.map rowD ∧ ∀ k r, M[k]? = some r → UtRow q n k r := by
    have gen : ∀ (ds : List PyData) (o : Nat), (∀ (k : Nat) d, ds[k]? = some d → ∃ r, d = rowD r ∧ UtRow q n (o + k) r) → ∃ M : Mx, ds = M.map rowD ∧ ∀ k r, M[k]? = some r → UtRow q n (o + k) r := by
      intro ds
      induction ds with
      | nil => exact fun o _ => ⟨[], rfl, fun k r h => by simp at h⟩
      | cons d ds ih =>
        intro o h
        obtain ⟨r, rfl, hr⟩ := h 0 d rfl
        obtain ⟨M, rfl, hM⟩ := ih (o + 1) fun k d' hd => by
          have := h (k + 1) d' (by simpa using hd)
          rwa [show o + (k + 1) = o + 1 + k by omega] at this
        refine ⟨r :: M, rfl, fun k r' hk => ?_⟩
        match k, hk with
        | 0, hk =>
          obtain rfl : r = r' := by simpa using hk
          exact hr
        | k + 1, hk =>
          have := hM k r' (by simpa using hk)
          rwa [show o + 1 + k = o + (k + 1) by omega] at this
    obtain ⟨M, e, k⟩ := gen ds 0 fun k d hd => by rw [Nat.zero_add]; exact h k d hd
    exact ⟨M, e, fun k' r hk => by have := k k' r hk; rwa [Nat.zero_add] at this⟩
  obtain ⟨M, rfl, k⟩ := this
  exact ⟨M, rfl, ut_rows (by rw [← hl, List.length_map]) k⟩
theorem flat_rep (i : Nat) (x : Int) : (List.replicate i [V.int x]).flatten = (List.replicate i x).map V.int := by
  induction i with
  | zero => rfl
  | succ i ih => rw [List.replicate_succ, List.replicate_succ, List.flatten_cons, ih]; rfl


def sp_law_unitriangular (K : PySem.W.Frag) : Sp := fun vs H Q _ => ∃ (p : Addr) (q : Int) (n : Nat), vs = [.ref p, .int q, .int (n : Int)] ∧ Pen K H p ∧ 2 ≤ q ∧ q ≤ 1000 ∧ n ≤ 100 ∧
  ∀ (a : Addr) (H' : Hp) (M : Mx), Dr p H H' → Dp K H' (.ref a) (mat M) → UT q n M → Q (.ref a) H'

abbrev s_law_unitriangular : Stmt := top 13
theorem sc_law_unitriangular : FnScope ["pen", "q", "length_here", "rows", "i", "j"] ["pen", "q", "length_here"] (defScope s_law_unitriangular) := ⟨rfl, rfl, rfl, by decide +kernel, rfl, by decide +kernel, by decide +kernel⟩
theorem ok_law_unitriangular {f : Addr} {fd : FuncData} (F : Fun K "_law_unitriangular" "_law_unitriangular" s_law_unitriangular f fd) (m_range : mg "range" = none) (m_tuple : mg "tuple" = none) (c__law_draw : Cal P w K mg base "_law_draw" 2 ["pen", "bound"] (sp_law_draw K)) : FnG P w K mg base CX0 3 f fd ["pen", "q", "length_here"] (sp_law_unitriangular K) := by
  obtain ⟨f__law_draw, fd__law_draw, G__law_draw, m__law_draw, k__law_draw, b__law_draw⟩ := c__law_draw.ex
  refine okG F sc_law_unitriangular (fun vs H Q E h => ?_) (fun cdv A' o s H vs Q E hr h => ?_)
  · obtain ⟨p, q, n, rfl, _⟩ := h
    rfl
  obtain ⟨p, q, n, rfl, hP, hq, hq2, hn, done⟩ := h
  refine ⟨_, (pss_cons (ps_set (i := 3) sc_law_unitriangular.nd rfl (Or.inl rfl) (pe_lst pa_nil))
      (pss_cons (ps_for PassesOwn.never rfl (pi_range1 rfl m_range (pa_cons (pv 2) pa_nil)) (pg_name (i := 4) sc_law_unitriangular.nd rfl (Or.inl rfl)) (pss_one (ps_expr (pe_bm PySem.F.plainAttrs_list PySem.F.slot_list_append PySem.F.type_list_append mt_append (pv 3) (pa_cons (pe_op op_catS (pe_op op_catS (pe_op op_repS (pe_tup (pa_cons pe_int pa_nil)) (pv 4)) (pe_tup (pa_cons pe_int pa_nil))) (pe_callTy call_tuple_of (by rfl) m_tuple (by decide +kernel) (pa_cons (pe_lc (own := [("j", 5)]) (g := (gName 5)) (by rfl) sc_law_unitriangular.nd (pi_range2 rfl m_range (pa_cons (pe_op op_add (pv 4) pe_int) (pa_cons (pv 2) pa_nil))) (blkOk_by (own := [("j", 5)]) (by kernel_rfl)) (fun _ _ _ _ _ => (pg_name (i := 5) sc_law_unitriangular.nd rfl (Or.inl rfl))) (fun _ _ _ _ _ => pts_nil) (fun _ _ _ _ _ => (ge_call G__law_draw (hr.mono (by decide)) (by rfl) m__law_draw k__law_draw b__law_draw .nil pass0 (pa_cons (pv 0) (pa_cons (pv 1) pa_nil))))) pa_nil))) pa_nil)))))
      (pss_one (ps_ret (pe_callTy call_tuple_of (by rfl) m_tuple (by decide +kernel) (pa_cons (pv 3) pa_nil)))))), ?_⟩
  refine ⟨Nat.zero_le _, fun R hR => ?_⟩
  have nR : R ≠ p := hP.free hR
  refine ⟨_, rfl, _, rfl, by omega, by omega, ?_⟩
  rw [Int.toNat_natCast]
  refine for_range (fun i σ' H' => Made K R (fun k d => ∃ r, d = rowD r ∧ UtRow q n k r) (Dr p H) i H' ∧ ∃ x, σ' = [some (.ref p), some (.int q), some (.int (n : Int)), some (.ref R), x, none]) ?_ ?_ ?_
  · exact ⟨.start (.new hR _), none, rfl⟩
  · rintro i σ' H' hi ⟨m, x, rfl⟩
    obtain ⟨acc, ds, eR, k, no, hl, hk, gb⟩ := id m
    have gP := gb.pen hP
    refine ⟨_, rfl, .inl ⟨rfl, _, SqL.of eR⟩, ?_⟩
    refine ⟨(by show 1 ≤ sizeLine; decide), fun t1 ht1 => ?_⟩
    have s1 := same_new ht1 (.tup [V.int 0])
    refine ⟨_, rfl, t1, _, _, rfl, rfl, SqT.of upd_same, (by simp), by omega, by omega, by decide, fun r1 H1 s2 hr1 => ?_⟩
    rw [show ((0 : Int) + (i : Int)).toNat = i by omega, flat_rep] at hr1
    refine ⟨(by show 1 ≤ sizeLine; decide), fun t2 ht2 => ?_⟩
    have s3 := same_new ht2 (.tup [V.int 1])
    refine ⟨r1, t2, _, _, rfl, rfl, Same.seqT s3 hr1, SqT.of upd_same, (by rw [List.length_map, List.length_replicate]; exact Nat.le_of_lt (small1000 (by simp; omega))), fun r2 H2 s4 hr2 => ?_⟩
    have sA : Same H' H2 := s1.trans (s2.trans (s3.trans s4))
    have P2 : Pen K H2 p := gP.same sA
    refine ⟨_, rfl, _, _, rfl, rfl, _, rfl, _, _, rfl, ⟨by omega, by omega, by omega, by omega⟩, fun D hD => ?_⟩
    have nD : D ≠ p := P2.free hD
    refine lc_rangeD (K := K) (Dr p H2) (fun k d => ∃ x : Int, d = .int x ∧ 0 ≤ x ∧ x < q) (by omega) (.new hD _) (fun _ => rfl) ?_ ?_
    · intro j H3 hj m3 Q' q'
      obtain ⟨acc3, ds3, e3, k3, _, _, _, g3⟩ := m3
      have P3 := g3.pen P2
      refine ⟨_, rfl, _, rfl, p, q, rfl, P3, by omega, by omega, fun H4 y b4 y0 y1 => ?_⟩
      exact q' _ _ _ (.but b4.but P3.chg e3 nD) rfl (.int y) ⟨y, rfl, y0, y1⟩ fun acc' => (g3.trans b4).mut P2 hD
    · rintro H3 ⟨acc3, ds3, e3, k3, no3, hl3, hk3, g3⟩
      obtain ⟨xs, rfl, hxl, hxs⟩ := data_ints k3 hk3
      refine ⟨D, _, rfl, .inl ⟨SqL.of e3, fun l hl => ?_⟩⟩
      have s5 := same_new hl (.tup (xs.map V.int))
      have hr3 := Same.seqT s5 (P2.chg.tup g3.but hr2)
      refine ⟨r2, l, _, _, rfl, rfl, hr3, SqT.of upd_same, ?_, fun r4 H4 s6 hr4 => ?_⟩
      · rw [List.length_append, List.length_map, List.length_replicate, List.length_map, hxl, hl3]
        exact Nat.le_of_lt (small1000 (by simp; omega))
      have bA : Dr p H' H4 := (Dr.same sA).trans (g3.trans (.same (s5.trans s6)))
      have row : UtRow q n i (List.replicate i 0 ++ [1] ++ xs) := ut_row_of (by omega) hi (by rw [hxl, hl3]; omega) hxs
      have hr5 : SqT K H4 r4 ((List.replicate i 0 ++ [1] ++ xs).map V.int) := by rw [List.map_append, List.map_append]; exact hr4
      obtain ⟨acc', e', lt', m'⟩ := m.next (.but bA.but gP.chg eR nR) (noL_row _) (dp_row hr5) ⟨_, rfl, row⟩ (by omega) fun acc' => (gb.trans bA).mut hP hR
      exact ⟨R, acc', _, rfl, rfl, e', lt', m', _, rfl⟩
  · rintro σ' H' ⟨⟨acc, ds, eR, k, no, hl, hk, gb⟩, x, rfl⟩
    obtain ⟨M, rfl, hM⟩ := rows_of hl hk
    refine ⟨_, rfl, R, _, rfl, .inl ⟨SqL.of eR, fun l hl2 => ?_⟩⟩
    exact done l _ M (gb.trans (.new hl2 _)) (.tup (SqT.of upd_same) (dpAll_same (same_new hl2 _) _ _ k)) hM


theorem mx_of {ds : List PyData} {q : Int} {n : Nat} (hl : ds.length = n) (h : ∀ (k : Nat) d, ds[k]? = some d → ∃ r : List Int, d = rowD r ∧ r.length = n ∧ ∀ x ∈ r, 0 ≤ x ∧ x < q) : ∃ M : Mx, ds = M.map rowD ∧ Sq n M ∧ Rs q n M := by
  have gen : ∀ (ds : List PyData), (∀ d ∈ ds, ∃ r : List Int, d = rowD r ∧ r.length = n ∧ ∀ x ∈ r, 0 ≤ x ∧ x < q) → ∃ M : Mx, ds = M.map rowD ∧ ∀ r ∈ M, r.length = n ∧ ∀ x ∈ r, 0 ≤ x ∧ x < q := by
    intro ds
    induction ds with
    | nil => exact fun _ => ⟨[], rfl, fun r h => nomatch h⟩
    | cons d ds ih =>
      intro h
      obtain ⟨r, rfl, hr⟩ := h d List.mem_cons_self
      obtain ⟨M, rfl, hM⟩ := ih fun d' hd => h d' (List.mem_cons_of_mem _ hd)
      refine ⟨r :: M, rfl, fun r' hr' => ?_⟩
      rcases List.mem_cons.mp hr' with rfl | hr'
      · exact hr
      · exact hM r' hr'
  obtain ⟨M, rfl, hM⟩ := gen ds fun d hd => by
    obtain ⟨k, hk, rfl⟩ := List.mem_iff_getElem.mp hd
    exact h k _ (List.getElem?_eq_getElem hk)
  have s : Sq n M := ⟨by rw [← hl, List.length_map], fun r hr => (hM r hr).1⟩
  refine ⟨M, rfl, s, fun i j hi hj => ?_⟩
  obtain ⟨r, er, hlr, g⟩ := row_get s hi
  have m := List.mem_of_getElem? (g j hj)
  exact (hM r (List.mem_of_getElem? er)).2 _ m
def sp_law_matrix (K : PySem.W.Frag) : Sp := fun vs H Q _ => ∃ (p : Addr) (q : Int) (n : Nat), vs = [.ref p, .int q, .int (n : Int)] ∧ Pen K H p ∧ 2 ≤ q ∧ q ≤ 1000 ∧ n ≤ 100 ∧
  ∀ (a : Addr) (H' : Hp) (M : Mx), Dr p H H' → Dp K H' (.ref a) (mat M) → Sq n M → Rs q n M → Q (.ref a) H'

abbrev s_law_matrix : Stmt := top 12
theorem sc_law_matrix : FnScope ["pen", "q", "length_here", "j", "i"] ["pen", "q", "length_here"] (defScope s_law_matrix) := ⟨rfl, rfl, rfl, by decide +kernel, rfl, by decide +kernel, by decide +kernel⟩
theorem ok_law_matrix {f : Addr} {fd : FuncData} (F : Fun K "_law_matrix" "_law_matrix" s_law_matrix f fd) (m_tuple : mg "tuple" = none) (m_range : mg "range" = none) (c__law_draw : Cal P w K mg base "_law_draw" 2 ["pen", "bound"] (sp_law_draw K)) : FnG P w K mg base CX0 3 f fd ["pen", "q", "length_here"] (sp_law_matrix K) := by
  obtain ⟨f__law_draw, fd__law_draw, G__law_draw, m__law_draw, k__law_draw, b__law_draw⟩ := c__law_draw.ex
  refine okG F sc_law_matrix (fun vs H Q E h => ?_) (fun cdv A' o s H vs Q E hr h => ?_)
  · obtain ⟨p, q, n, rfl, _⟩ := h
    rfl
  obtain ⟨p, q, n, rfl, hP, hq, hq2, hn, done⟩ := h
  refine ⟨_, (pss_one (ps_ret (pe_callTy call_tuple_of (by rfl) m_tuple (by decide +kernel) (pa_cons (pe_lc (own := [("i", 4)]) (g := (gName 4)) (by rfl) sc_law_matrix.nd (pi_range1 rfl m_range (pa_cons (pv 2) pa_nil)) (blkOk_by (own := [("i", 4)]) (by kernel_rfl)) (fun _ _ _ _ _ => (pg_name (i := 4) sc_law_matrix.nd rfl (Or.inl rfl))) (fun _ _ _ _ _ => pts_nil) (fun _ _ _ _ _ => (pe_callTy (call_tuple_ofK K) (by rfl) m_tuple (by decide +kernel) (pa_cons (pe_lc (own := [("j", 3)]) (g := (gName 3)) (by rfl) sc_law_matrix.nd (pi_range1 rfl m_range (pa_cons (pv 2) pa_nil)) (blkOk_by (own := [("j", 3)]) (by kernel_rfl)) (fun _ _ _ _ _ => (pg_name (i := 3) sc_law_matrix.nd rfl (Or.inl rfl))) (fun _ _ _ _ _ => pts_nil) (fun _ _ _ _ _ => (ge_call G__law_draw (hr.mono (by decide)) (by rfl) m__law_draw k__law_draw b__law_draw .nil pass0 (pa_cons (pv 0) (pa_cons (pv 1) pa_nil))))) pa_nil)))) pa_nil)))), ?_⟩
  refine ⟨_, rfl, _, rfl, by omega, by omega, fun R hR => lc_rangeD (K := K) (Dr p H) (fun k d => ∃ r : List Int, d = rowD r ∧ r.length = n ∧ ∀ x ∈ r, 0 ≤ x ∧ x < q) (by omega) (.new hR _) (fun _ => rfl) ?_ ?_⟩
  · intro i H1 hi m Q1 q1
    obtain ⟨acc, ds, eR, _, _, _, _, g⟩ := id m
    have P1 := g.pen hP
    have nR : R ≠ p := hP.free hR
    refine ⟨_, rfl, _, rfl, by omega, by omega, fun D hD => ?_⟩
    have nD : D ≠ p := P1.free hD
    refine lc_rangeD (K := K) (Dr p H1) (fun k d => ∃ x : Int, d = .int x ∧ 0 ≤ x ∧ x < q) (by omega) (.new hD _) (fun _ => rfl) ?_ ?_
    · intro j H3 hj m3 Q' q'
      obtain ⟨acc3, ds3, e3, k3, _, _, _, g3⟩ := m3
      have P3 := g3.pen P1
      refine ⟨_, rfl, _, rfl, p, q, rfl, P3, by omega, by omega, fun H4 y b4 y0 y1 => ?_⟩
      exact q' _ _ _ (.but b4.but P3.chg e3 nD) rfl (.int y) ⟨y, rfl, y0, y1⟩ fun acc' => (g3.trans b4).mut P1 hD
    · rintro H3 ⟨acc3, ds3, e3, k3, no3, hl3, hk3, g3⟩
      obtain ⟨xs, rfl, hxl, hxs⟩ := data_ints k3 hk3
      refine ⟨D, _, rfl, .inl ⟨SqL.of e3, fun l hl => ?_⟩⟩
      have g5 : Dr p H1 (upd H3 l (.tup (xs.map V.int))) := g3.trans (.new hl _)
      exact q1 _ _ _ (.but g5.but P1.chg eR nR) (noL_row _) (dp_row (SqT.of upd_same)) ⟨xs, rfl, by rw [hxl, hl3]; omega, hxs⟩ fun acc' => (g.trans g5).mut hP hR
  · rintro H' ⟨acc, ds, eR, k, no, hl, hk, gb⟩
    obtain ⟨M, rfl, hM, hM2⟩ := mx_of (show ds.length = n by rw [hl]; omega) hk
    refine ⟨R, _, rfl, .inl ⟨SqL.of eR, fun l hl2 => ?_⟩⟩
    exact done l _ M (gb.trans (.new hl2 _)) (.tup (SqT.of upd_same) (dpAll_same (same_new hl2 _) _ _ k)) hM hM2

end
end Vk04

namespace Vk04
open PySem PySem.Spec PyProof.Rows L2 Vx
section
variable {P : Program} {w : World} {K : PySem.W.Frag} {mg : Str → Option Value} {base : Heap}
/-- a column of the inverse, from lo on -/
structure ColOk (q : Int) (n lo : Nat) (A : Fm) (d : Nat) (g : Nat → Int) : Prop where
  res : ∀ i, lo ≤ i → i < n → 0 ≤ g i ∧ g i < q
  low : ∀ i, lo ≤ i → i < n → d < i → g i = 0
  one : lo ≤ d → g d = 1
  eq : ∀ i, lo ≤ i → i < n → Cg q (sm n fun k => A i k * g k) (dl i d)
theorem colOk_step {q : Int} {n i d : Nat} {A : Fm} {g : Nat → Int} (hq : 1 < q) (hA : Ut n A) (hi : i < n) (h : ColOk q n (i + 1) A d g) :
    ColOk q n i A d (fun k => if k = i then (dl i d - sm (n - (i + 1)) fun e => A i (i + 1 + e) * g (i + 1 + e)) % q else g k) := by
  have tot : d ≤ i → (sm (n - (i + 1)) fun e => A i (i + 1 + e) * g (i + 1 + e)) = 0 := fun hd => sm_zero' fun e he => by
    rw [h.low (i + 1 + e) (by omega) (by omega) (by omega), Int.mul_zero]
  refine ⟨fun k hk hn => ?_, fun k hk hn hd => ?_, fun hd => ?_, fun k hk hn => ?_⟩
  · show 0 ≤ (if k = i then _ else g k) ∧ (if k = i then _ else g k) < q
    by_cases e : k = i
    · rw [if_pos e]; exact ⟨Int.emod_nonneg _ (by omega), Int.emod_lt_of_pos _ (by omega)⟩
    · rw [if_neg e]; exact h.res k (by omega) hn
  · show (if k = i then _ else g k) = 0
    by_cases e : k = i
    · rw [if_pos e, tot (by omega), show dl i d = 0 from if_neg (by omega)]; rfl
    · rw [if_neg e]; exact h.low k (by omega) hn hd
  · show (if d = i then _ else g d) = 1
    by_cases e : d = i
    · rw [if_pos e, tot (by omega), show dl i d = 1 from if_pos e.symm]; exact Int.emod_eq_of_lt (by decide) hq
    · rw [if_neg e]; exact h.one (by omega)
  · by_cases e : k = i
    · subst e
      rw [sm_split (i := k) (by omega) fun c hc => by rw [(hA k c hn (by omega)).1 hc, Int.zero_mul]]
      obtain ⟨m, hm⟩ : ∃ m, n - k = m + 1 := ⟨n - k - 1, by omega⟩
      rw [hm, sm_head]
      show Cg q (A k (k + 0) * (if k + 0 = k then _ else g (k + 0)) + sm m fun c => A k (k + (c + 1)) * (if k + (c + 1) = k then _ else g (k + (c + 1)))) (dl k d)
      rw [if_pos (Nat.add_zero k), Nat.add_zero, (hA k k hn hn).2 rfl, Int.one_mul]
      have e2 : (sm m fun c => A k (k + (c + 1)) * (if k + (c + 1) = k then (dl k d - sm (n - (k + 1)) fun e => A k (k + 1 + e) * g (k + 1 + e)) % q else g (k + (c + 1)))) = sm (n - (k + 1)) fun e => A k (k + 1 + e) * g (k + 1 + e) := by
        rw [show n - (k + 1) = m by omega]
        refine sm_congr fun c hc => ?_
        rw [if_neg (by omega), show k + (c + 1) = k + 1 + c by omega]
      rw [e2]
      have z := (Cg.mod q (dl k d - sm (n - (k + 1)) fun e => A k (k + 1 + e) * g (k + 1 + e))).add (Cg.refl q (sm (n - (k + 1)) fun e => A k (k + 1 + e) * g (k + 1 + e)))
      exact z.trans (.of_eq (by omega))
    · refine (Cg.of_eq (sm_congr fun c hc => ?_)).trans (h.eq k (by omega) hn)
      show A k c * (if c = i then _ else g c) = A k c * g c
      by_cases e2 : c = i
      · rw [(hA k c hn hc).1 (by omega), Int.zero_mul, Int.zero_mul]
      · rw [if_neg e2]
/-- columns made -/
def Cols (q : Int) (n : Nat) (A : Fm) (H H' : Hp) (C : Addr) (j : Nat) : Prop := ∃ (cs : List Addr) (G : Nat → Nat → Int), H' C = some (.lst (cs.map V.ref)) ∧ cs.length = j ∧ (∀ (d : Nat) (t : Addr), cs[d]? = some t → H' t = some (.lst ((fnRow n (G d)).map V.int)) ∧ t ≠ C) ∧ ∀ d, d < j → ColOk q n 0 A d (G d)
def sp_law_solved (K : PySem.W.Frag) : Sp := fun vs H Q _ => ∃ (v : V) (q : Int) (n : Nat) (M : Mx), vs = [v, .int q] ∧ Dp K H v (mat M) ∧ UT q n M ∧ 1 < q ∧ q ≤ 1000 ∧ n ≤ 100 ∧ ∀ (a : Addr) (H' : Hp) (B : Mx), Same H H' → Dp K H' (.ref a) (mat B) → InvOf q n (ent M) B → Q (.ref a) H'

abbrev s_law_solved : Stmt := top 14
theorem sc_law_solved : FnScope ["rows", "q", "length", "columns", "j", "column", "i", "total", "k"] ["rows", "q"] (defScope s_law_solved) := ⟨rfl, rfl, rfl, by decide +kernel, rfl, by decide +kernel, by decide +kernel⟩
theorem ok_law_solved {f : Addr} {fd : FuncData} (F : Fun K "_law_solved" "_law_solved" s_law_solved f fd) (m_len : mg "len" = none) (m_range : mg "range" = none) (m_tuple : mg "tuple" = none) (m_sum : mg "sum" = none) (m_int : mg "int" = none) : FnG P w K mg base CX0 1 f fd ["rows", "q"] (sp_law_solved K) := by
  refine okG F sc_law_solved (fun vs H Q E h => ?_) (fun cdv A' o s H vs Q E hr h => ?_)
  · obtain ⟨v, q, n, M, rfl, _⟩ := h
    rfl
  obtain ⟨v, q, n, M, rfl, hM, u, hq, hq2, hn, done⟩ := h
  obtain ⟨a, ps, rfl, hS, hl, hrow⟩ := mat_refs hM u.s
  refine ⟨_, (pss_cons (ps_set (i := 2) sc_law_solved.nd rfl (Or.inr rfl) (pe_callB call_len_seq (by rfl) m_len (by decide +kernel) (pa_cons (pv 0) pa_nil)))
      (pss_cons (ps_set (i := 3) sc_law_solved.nd rfl (Or.inr rfl) (pe_lst pa_nil))
      (pss_cons (ps_for PassesOwn.never rfl (pi_range1 rfl m_range (pa_cons (pv 2) pa_nil)) (pg_name (i := 4) sc_law_solved.nd rfl (Or.inl rfl)) (pss_cons (ps_set (i := 5) sc_law_solved.nd rfl (Or.inr rfl) (pe_op op_rep (pe_lst (pa_cons pe_int pa_nil)) (pv 2)))
      (pss_cons (ps_for PassesOwn.never rfl (pi_range3 rfl m_range (pa_cons (pe_op op_sub (pv 2) pe_int) (pa_cons (pe_un un_neg pe_int) (pa_cons (pe_un un_neg pe_int) pa_nil)))) (pg_name (i := 6) sc_law_solved.nd rfl (Or.inr rfl)) (pss_cons (ps_set (i := 7) sc_law_solved.nd rfl (Or.inl rfl) (pe_callB (cr_sum rfl) (by rfl) m_sum (by decide +kernel) (pa_cons (pe_lc (own := [("k", 8)]) (g := (gName 8)) (by rfl) sc_law_solved.nd (pi_range2 rfl m_range (pa_cons (pe_op op_add (pv 6) pe_int) (pa_cons (pv 2) pa_nil))) (blkOk_by (own := [("k", 8)]) (by kernel_rfl)) (fun _ _ _ _ _ => (pg_name (i := 8) sc_law_solved.nd rfl (Or.inl rfl))) (fun _ _ _ _ _ => pts_nil) (fun _ _ _ _ _ => (pe_op op_mul (pe_ix (ix_tupK K) (pe_ix (ix_tupK K) (pv 0) (pv 6) (fun _ _ => rfl)) (pv 8) (fun _ _ => rfl)) (pe_ix (ix_listK K) (pv 5) (pv 8) (fun _ _ => rfl))))) pa_nil)))
      (pss_one (ps_asg (pe_op op_mod (pe_op op_sub (pe_callTy call_int1 (by rfl) m_int (by decide +kernel) (pa_cons (pe_cmpR op_eq (pv 6) (pv 4) (nomark _)) pa_nil)) (pv 7)) (pv 1)) (pg_sub (pv 5) (pv 6) set_list)))))
      (pss_one (ps_expr (pe_bm PySem.F.plainAttrs_list PySem.F.slot_list_append PySem.F.type_list_append mt_append (pv 3) (pa_cons (pv 5) pa_nil)))))))
      (pss_one (ps_ret (pe_callTy call_tuple_of (by rfl) m_tuple (by decide +kernel) (pa_cons (pe_lc (own := [("i", 6)]) (g := (gName 6)) (by rfl) sc_law_solved.nd (pi_range1 rfl m_range (pa_cons (pv 2) pa_nil)) (blkOk_by (own := [("i", 6)]) (by kernel_rfl)) (fun _ _ _ _ _ => (pg_name (i := 6) sc_law_solved.nd rfl (Or.inr rfl))) (fun _ _ _ _ _ => pts_nil) (fun _ _ _ _ _ => (pe_callTy (call_tuple_ofK K) (by rfl) m_tuple (by decide +kernel) (pa_cons (pe_lc (own := [("j", 4)]) (g := (gName 4)) (by rfl) sc_law_solved.nd (pi_range1 rfl m_range (pa_cons (pv 2) pa_nil)) (blkOk_by (own := [("j", 4)]) (by kernel_rfl)) (fun _ _ _ _ _ => (pg_name (i := 4) sc_law_solved.nd rfl (Or.inl rfl))) (fun _ _ _ _ _ => pts_nil) (fun _ _ _ _ _ => (pe_ix (ix_listK K) (pe_ix (ix_listK K) (pv 3) (pv 4) (fun _ _ => rfl)) (pv 6) (fun _ _ => rfl)))) pa_nil)))) pa_nil))))))), ?_⟩
  refine ⟨_, rfl, a, _, rfl, .inr hS, ?_⟩
  rw [List.length_map, hl]
  refine ⟨Nat.zero_le _, fun C hC => ?_⟩
  refine ⟨_, rfl, _, rfl, by omega, by omega, ?_⟩
  rw [Int.toNat_natCast]
  refine for_range (fun j σ' H' => Same H H' ∧ Cols q n (ent M) H H' C j ∧ ∃ x4 x5 x6 x7 x8, σ' = [some (.ref a), some (.int q), some (.int (n : Int)), some (.ref C), x4, x5, x6, x7, x8]) ?_ ?_ ?_
  · exact ⟨same_new hC _, ⟨[], fun _ _ => 0, upd_same, rfl, fun d t e => by simp at e, fun d e => absurd e (by omega)⟩, _, _, _, _, _, rfl⟩
  · rintro j σ' H' hj ⟨g, ⟨cs, G, eC, cl, ct, ck⟩, x4, x5, x6, x7, x8, rfl⟩
    rw [show (0 : Int) + (j : Int) = (j : Int) by omega]
    refine ⟨(by show 1 ≤ sizeLine; decide), fun l hl0 => ⟨_, rfl, l, (n : Int), _, rfl, rfl, upd_same, by omega, by omega, ?_, fun e he => ?_⟩⟩
    · show 1 * _ ≤ _
      rw [Int.toNat_natCast, Nat.one_mul]
      exact Nat.le_of_lt (small1000 (by omega))
    rw [Int.toNat_natCast, flat_rep, show List.replicate n (0 : Int) = fnRow n (fun _ => 0) by unfold fnRow; rw [List.map_const', List.length_range]] 
    have g1 := g.trans (same_new hl0 (.lst [V.int 0]))
    have e0 : H e = none := Same.free g1 he
    have keep1 : ∀ t o, H' t = some o → upd H' l (.lst [V.int 0]) t = some o := fun t o h => same_new hl0 _ t o h
    have eC1 := keep1 _ _ eC
    generalize hH1 : upd H' l (.lst [V.int 0]) = H1 at *
    have eN : e ≠ C := fun z => by rw [z, eC1] at he; cases he
    refine ⟨_, rfl, _, _, rfl, rfl, _, rfl, _, rfl, _, _, _, _, rfl, RgC.neg (by omega) (by omega) (by omega) (by omega), ?_⟩
    rw [show ((n : Int) - 1 - -1).toNat = n by omega]
    refine for_rangeC (fun m σ' H2 => Same H1 H2 ∧ (∃ gg : Nat → Int, H2 e = some (.lst ((fnRow n gg).map V.int)) ∧ ColOk q n (n - m) (ent M) j gg) ∧ ∃ x6 x7, σ' = [some (.ref a), some (.int q), some (.int (n : Int)), some (.ref C), some (.int (j : Int)), some (.ref e), x6, x7, x8]) ?_ ?_ ?_
    · exact ⟨same_new he _, ⟨_, upd_same, ⟨fun i h1 h2 => absurd h1 (by omega), fun i h1 h2 => absurd h1 (by omega), fun h1 => absurd h1 (by omega), fun i h1 h2 => absurd h1 (by omega)⟩⟩, _, _, rfl⟩
    · rintro m σ' H2 hm ⟨s2, ⟨gg, eE, ok⟩, y6, y7, rfl⟩
      obtain ⟨i, hi⟩ : ∃ i, i = n - 1 - m := ⟨_, rfl⟩
      have hin : i < n := by omega
      have e1 : (n : Int) - 1 + ((m : Nat) : Int) * -1 = ((i : Nat) : Int) := by omega
      rw [e1]
      rw [show n - m = i + 1 by omega] at ok
      have hS2 := Same.seqT (g1.trans s2) hS
      obtain ⟨t, et⟩ : ∃ t, ps[i]? = some t := ⟨_, List.getElem?_eq_getElem (by omega)⟩
      have hT2 := Same.seqT (g1.trans s2) (hrow i t et)
      refine ⟨_, rfl, _, _, rfl, rfl, _, rfl, _, _, rfl, ⟨by omega, by omega, by omega, by omega⟩, fun D hD => lc_range (fun c H3 => Same H2 H3 ∧ H3 D = some (.lst ((fnRow c fun d => ent M i (i + 1 + d) * gg (i + 1 + d)).map V.int))) ⟨same_new hD _, upd_same⟩ (fun c H3 hc p3 => ⟨rfl, ?_⟩) (fun H3 p3 => ?_)⟩
      · obtain ⟨s3, e3⟩ := p3
        have hc2 : i + 1 + c < n := by omega
        have bd := u.r i (i + 1 + c) hin hc2
        rw [show (i : Int) + 1 + (c : Int) = ((i + 1 + c : Nat) : Int) by omega]
        refine ⟨_, rfl, _, rfl, a, _, _, _, rfl, rfl, Same.seqT s3 hS2, atI_nat (by rw [List.getElem?_map, et]; rfl), _, rfl, t, _, _, _, rfl, rfl, Same.seqT s3 hT2, at_of (fnRow_get hc2), _, rfl, _, rfl, e, _, _, _, rfl, rfl, SqL.of (s3 _ _ eE), at_of (fnRow_get hc2), _, _, rfl, rfl, .inl ⟨by omega, by omega⟩, ?_⟩
        refine ⟨_, e3, ?_, same_mut s3 hD, ?_⟩
        · rw [List.length_map, fnRow_len]; exact small1000 (by omega)
        · rw [upd_same, fnRow_succ, List.map_append]; rfl
      · obtain ⟨s3, e3⟩ := p3
        rw [show ((n : Int) - ((i : Int) + 1)).toNat = n - (i + 1) by omega] at e3
        refine ⟨D, _, rfl, SqL.of e3, ?_⟩
        rw [show (fnRow (n - (i + 1)) fun d => ent M i (i + 1 + d) * gg (i + 1 + d)).sum = sm (n - (i + 1)) fun d => ent M i (i + 1 + d) * gg (i + 1 + d) from sum_sm]
        have dli : (if decide (V.int (i : Int) = V.int (j : Int)) = true then (1 : Int) else 0) = dl i j := by
          by_cases c : i = j
          · subst c; rw [decide_eq_true rfl, show dl i i = 1 from if_pos rfl]; rfl
          · rw [decide_eq_false (fun z => c (by injection z with z; omega)), show dl i j = 0 from if_neg c]; rfl
        refine ⟨_, rfl, _, rfl, rfl, .inr ⟨_, rfl, _, rfl, _, _, rfl, rfl, _, rfl, _, _, rfl, rfl, (by omega), ?_⟩⟩
        rw [dli]
        refine ⟨_, rfl, _, rfl, e, _, _, i, rfl, rfl, s3 _ _ eE, Evl.ixN_nat (by rw [List.length_map, fnRow_len]; exact hin), ?_⟩
        refine ⟨same_mut (s2.trans s3) he, ⟨_, by rw [upd_same, fnRow_set (g := fun k => if k = i then (dl i j - sm (n - (i + 1)) fun e => ent M i (i + 1 + e) * gg (i + 1 + e)) % q else gg k) hin (if_pos rfl) fun k _ hk => if_neg hk], ?_⟩, _, _, rfl⟩
        rw [show n - (m + 1) = i by omega]
        exact colOk_step hq u.u hin ok
    · rintro σ' H2 ⟨s2, ⟨gg, eE, ok⟩, y6, y7, rfl⟩
      rw [Nat.sub_self] at ok
      refine ⟨_, rfl, .inl ⟨rfl, _, SqL.of (s2 _ _ eC1)⟩, _, rfl, C, _, _, rfl, rfl, s2 _ _ eC1, ?_, ?_⟩
      · rw [List.length_map, cl]; exact small1000 (by omega)
      have fe : ∀ (d : Nat) (t : Addr), cs[d]? = some t → t ≠ e := fun d t ht z => by
        have := keep1 _ _ (ct d t ht).1
        rw [z, he] at this; cases this
      refine ⟨same_mut (g1.trans s2) hC, ⟨cs ++ [e], fun d => if d = j then gg else G d, by rw [upd_same, List.map_append]; rfl, by rw [List.length_append, cl]; rfl, fun d t ht => ?_, fun d hd => ?_⟩, _, _, _, _, _, rfl⟩
      · by_cases hd : d = j
        · subst hd
          rw [List.getElem?_append_right (by omega), cl, Nat.sub_self] at ht
          obtain rfl : e = t := Option.some.inj ht
          refine ⟨?_, eN⟩
          rw [upd_ne eN]
          show _ = some (HO.lst ((fnRow n (if d = d then gg else G d)).map V.int))
          rw [if_pos rfl]
          exact eE
        · have hl2 : d < cs.length := by
            have := (List.getElem?_eq_some_iff.mp ht).1
            rw [List.length_append, cl] at this
            have : d < j + 1 := this
            omega
          rw [List.getElem?_append_left hl2] at ht
          obtain ⟨c1, c2⟩ := ct d t ht
          refine ⟨?_, c2⟩
          rw [upd_ne c2]
          show _ = some (HO.lst ((fnRow n (if d = j then gg else G d)).map V.int))
          rw [if_neg hd]
          exact s2 _ _ (keep1 _ _ c1)
      · show ColOk q n 0 (ent M) d (if d = j then gg else G d)
        by_cases e : d = j
        · rw [if_pos e, e]; exact ok
        · rw [if_neg e]; exact ck d (by omega)
  · rintro σ' H' ⟨g, ⟨cs, G, eC, cl, ct, ck⟩, x4, x5, x6, x7, x8, rfl⟩
    have col : ∀ d, d < n → ∃ t : Addr, (cs.map V.ref)[d]? = some (.ref t) ∧ H' t = some (.lst ((fnRow n (G d)).map V.int)) := fun d hd => by
      have e : cs[d]? = some (cs[d]'(by omega)) := List.getElem?_eq_getElem (by omega)
      exact ⟨_, by rw [List.getElem?_map, e]; rfl, (ct d _ e).1⟩
    refine ⟨_, rfl, _, rfl, by omega, by omega, fun D hD => lc_rangeD (K := K) (Same H') (fun k d => d = rowD (fnRow n fun j => G j k)) (by omega) (same_new hD _) (fun _ => rfl) ?_ ?_⟩
    · intro i H2 hi m Q' q'
      rw [Int.toNat_natCast] at hi
      obtain ⟨acc, ds, eD, _, _, _, _, g2⟩ := id m
      refine ⟨_, rfl, _, rfl, by omega, by omega, fun W hW => lc_rangeD (K := K) (Same H2) (fun k d => d = .int (G k i)) (by omega) (same_new hW _) (fun _ => rfl) ?_ ?_⟩
      · intro j H3 hj m2 Q2 q2
        rw [Int.toNat_natCast] at hj
        obtain ⟨acc2, ds2, eW, _, _, _, _, g3⟩ := id m2
        obtain ⟨t, et, eT⟩ := col j hj
        have s5 := g2.trans g3
        rw [show (0 : Int) + (j : Int) = (j : Int) by omega, show (0 : Int) + (i : Int) = (i : Int) by omega]
        refine ⟨_, rfl, _, rfl, C, _, _, _, rfl, rfl, SqL.of (s5 _ _ eC), atI_nat et, _, rfl, t, _, _, _, rfl, rfl, SqL.of (s5 _ _ eT), at_of (fnRow_get hi), ?_⟩
        exact q2 _ _ _ (.same (Same.refl _) eW) rfl (.int _) rfl fun _ => same_mut g3 hW
      · rintro H3 ⟨acc2, ds2, eW, k2, no2, hl2, hk2, g3⟩
        rw [Int.toNat_natCast] at hl2
        have e2 := made_eq (g := fun k => PyData.int (G k i)) hl2 hk2
        have e3 : ds2 = (fnRow n fun j => G j i).map PyData.int := by rw [e2, fnRow, List.map_map]; rfl
        subst e3
        have e4 := dp_ints_eq k2
        subst e4
        refine ⟨W, _, rfl, .inl ⟨SqL.of eW, fun l hl3 => ?_⟩⟩
        have s5 := g3.trans (same_new hl3 (.tup ((fnRow n fun j => G j i).map V.int)))
        exact q' _ _ _ (.same s5 eD) (noL_row _) (dp_row (SqT.of upd_same)) rfl fun _ => same_mut (g2.trans s5) hD
    · rintro H2 ⟨acc, ds, eD, k, no, hlen, hk, g2⟩
      rw [Int.toNat_natCast] at hlen
      have e2 := made_eq (g := fun k => rowD (fnRow n fun j => G j k)) hlen hk
      have e3 : ds = (fnMx n fun i j => G j i).map rowD := by rw [e2, fnMx, List.map_map]; rfl
      subst e3
      refine ⟨D, _, rfl, .inl ⟨SqL.of eD, fun l hl3 => ?_⟩⟩
      refine done l _ (fnMx n fun i j => G j i) (g.trans (g2.trans (same_new hl3 _))) (.tup (SqT.of upd_same) (dpAll_same (same_new hl3 _) _ _ k)) ⟨⟨fnMx_sq _ _, fun i j hi hj => ?_, fun i j hi hj => ⟨fun l => ?_, fun l => ?_⟩⟩, fun i j hi hj => ?_⟩
      · rw [fnMx_ent _ hi hj]; exact (ck j hj).res i (Nat.zero_le _) hi
      · rw [fnMx_ent _ hi hj]; exact (ck j hj).low i (Nat.zero_le _) hi l
      · subst l; rw [fnMx_ent _ hi hj]; exact (ck _ hj).one (Nat.zero_le _)
      · refine (Cg.of_eq (sm_congr fun l hl3 => ?_)).trans ((ck j hj).eq i (Nat.zero_le _) hi)
        rw [fnMx_ent _ hl3 hj]

end
end Vk04

namespace Vk04
open PySem PySem.Spec PyProof.Rows L2 Vx
section
variable {P : Program} {w : World} {K : PySem.W.Frag} {mg : Str → Option Value} {base : Heap}
theorem ent_prod (q : Int) (n : Nat) (A B : Fm) : Eqm q n (ent (prod q n A B)) (mm n A B) := fun i j hi hj => by
  unfold prod
  rw [fnMx_ent _ hi hj]
  exact Cg.mod _ _
theorem prod_rs {q : Int} {n : Nat} {A B : Fm} (hq : 0 < q) : Rs q n (prod q n A B) := fun i j hi hj => by
  unfold prod
  rw [fnMx_ent _ hi hj]
  exact ⟨Int.emod_nonneg _ (by omega), Int.emod_lt_of_pos _ hq⟩
theorem prod_sq {q : Int} {n : Nat} {A B : Fm} : Sq n (prod q n A B) := fnMx_sq _ _
theorem prod_eq {q : Int} {n : Nat} {A B C D : Fm} (h : Eqm q n (mm n A B) (mm n C D)) : prod q n A B = prod q n C D :=
  mx_ext prod_sq prod_sq fun i j hi hj => by
    unfold prod
    rw [fnMx_ent _ hi hj, fnMx_ent _ hi hj]
    exact h i j hi hj
theorem prod_assoc (q : Int) (n : Nat) (A B C : Fm) : prod q n (ent (prod q n A B)) C = prod q n A (ent (prod q n B C)) :=
  prod_eq (((ent_prod q n A B).mm (.refl q n C)).trans ((mm_assocE q n A B C).trans ((Eqm.refl q n A).mm (ent_prod q n B C).symm)))
theorem ut_prod {q : Int} {n : Nat} {A B : Mx} (hq : 1 < q) (a : UT q n A) (b : UT q n B) : UT q n (prod q n (ent A) (ent B)) := by
  refine ⟨prod_sq, prod_rs (by omega), fun i j hi hj => ⟨fun l => ?_, fun l => ?_⟩⟩
  · unfold prod
    rw [fnMx_ent _ hi hj]
    have : mm n (ent A) (ent B) i j = 0 := sm_zero' fun k hk => by
      by_cases c : k < i
      · rw [(a.u i k hi hk).1 c, Int.zero_mul]
      · rw [(b.u k j hk hj).1 (by omega), Int.mul_zero]
    rw [this]; rfl
  · subst l
    unfold prod
    rw [fnMx_ent _ hi hi]
    have : mm n (ent A) (ent B) j j = 1 := by
      show sm n (fun k => ent A j k * ent B k j) = 1
      rw [sm_one hi fun k hk ne => by
        by_cases c : k < j
        · rw [(a.u j k hi hk).1 c, Int.zero_mul]
        · rw [(b.u k j hk hj).1 (by omega), Int.mul_zero]]
      rw [(a.u j j hi hi).2 rfl, (b.u j j hi hi).2 rfl]; rfl
    rw [this]
    exact Int.emod_eq_of_lt (by decide) hq
theorem inv_prod {q : Int} {n : Nat} {A B X Y : Mx} (hq : 1 < q) (a : InvOf q n (ent A) X) (b : InvOf q n (ent B) Y) : InvOf q n (ent (prod q n (ent A) (ent B))) (prod q n (ent Y) (ent X)) := by
  refine ⟨ut_prod hq b.u a.u, ?_⟩
  have e1 : Eqm q n (mm n (mm n (ent A) (ent B)) (mm n (ent Y) (ent X))) dl := by
    have h1 := mm_assocE q n (ent A) (ent B) (mm n (ent Y) (ent X))
    have h2 : Eqm q n (mm n (ent B) (mm n (ent Y) (ent X))) (ent X) := (mm_assocE q n (ent B) (ent Y) (ent X)).symm.trans ((Eqm.mm b.r (.refl q n (ent X))).trans (mm_oneL q n (ent X)))
    exact h1.trans (((Eqm.refl q n (ent A)).mm h2).trans a.r)
  exact (Eqm.mm (ent_prod q n (ent A) (ent B)) (ent_prod q n (ent Y) (ent X))).trans e1
theorem inv_inv {q : Int} {n : Nat} {A X : Mx} (u : UT q n A) (a : InvOf q n (ent A) X) : InvOf q n (ent X) A := ⟨u, a.left⟩
/-- three of a kind -/
theorem data3 {K : PySem.W.Frag} {H : Hp} {ds : List PyData} {acc : List V} {P : Mx → Prop} (h : DpAll K H acc ds) (hl : ds.length = 3) (hk : ∀ (k : Nat) d, ds[k]? = some d → ∃ M, d = mat M ∧ P M) :
    ∃ (v1 v2 v3 : V) (A B C : Mx), acc = [v1, v2, v3] ∧ Dp K H v1 (mat A) ∧ Dp K H v2 (mat B) ∧ Dp K H v3 (mat C) ∧ P A ∧ P B ∧ P C := by
  match ds, h, hl with
  | [d1, d2, d3], .cons a (.cons b (.cons c .nil)), _ =>
    obtain ⟨A, rfl, pA⟩ := hk 0 d1 rfl
    obtain ⟨B, rfl, pB⟩ := hk 1 d2 rfl
    obtain ⟨C, rfl, pC⟩ := hk 2 d3 rfl
    exact ⟨_, _, _, A, B, C, rfl, a, b, c, pA, pB, pC⟩
theorem gMix {K : PySem.W.Frag} {H : Hp} {t : Addr} {v1 v2 v3 : V} {i j l : Nat} {σ : L2.St} {Q : L2.St → Hp → Prop} (hT : SqT K H t [v1, v2, v3] ∨ SqL K H t [v1, v2, v3]) (h : Q (((σ.set i (some v1)).set j (some v2)).set l (some v3)) H) :
    gOr (gTup K 3 (gCons (gName i) (gCons (gName j) (gCons (gName l) gNil)))) (gLst K 3 (gCons (gName i) (gCons (gName j) (gCons (gName l) gNil)))) (.ref t) σ H Q := by
  rcases hT with hT | hT
  · exact .inl ⟨t, _, rfl, hT, rfl, _, _, rfl, _, _, rfl, _, _, rfl, rfl, h⟩
  · exact .inr ⟨t, _, rfl, hT, rfl, _, _, rfl, _, _, rfl, _, _, rfl, rfl, h⟩
/-- three matrices of residues -/
def Tr (K : PySem.W.Frag) (H : Hp) (q : Int) (n : Nat) (x : V) : Prop := ∃ (t : Addr) (v1 v2 v3 : V) (A B C : Mx), x = .ref t ∧ (SqT K H t [v1, v2, v3] ∨ SqL K H t [v1, v2, v3]) ∧ Dp K H v1 (mat A) ∧ Dp K H v2 (mat B) ∧ Dp K H v3 (mat C) ∧ (Sq n A ∧ Rs q n A) ∧ (Sq n B ∧ Rs q n B) ∧ (Sq n C ∧ Rs q n C)
theorem Tr.same {K : PySem.W.Frag} {H H' : Hp} {q : Int} {n : Nat} {x : V} (s : Same H H') (h : Tr K H q n x) : Tr K H' q n x := by
  obtain ⟨t, v1, v2, v3, A, B, C, e, hT, h1, h2, h3, h4⟩ := h
  exact ⟨t, v1, v2, v3, A, B, C, e, hT.imp (Same.seqT s) (fun z => s.seq z), dp_same s _ _ h1, dp_same s _ _ h2, dp_same s _ _ h3, h4⟩
def sp_law (K : PySem.W.Frag) : Sp := fun vs H Q _ => ∃ (a : Addr) (ns : List Int), vs = [.ref a] ∧ SqL K H a (ns.map V.int) ∧ ns.length ≤ 63 ∧ ∀ H', Q (.bl true) H'

abbrev s_law : Stmt := top 15
theorem sc_law : FnScope ["script", "pen", "turn", "q", "length", "a", "b", "c", "k", "x", "y", "z", "left", "first", "second"] ["script"] (defScope s_law) := ⟨rfl, rfl, rfl, by decide +kernel, rfl, by decide +kernel, by decide +kernel⟩
theorem ok_law {f : Addr} {fd : FuncData} (F : Fun K "law" "law" s_law f fd) (m_range : mg "range" = none) (m_max : mg "max" = none) (m_min : mg "min" = none) (m_len : mg "len" = none) (c__law_pen : Cal P w K mg base "_law_pen" 1 ["script"] (sp_law_pen K)) (c__law_modulus : Cal P w K mg base "_law_modulus" 3 ["pen"] (sp_law_modulus K)) (c__law_unitriangular : Cal P w K mg base "_law_unitriangular" 3 ["pen", "q", "length_here"] (sp_law_unitriangular K)) (c_multiply_matrices : Cal P w K mg base "multiply_matrices" 2 ["one", "other", "modulus"] (sp_multiply_matrices K)) (c_invert_unitriangular : Cal P w K mg base "invert_unitriangular" 3 ["matrix", "modulus"] (sp_invert_unitriangular K)) (c_identity_matrix : Cal P w K mg base "identity_matrix" 2 ["size"] (sp_identity_matrix K)) (c__law_draw : Cal P w K mg base "_law_draw" 2 ["pen", "bound"] (sp_law_draw K)) (c__law_matrix : Cal P w K mg base "_law_matrix" 3 ["pen", "q", "length_here"] (sp_law_matrix K)) (c__law_solved : Cal P w K mg base "_law_solved" 1 ["rows", "q"] (sp_law_solved K)) : FnG P w K mg base CX0 4 f fd ["script"] (sp_law K) := by
  obtain ⟨f__law_pen, fd__law_pen, G__law_pen, m__law_pen, k__law_pen, b__law_pen⟩ := c__law_pen.ex
  obtain ⟨f__law_modulus, fd__law_modulus, G__law_modulus, m__law_modulus, k__law_modulus, b__law_modulus⟩ := c__law_modulus.ex
  obtain ⟨f__law_unitriangular, fd__law_unitriangular, G__law_unitriangular, m__law_unitriangular, k__law_unitriangular, b__law_unitriangular⟩ := c__law_unitriangular.ex
  obtain ⟨f_multiply_matrices, fd_multiply_matrices, G_multiply_matrices, m_multiply_matrices, k_multiply_matrices, b_multiply_matrices⟩ := c_multiply_matrices.ex
  obtain ⟨f_invert_unitriangular, fd_invert_unitriangular, G_invert_unitriangular, m_invert_unitriangular, k_invert_unitriangular, b_invert_unitriangular⟩ := c_invert_unitriangular.ex
  obtain ⟨f_identity_matrix, fd_identity_matrix, G_identity_matrix, m_identity_matrix, k_identity_matrix, b_identity_matrix⟩ := c_identity_matrix.ex
  obtain ⟨f__law_draw, fd__law_draw, G__law_draw, m__law_draw, k__law_draw, b__law_draw⟩ := c__law_draw.ex
  obtain ⟨f__law_matrix, fd__law_matrix, G__law_matrix, m__law_matrix, k__law_matrix, b__law_matrix⟩ := c__law_matrix.ex
  obtain ⟨f__law_solved, fd__law_solved, G__law_solved, m__law_solved, k__law_solved, b__law_solved⟩ := c__law_solved.ex
  refine okG F sc_law (fun vs H Q E h => ?_) (fun cdv A' o s H vs Q E hr h => ?_)
  · obtain ⟨a, ns, rfl, _⟩ := h
    rfl
  obtain ⟨a, ns, rfl, hS, hlen, done⟩ := h
  refine ⟨_, (pss_cons (ps_set (i := 1) sc_law.nd rfl (Or.inr rfl) (ge_call G__law_pen (hr.mono (by decide)) (by rfl) m__law_pen k__law_pen b__law_pen .nil pass0 (pa_cons (pv 0) pa_nil)))
      (pss_cons (ps_for PassesOwn.never rfl (pi_range1 rfl m_range (pa_cons (pe_callB (call_max2 rfl) (by rfl) m_max (by decide +kernel) (pa_cons pe_int (pa_cons (pe_callB (call_min2 rfl) (by rfl) m_min (by decide +kernel) (pa_cons pe_int (pa_cons (pe_callB call_len_seq (by rfl) m_len (by decide +kernel) (pa_cons (pv 0) pa_nil)) pa_nil))) pa_nil))) pa_nil)) (pg_name (i := 2) sc_law.nd rfl (Or.inl rfl)) (pss_cons (ps_asg (pe_tup (pa_cons (ge_call G__law_modulus (hr.mono (by decide)) (by rfl) m__law_modulus k__law_modulus b__law_modulus .nil pass0 (pa_cons (pv 1) pa_nil)) (pa_cons (pe_op op_add pe_int (ge_call G__law_draw (hr.mono (by decide)) (by rfl) m__law_draw k__law_draw b__law_draw .nil pass0 (pa_cons (pv 1) (pa_cons pe_int pa_nil)))) pa_nil))) (pg_tup rfl (pgs_cons (pg_name (i := 3) sc_law.nd rfl (Or.inr rfl)) (pgs_cons (pg_name (i := 4) sc_law.nd rfl (Or.inr rfl)) pgs_nil))))
      (pss_cons (ps_asg (pe_lc (own := [("k", 8)]) (g := (gName 8)) (by rfl) sc_law.nd (pi_range1 rfl m_range (pa_cons pe_int pa_nil)) (blkOk_by (own := [("k", 8)]) (by kernel_rfl)) (fun _ _ _ _ _ => (pg_name (i := 8) sc_law.nd rfl (Or.inl rfl))) (fun _ _ _ _ _ => pts_nil) (fun _ _ _ _ _ => (ge_call G__law_unitriangular (hr.mono (by decide)) (by rfl) m__law_unitriangular k__law_unitriangular b__law_unitriangular .nil pass0 (pa_cons (pv 1) (pa_cons (pv 3) (pa_cons (pv 4) pa_nil)))))) (pg_lst rfl (pgs_cons (pg_name (i := 5) sc_law.nd rfl (Or.inl rfl)) (pgs_cons (pg_name (i := 6) sc_law.nd rfl (Or.inl rfl)) (pgs_cons (pg_name (i := 7) sc_law.nd rfl (Or.inl rfl)) pgs_nil)))))
      (pss_cons (ps_for PassesOwn.never rfl (pi_list (pe_lst (pa_cons (pe_tup (pa_cons (pv 5) (pa_cons (pv 6) (pa_cons (pv 7) pa_nil)))) (pa_cons (pe_lc (own := [("k", 8)]) (g := (gName 8)) (by rfl) sc_law.nd (pi_range1 rfl m_range (pa_cons pe_int pa_nil)) (blkOk_by (own := [("k", 8)]) (by kernel_rfl)) (fun _ _ _ _ _ => (pg_name (i := 8) sc_law.nd rfl (Or.inl rfl))) (fun _ _ _ _ _ => pts_nil) (fun _ _ _ _ _ => (ge_call G__law_matrix (hr.mono (by decide)) (by rfl) m__law_matrix k__law_matrix b__law_matrix .nil pass0 (pa_cons (pv 1) (pa_cons (pv 3) (pa_cons (pv 4) pa_nil)))))) pa_nil)))) (pg_or (pg_tup rfl (pgs_cons (pg_name (i := 9) sc_law.nd rfl (Or.inl rfl)) (pgs_cons (pg_name (i := 10) sc_law.nd rfl (Or.inl rfl)) (pgs_cons (pg_name (i := 11) sc_law.nd rfl (Or.inl rfl)) pgs_nil)))) (pg_lst rfl (pgs_cons (pg_name (i := 9) sc_law.nd rfl (Or.inl rfl)) (pgs_cons (pg_name (i := 10) sc_law.nd rfl (Or.inl rfl)) (pgs_cons (pg_name (i := 11) sc_law.nd rfl (Or.inl rfl)) pgs_nil))))) (pss_cons (ps_set (i := 12) sc_law.nd rfl (Or.inl rfl) (ge_call G_multiply_matrices (hr.mono (by decide)) (by rfl) m_multiply_matrices k_multiply_matrices b_multiply_matrices .nil pass0 (pa_cons (ge_call G_multiply_matrices (hr.mono (by decide)) (by rfl) m_multiply_matrices k_multiply_matrices b_multiply_matrices .nil pass0 (pa_cons (pv 9) (pa_cons (pv 10) (pa_cons (pv 3) pa_nil)))) (pa_cons (pv 11) (pa_cons (pv 3) pa_nil)))))
      (pss_one (ps_if (pt_cmpR (op_neD hr.r.units) (pv 12) (ge_call G_multiply_matrices (hr.mono (by decide)) (by rfl) m_multiply_matrices k_multiply_matrices b_multiply_matrices .nil pass0 (pa_cons (pv 9) (pa_cons (ge_call G_multiply_matrices (hr.mono (by decide)) (by rfl) m_multiply_matrices k_multiply_matrices b_multiply_matrices .nil pass0 (pa_cons (pv 10) (pa_cons (pv 11) (pa_cons (pv 3) pa_nil)))) (pa_cons (pv 3) pa_nil)))) (nomark _)) (pss_one (ps_ret pe_bl)) pss_nil))))
      (pss_cons (ps_par (i := 13) (j := 14) (by rfl) sc_law.nd rfl rfl (by decide) rfl rfl (pa_cons (ge_call G_invert_unitriangular (hr.mono (by decide)) (by rfl) m_invert_unitriangular k_invert_unitriangular b_invert_unitriangular .nil pass0 (pa_cons (pv 5) (pa_cons (pv 3) pa_nil))) (pa_cons (ge_call G_invert_unitriangular (hr.mono (by decide)) (by rfl) m_invert_unitriangular k_invert_unitriangular b_invert_unitriangular .nil pass0 (pa_cons (pv 6) (pa_cons (pv 3) pa_nil))) pa_nil)) (by kernel_rfl) (by rfl))
      (pss_cons (ps_if (pt_cmpR (op_neD hr.r.units) (ge_call G_invert_unitriangular (hr.mono (by decide)) (by rfl) m_invert_unitriangular k_invert_unitriangular b_invert_unitriangular .nil pass0 (pa_cons (ge_call G_multiply_matrices (hr.mono (by decide)) (by rfl) m_multiply_matrices k_multiply_matrices b_multiply_matrices .nil pass0 (pa_cons (pv 5) (pa_cons (pv 6) (pa_cons (pv 3) pa_nil)))) (pa_cons (pv 3) pa_nil))) (ge_call G_multiply_matrices (hr.mono (by decide)) (by rfl) m_multiply_matrices k_multiply_matrices b_multiply_matrices .nil pass0 (pa_cons (pv 14) (pa_cons (pv 13) (pa_cons (pv 3) pa_nil)))) (nomark _)) (pss_one (ps_ret pe_bl)) pss_nil)
      (Evl.pss_cut (ps_if (PW.pt (pw_or (pt_cmpR (op_neD hr.r.units) (ge_call G_invert_unitriangular (hr.mono (by decide)) (by rfl) m_invert_unitriangular k_invert_unitriangular b_invert_unitriangular .nil pass0 (pa_cons (pv 13) (pa_cons (pv 3) pa_nil))) (pv 5) (nomark _)) (pw_or1 (pt_cmpR (op_neD hr.r.units) (pv 13) (ge_call G__law_solved (hr.mono (by decide)) (by rfl) m__law_solved k__law_solved b__law_solved .nil pass0 (pa_cons (pv 5) (pa_cons (pv 3) pa_nil))) (nomark _))))) (pss_one (ps_ret pe_bl)) pss_nil)
      (pss_one (ps_if (pt_cmpR (op_neD hr.r.units) (ge_call G_multiply_matrices (hr.mono (by decide)) (by rfl) m_multiply_matrices k_multiply_matrices b_multiply_matrices .nil pass0 (pa_cons (pv 5) (pa_cons (pv 13) (pa_cons (pv 3) pa_nil)))) (ge_call G_identity_matrix (hr.mono (by decide)) (by rfl) m_identity_matrix k_identity_matrix b_identity_matrix .nil pass0 (pa_cons (pv 4) pa_nil)) (nomark _)) (pss_one (ps_ret pe_bl)) pss_nil)))))))))
      (pss_one (ps_ret pe_bl)))), ?_⟩
  refine ⟨_, rfl, a, ns, rfl, hS, fun H0 p s0 hp0 hP => ?_⟩
  have len1 : ((ns.map V.int).length : Int) ≤ 63 := by rw [List.length_map]; omega
  refine ⟨_, rfl, a, _, rfl, .inl (s0.seq hS), _, _, rfl, _, _, rfl, _, rfl, (by split <;> split <;> omega), (by split <;> split <;> omega), ?_⟩
  refine for_range (fun _ σ' H' => Dr p H0 H' ∧ ∃ x2 x3 x4 x5 x6 x7 x8 x9 x10 x11 x12 x13 x14, σ' = [some (.ref a), some (.ref p), x2, x3, x4, x5, x6, x7, x8, x9, x10, x11, x12, x13, x14]) ⟨.refl _ _, none, none, none, none, none, none, none, none, none, none, none, none, none, rfl⟩ ?_ ?_
  · rintro i σ' H' _ ⟨d0, x2, x3, x4, x5, x6, x7, x8, x9, x10, x11, x12, x13, x14, rfl⟩
    have P0 := d0.pen hP
    refine ⟨_, rfl, p, rfl, P0, fun H1 q d1 q0 q1 => ?_⟩
    have P1 := d1.pen P0
    refine ⟨_, rfl, p, 8, rfl, P1, by decide, by decide, fun H2 r d2 r0 r1 => ?_⟩
    have P2 := d2.pen P1
    obtain ⟨n, hn⟩ : ∃ n : Nat, 1 + r = (n : Int) := ⟨(1 + r).toNat, by omega⟩
    have hn8 : n ≤ 8 := by omega
    refine ⟨_, _, rfl, rfl, (by show 2 ≤ sizeLine; decide), fun T0 hT0 => ?_⟩
    have P3 := P2.new hT0 (.tup [V.int q, V.int (1 + r)])
    have d3 := d2.trans (.new hT0 (.tup [V.int q, V.int (1 + r)]))
    have eT0 : SqT K (upd H2 T0 (.tup [V.int q, V.int (1 + r)])) T0 [V.int q, V.int (n : Int)] := by rw [← hn]; exact SqT.of upd_same
    generalize hX3 : upd H2 T0 (.tup [V.int q, V.int (1 + r)]) = H3 at *
    refine ⟨T0, _, rfl, eT0, rfl, _, _, rfl, _, _, rfl, rfl, ?_⟩
    -- three unitriangular ones
    refine ⟨3, rfl, by decide, by decide, fun D hD => lc_rangeD (K := K) (Dr p H3) (fun k d => ∃ M, d = mat M ∧ UT q n M) (by decide) (.new hD _) (fun _ => rfl) ?_ ?_⟩
    · intro k H4 hk m Q' q'
      obtain ⟨acc, ds, eD, _, _, _, _, g⟩ := id m
      have P4 := g.pen P3
      have nD : D ≠ p := P3.free hD
      refine ⟨_, rfl, _, rfl, _, rfl, p, q, n, rfl, P4, q0, q1, by omega, fun t H5 M d5 hM u => ?_⟩
      exact q' _ _ _ (.but d5.but P4.chg eD nD) (noL_mat M) hM ⟨M, rfl, u⟩ fun acc' => (g.trans d5).mut P3 hD
    rintro H4 ⟨acc, ds, eD, hd, no, hlen3, hk, d4⟩
    obtain ⟨va, vb, vc, A, B, C, rfl, hA, hB, hC, uA, uB, uC⟩ := data3 hd (by rw [hlen3]; rfl) hk
    have P4 := d4.pen P3
    refine ⟨D, _, rfl, SqL.of eD, rfl, _, _, rfl, _, _, rfl, _, _, rfl, rfl, ?_⟩
    -- the pairs of three
    refine ⟨_, rfl, _, rfl, _, rfl, (by show 3 ≤ sizeLine; decide), fun T1 hT1 => ?_⟩
    have z1 := same_new hT1 (.tup [va, vb, vc])
    have P5 := P4.same z1
    have hTt : SqT K (upd H4 T1 (.tup [va, vb, vc])) T1 [va, vb, vc] := SqT.of upd_same
    generalize hX5 : upd H4 T1 (.tup [va, vb, vc]) = H5 at *
    refine ⟨3, rfl, by decide, by decide, fun D2 hD2 => lc_rangeD (K := K) (Dr p H5) (fun k d => ∃ M, d = mat M ∧ (Sq n M ∧ Rs q n M)) (by decide) (.new hD2 _) (fun _ => rfl) ?_ ?_⟩
    · intro k H6 hk m Q' q'
      obtain ⟨acc, ds, eD, _, _, _, _, g⟩ := id m
      have P6 := g.pen P5
      have nD : D2 ≠ p := P5.free hD2
      refine ⟨_, rfl, _, rfl, _, rfl, p, q, n, rfl, P6, q0, q1, by omega, fun t H7 M d7 hM m1 r1 => ?_⟩
      exact q' _ _ _ (.but d7.but P6.chg eD nD) (noL_mat M) hM ⟨M, rfl, m1, r1⟩ fun acc' => (g.trans d7).mut P5 hD2
    rintro H6 ⟨acc2, ds2, eD2, hd2, no2, hlen4, hk2, d6⟩
    obtain ⟨wa, wb, wc, A2, B2, C2, rfl, hA2, hB2, hC2, mA2, mB2, mC2⟩ := data3 hd2 (by rw [hlen4]; rfl) hk2
    refine ⟨(by show 2 ≤ sizeLine; decide), fun L hL => ?_⟩
    have z7 := same_new hL (.lst [V.ref T1, V.ref D2])
    have hA7 := dp_same z7 _ _ (dp_but P5.chg d6.but _ _ (noL_mat A) (dp_same z1 _ _ hA))
    have hB7 := dp_same z7 _ _ (dp_but P5.chg d6.but _ _ (noL_mat B) (dp_same z1 _ _ hB))
    have hC7 := dp_same z7 _ _ (dp_but P5.chg d6.but _ _ (noL_mat C) (dp_same z1 _ _ hC))
    have hA27 := dp_same z7 _ _ hA2
    have hB27 := dp_same z7 _ _ hB2
    have hC27 := dp_same z7 _ _ hC2
    have hT7 := Same.seqT z7 (P5.chg.tup d6.but hTt)
    have eD27 := z7 _ _ eD2
    have eL : upd H6 L (.lst [V.ref T1, V.ref D2]) L = some (.lst [V.ref T1, V.ref D2]) := upd_same
    have dd : Dr p H0 (upd H6 L (.lst [V.ref T1, V.ref D2])) := d0.trans (d1.trans (d3.trans (d4.trans ((Dr.same z1).trans (d6.trans (.same z7))))))
    generalize hX7 : upd H6 L (.lst [V.ref T1, V.ref D2]) = H7 at *
    have tr : ∀ (j : Nat) (x : V), ([V.ref T1, V.ref D2] : List V)[j]? = some x → Tr K H7 q n x := by
      intro j x hx
      match j, hx with
      | 0, hx => obtain rfl := Option.some.inj hx; exact ⟨T1, va, vb, vc, A, B, C, rfl, .inl hT7, hA7, hB7, hC7, ⟨uA.s, uA.r⟩, ⟨uB.s, uB.r⟩, ⟨uC.s, uC.r⟩⟩
      | 1, hx => obtain rfl := Option.some.inj hx; exact ⟨D2, wa, wb, wc, A2, B2, C2, rfl, .inr (SqL.of eD27), hA27, hB27, hC27, mA2, mB2, mC2⟩
    have bd : ∀ {M : Mx}, Rs q n M → ∀ i j, i < n → j < n → -1000 ≤ ent M i j ∧ ent M i j ≤ 1000 := fun r i j hi hj => by have := r i j hi hj; omega
    refine ⟨L, rfl, ⟨_, SqL.of eL⟩, for_list (K := K) (a := L) (xs := [V.ref T1, V.ref D2]) (fun _ σ' H' => Same H7 H' ∧ ∃ x9 x10 x11 x12, σ' = [some (.ref a), some (.ref p), some (.int (0 + (i : Int))), some (.int q), some (.int (n : Int)), some va, some vb, some vc, x8, x9, x10, x11, x12, x13, x14]) ⟨Same.refl _, _, _, _, _, rfl⟩ (fun _ _ _ _ p => p.1.seq (SqL.of eL)) ?_ ?_⟩
    · rintro j x ρ h hx ⟨g, y9, y10, y11, y12, rfl⟩
      obtain ⟨t, v1, v2, v3, X, Y, Z, rfl, hT, h1, h2, h3, ⟨sX, rX⟩, ⟨sY, rY⟩, ⟨sZ, rZ⟩⟩ := (tr j x hx).same g
      refine gMix hT ?_
      refine ⟨_, rfl, _, rfl, _, rfl, _, _, q, n, X, Y, rfl, h1, h2, sX, sY, bd rX, by omega, by omega, by omega, fun e1 K1 s1 he1 => ?_⟩
      refine ⟨_, rfl, _, rfl, _, _, q, n, _, Z, rfl, he1, dp_same s1 _ _ h3, prod_sq, sZ, bd (prod_rs (by omega)), by omega, by omega, by omega, fun e2 K2 s2 he2 => ?_⟩
      have s12 := s1.trans s2
      refine ⟨_, rfl, _, rfl, _, rfl, _, rfl, _, rfl, _, _, q, n, Y, Z, rfl, dp_same s12 _ _ h2, dp_same s12 _ _ h3, sY, sZ, bd rY, by omega, by omega, by omega, fun e3 K3 s3 he3 => ?_⟩
      have s13 := s12.trans s3
      refine ⟨_, rfl, _, _, q, n, X, _, rfl, dp_same s13 _ _ h1, he3, sX, prod_sq, bd rX, by omega, by omega, by omega, fun e4 K4 s4 he4 => ?_⟩
      rw [← prod_assoc] at he4
      exact ⟨_, _, dp_same (s3.trans s4) _ _ he2, he4, shaped_mat _, shaped_mat _, _, rfl, ne_same (shaped_mat _) ⟨g.trans (s13.trans s4), _, _, _, _, rfl⟩⟩
    rintro ρ H8 ⟨g8, y9, y10, y11, y12, rfl⟩
    have a8 := dp_same g8 _ _ hA7
    have b8 := dp_same g8 _ _ hB7
    refine ⟨_, rfl, _, rfl, _, q, n, A, rfl, a8, uA, by omega, q1, by omega, fun f1 H9 Ai s9 hAi iA => ?_⟩
    refine ⟨_, rfl, _, rfl, _, q, n, B, rfl, dp_same s9 _ _ b8, uB, by omega, q1, by omega, fun f2 H10 Bi s10 hBi iB => ?_⟩
    refine ⟨_, _, rfl, ?_⟩
    have a10 := dp_same (s9.trans s10) _ _ a8
    have b10 := dp_same (s9.trans s10) _ _ b8
    have ai10 := dp_same s10 _ _ hAi
    refine ⟨_, rfl, _, rfl, _, rfl, _, _, q, n, A, B, rfl, a10, b10, uA.s, uB.s, bd uA.r, by omega, by omega, by omega, fun c1 H11 s11 hc1 => ?_⟩
    refine ⟨_, rfl, _, q, n, _, rfl, hc1, ut_prod (by omega) uA uB, by omega, q1, by omega, fun c2 H12 Pi s12 hPi iP => ?_⟩
    have s112 := s11.trans s12
    refine ⟨_, rfl, _, rfl, _, rfl, _, _, q, n, Bi, Ai, rfl, dp_same s112 _ _ hBi, dp_same s112 _ _ ai10, iB.u.s, iA.u.s, bd iB.u.r, by omega, by omega, by omega, fun c3 H13 s13 hc3 => ?_⟩
    obtain rfl := iP.unique (inv_prod (by omega) iA iB)
    refine ⟨_, _, dp_same s13 _ _ hPi, hc3, shaped_mat _, shaped_mat _, _, rfl, ne_same (shaped_mat _) ?_⟩
    have s10_13 := s112.trans s13
    have a13 := dp_same s10_13 _ _ a10
    have ai13 := dp_same s10_13 _ _ ai10
    refine ⟨fun σ' H' => Same H13 H' ∧ σ' = [some (.ref a), some (.ref p), some (.int (0 + (i : Int))), some (.int q), some (.int (n : Int)), some va, some vb, some vc, x8, y9, y10, y11, y12, some (.ref f1), some (.ref f2)], ?_, ?_⟩
    · refine ⟨_, rfl, _, rfl, _, q, n, Ai, rfl, ai13, iA.u, by omega, q1, by omega, fun c4 H14 Ai2 s14 hA2' iA2 => ?_⟩
      obtain rfl := iA2.unique (inv_inv uA iA)
      refine ⟨_, rfl, _, _, hA2', dp_same s14 _ _ a13, shaped_mat _, shaped_mat _, _, rfl, ne_same (shaped_mat _) ?_⟩
      refine ⟨_, rfl, _, rfl, _, rfl, _, q, n, _, rfl, dp_same s14 _ _ a13, uA, by omega, q1, by omega, fun c5 H15 So s15 hSo iS => ?_⟩
      obtain rfl := iS.unique iA
      exact ⟨_, _, dp_same (s14.trans s15) _ _ ai13, hSo, shaped_mat _, shaped_mat _, _, rfl, ne_same (shaped_mat _) ⟨s14.trans s15, rfl⟩⟩
    rintro _ H14 ⟨g14, rfl⟩
    refine ⟨_, rfl, _, rfl, _, rfl, _, _, q, n, A, Ai, rfl, dp_same g14 _ _ a13, dp_same g14 _ _ ai13, uA.s, iA.u.s, bd uA.r, by omega, by omega, by omega, fun c6 H15 s15 hc6 => ?_⟩
    rw [prod_one (by omega) iA.r] at hc6
    refine ⟨_, rfl, n, rfl, by omega, fun c7 H16 s16 hc7 => ?_⟩
    exact ⟨_, _, dp_same s16 _ _ hc6, hc7, shaped_mat _, shaped_mat _, _, rfl, ne_same (shaped_mat _) ⟨dd.trans (.same (g8.trans (s9.trans (s10.trans (s10_13.trans (g14.trans (s15.trans s16))))))), _, _, _, _, _, _, _, _, _, _, _, _, _, rfl⟩⟩
  · rintro ρ h ⟨_, x2, x3, x4, x5, x6, x7, x8, x9, x10, x11, x12, x13, x14, rfl⟩
    exact done h

end
end Vk04

namespace Vk04
open PySem PySem.Spec PyProof.Rows L2 Vx
theorem all_mk {l : PySem.W.OpenLaw} {w : World} {K : PySem.W.Frag} {h : Heap} {mg : Str → Option Value} {fa f0 f1 f2 f3 f4 f5 f6 f7 f8 f9 f10 f11 f12 f13 : Addr} (X : K.In h) (G : h.Ns mainGlobals mg) (hfa : mg "law" = some (.ref fa))
    {od0 an0 od1 an1 od2 an2 od3 an3 od4 an4 od5 an5 od6 an6 od7 an7 od8 an8 od9 an9 od10 an10 od11 an11 od12 an12 od13 an13 : Option Addr} {sl0 sl1 sl2 sl3 sl4 sl5 sl6 sl7 sl8 sl9 sl10 sl11 sl12 sl13 : Array (Option Value)} {oc0 kV0 dc0 pm0 cd0 ct0 oc1 kV1 dc1 pm1 cd1 ct1 oc2 kV2 dc2 pm2 cd2 ct2 oc3 kV3 dc3 pm3 cd3 ct3 oc4 kV4 dc4 pm4 cd4 ct4 oc5 kV5 dc5 pm5 cd5 ct5 oc6 kV6 dc6 pm6 cd6 ct6 oc7 kV7 dc7 pm7 cd7 ct7 oc8 kV8 dc8 pm8 cd8 ct8 oc9 kV9 dc9 pm9 cd9 ct9 oc10 kV10 dc10 pm10 cd10 ct10 oc11 kV11 dc11 pm11 cd11 ct11 oc12 kV12 dc12 pm12 cd12 ct12 oc13 kV13 dc13 pm13 cd13 ct13 : Value}
    (a0 : PySem.W.nsIn K mainGlobals "multiply_matrices" = some (some (.ref f0))) (l0 : K.lookup f0 = some ⟨oc0, od0, .func (PySem.W.fnOf "multiply_matrices" "multiply_matrices" (defArgs s_multiply_matrices) (defBody s_multiply_matrices) (defScope s_multiply_matrices) .none kV0 dc0 pm0 an0 cd0 ct0), sl0⟩) (c0 : PySem.W.codeIn K cd0 "multiply_matrices" = true) (k0 : PySem.W.keepIn K (.ref f0) = true)
    (a1 : PySem.W.nsIn K mainGlobals "_row_times_column" = some (some (.ref f1))) (l1 : K.lookup f1 = some ⟨oc1, od1, .func (PySem.W.fnOf "_row_times_column" "_row_times_column" (defArgs s_row_times_column) (defBody s_row_times_column) (defScope s_row_times_column) .none kV1 dc1 pm1 an1 cd1 ct1), sl1⟩) (c1 : PySem.W.codeIn K cd1 "_row_times_column" = true) (k1 : PySem.W.keepIn K (.ref f1) = true)
    (a2 : PySem.W.nsIn K mainGlobals "identity_matrix" = some (some (.ref f2))) (l2 : K.lookup f2 = some ⟨oc2, od2, .func (PySem.W.fnOf "identity_matrix" "identity_matrix" (defArgs s_identity_matrix) (defBody s_identity_matrix) (defScope s_identity_matrix) .none kV2 dc2 pm2 an2 cd2 ct2), sl2⟩) (c2 : PySem.W.codeIn K cd2 "identity_matrix" = true) (k2 : PySem.W.keepIn K (.ref f2) = true)
    (a3 : PySem.W.nsIn K mainGlobals "_unit_row" = some (some (.ref f3))) (l3 : K.lookup f3 = some ⟨oc3, od3, .func (PySem.W.fnOf "_unit_row" "_unit_row" (defArgs s_unit_row) (defBody s_unit_row) (defScope s_unit_row) .none kV3 dc3 pm3 an3 cd3 ct3), sl3⟩) (c3 : PySem.W.codeIn K cd3 "_unit_row" = true) (k3 : PySem.W.keepIn K (.ref f3) = true)
    (a4 : PySem.W.nsIn K mainGlobals "invert_unitriangular" = some (some (.ref f4))) (l4 : K.lookup f4 = some ⟨oc4, od4, .func (PySem.W.fnOf "invert_unitriangular" "invert_unitriangular" (defArgs s_invert_unitriangular) (defBody s_invert_unitriangular) (defScope s_invert_unitriangular) .none kV4 dc4 pm4 an4 cd4 ct4), sl4⟩) (c4 : PySem.W.codeIn K cd4 "invert_unitriangular" = true) (k4 : PySem.W.keepIn K (.ref f4) = true)
    (a5 : PySem.W.nsIn K mainGlobals "_inverse_row" = some (some (.ref f5))) (l5 : K.lookup f5 = some ⟨oc5, od5, .func (PySem.W.fnOf "_inverse_row" "_inverse_row" (defArgs s_inverse_row) (defBody s_inverse_row) (defScope s_inverse_row) .none kV5 dc5 pm5 an5 cd5 ct5), sl5⟩) (c5 : PySem.W.codeIn K cd5 "_inverse_row" = true) (k5 : PySem.W.keepIn K (.ref f5) = true)
    (a6 : PySem.W.nsIn K mainGlobals "_law_pen" = some (some (.ref f6))) (l6 : K.lookup f6 = some ⟨oc6, od6, .func (PySem.W.fnOf "_law_pen" "_law_pen" (defArgs s_law_pen) (defBody s_law_pen) (defScope s_law_pen) .none kV6 dc6 pm6 an6 cd6 ct6), sl6⟩) (c6 : PySem.W.codeIn K cd6 "_law_pen" = true) (k6 : PySem.W.keepIn K (.ref f6) = true)
    (a7 : PySem.W.nsIn K mainGlobals "_law_fresh" = some (some (.ref f7))) (l7 : K.lookup f7 = some ⟨oc7, od7, .func (PySem.W.fnOf "_law_fresh" "_law_fresh" (defArgs s_law_fresh) (defBody s_law_fresh) (defScope s_law_fresh) .none kV7 dc7 pm7 an7 cd7 ct7), sl7⟩) (c7 : PySem.W.codeIn K cd7 "_law_fresh" = true) (k7 : PySem.W.keepIn K (.ref f7) = true)
    (a8 : PySem.W.nsIn K mainGlobals "_law_draw" = some (some (.ref f8))) (l8 : K.lookup f8 = some ⟨oc8, od8, .func (PySem.W.fnOf "_law_draw" "_law_draw" (defArgs s_law_draw) (defBody s_law_draw) (defScope s_law_draw) .none kV8 dc8 pm8 an8 cd8 ct8), sl8⟩) (c8 : PySem.W.codeIn K cd8 "_law_draw" = true) (k8 : PySem.W.keepIn K (.ref f8) = true)
    (a9 : PySem.W.nsIn K mainGlobals "_law_modulus" = some (some (.ref f9))) (l9 : K.lookup f9 = some ⟨oc9, od9, .func (PySem.W.fnOf "_law_modulus" "_law_modulus" (defArgs s_law_modulus) (defBody s_law_modulus) (defScope s_law_modulus) .none kV9 dc9 pm9 an9 cd9 ct9), sl9⟩) (c9 : PySem.W.codeIn K cd9 "_law_modulus" = true) (k9 : PySem.W.keepIn K (.ref f9) = true)
    (a10 : PySem.W.nsIn K mainGlobals "_law_matrix" = some (some (.ref f10))) (l10 : K.lookup f10 = some ⟨oc10, od10, .func (PySem.W.fnOf "_law_matrix" "_law_matrix" (defArgs s_law_matrix) (defBody s_law_matrix) (defScope s_law_matrix) .none kV10 dc10 pm10 an10 cd10 ct10), sl10⟩) (c10 : PySem.W.codeIn K cd10 "_law_matrix" = true) (k10 : PySem.W.keepIn K (.ref f10) = true)
    (a11 : PySem.W.nsIn K mainGlobals "_law_unitriangular" = some (some (.ref f11))) (l11 : K.lookup f11 = some ⟨oc11, od11, .func (PySem.W.fnOf "_law_unitriangular" "_law_unitriangular" (defArgs s_law_unitriangular) (defBody s_law_unitriangular) (defScope s_law_unitriangular) .none kV11 dc11 pm11 an11 cd11 ct11), sl11⟩) (c11 : PySem.W.codeIn K cd11 "_law_unitriangular" = true) (k11 : PySem.W.keepIn K (.ref f11) = true)
    (a12 : PySem.W.nsIn K mainGlobals "_law_solved" = some (some (.ref f12))) (l12 : K.lookup f12 = some ⟨oc12, od12, .func (PySem.W.fnOf "_law_solved" "_law_solved" (defArgs s_law_solved) (defBody s_law_solved) (defScope s_law_solved) .none kV12 dc12 pm12 an12 cd12 ct12), sl12⟩) (c12 : PySem.W.codeIn K cd12 "_law_solved" = true) (k12 : PySem.W.keepIn K (.ref f12) = true)
    (a13 : PySem.W.nsIn K mainGlobals "law" = some (some (.ref f13))) (l13 : K.lookup f13 = some ⟨oc13, od13, .func (PySem.W.fnOf "law" "law" (defArgs s_law) (defBody s_law) (defScope s_law) .none kV13 dc13 pm13 an13 cd13 ct13), sl13⟩) (c13 : PySem.W.codeIn K cd13 "law" = true) (k13 : PySem.W.keepIn K (.ref f13) = true)
    (z0 : PySem.W.nsIn K mainGlobals "list" = some none)
    (z1 : PySem.W.nsIn K mainGlobals "tuple" = some none)
    (z2 : PySem.W.nsIn K mainGlobals "zip" = some none)
    (z3 : PySem.W.nsIn K mainGlobals "sum" = some none)
    (z4 : PySem.W.nsIn K mainGlobals "range" = some none)
    (z5 : PySem.W.nsIn K mainGlobals "len" = some none)
    (z6 : PySem.W.nsIn K mainGlobals "reversed" = some none)
    (z7 : PySem.W.nsIn K mainGlobals "int" = some none)
    (z8 : PySem.W.nsIn K mainGlobals "max" = some none)
    (z9 : PySem.W.nsIn K mainGlobals "min" = some none) :
    ∃ fd : FuncData, (∀ (s : Shared) (v : Value), BindsTo s fd ⟨[v], []⟩ [("script", v)]) ∧ ∀ base : Heap, K.In base → base.Ns mainGlobals mg → FnG l.prog w K mg base CX0 4 fa fd ["script"] (sp_law K) := by
  have e := hfa.symm.trans (PySem.W.mg_of X G a13)
  cases e
  have m_list := PySem.W.mg_none_of X G z0
  have m_tuple := PySem.W.mg_none_of X G z1
  have m_zip := PySem.W.mg_none_of X G z2
  have m_sum := PySem.W.mg_none_of X G z3
  have m_range := PySem.W.mg_none_of X G z4
  have m_len := PySem.W.mg_none_of X G z5
  have m_reversed := PySem.W.mg_none_of X G z6
  have m_int := PySem.W.mg_none_of X G z7
  have m_max := PySem.W.mg_none_of X G z8
  have m_min := PySem.W.mg_none_of X G z9
  have F0 := fun_mk (st := s_multiply_matrices) l0 c0 k0
  have b0 := F0.binds (ps := ["one", "other", "modulus"]) fun _ _ _ _ _ _ us hl => match us, hl with | [_, _, _], _ => rfl
  have F1 := fun_mk (st := s_row_times_column) l1 c1 k1
  have b1 := F1.binds (ps := ["row", "column"]) fun _ _ _ _ _ _ us hl => match us, hl with | [_, _], _ => rfl
  have F2 := fun_mk (st := s_identity_matrix) l2 c2 k2
  have b2 := F2.binds (ps := ["size"]) fun _ _ _ _ _ _ us hl => match us, hl with | [_], _ => rfl
  have F3 := fun_mk (st := s_unit_row) l3 c3 k3
  have b3 := F3.binds (ps := ["index", "size"]) fun _ _ _ _ _ _ us hl => match us, hl with | [_, _], _ => rfl
  have F4 := fun_mk (st := s_invert_unitriangular) l4 c4 k4
  have b4 := F4.binds (ps := ["matrix", "modulus"]) fun _ _ _ _ _ _ us hl => match us, hl with | [_, _], _ => rfl
  have F5 := fun_mk (st := s_inverse_row) l5 c5 k5
  have b5 := F5.binds (ps := ["row", "index", "inverse", "modulus"]) fun _ _ _ _ _ _ us hl => match us, hl with | [_, _, _, _], _ => rfl
  have F6 := fun_mk (st := s_law_pen) l6 c6 k6
  have b6 := F6.binds (ps := ["script"]) fun _ _ _ _ _ _ us hl => match us, hl with | [_], _ => rfl
  have F7 := fun_mk (st := s_law_fresh) l7 c7 k7
  have b7 := F7.binds (ps := ["pen"]) fun _ _ _ _ _ _ us hl => match us, hl with | [_], _ => rfl
  have F8 := fun_mk (st := s_law_draw) l8 c8 k8
  have b8 := F8.binds (ps := ["pen", "bound"]) fun _ _ _ _ _ _ us hl => match us, hl with | [_, _], _ => rfl
  have F9 := fun_mk (st := s_law_modulus) l9 c9 k9
  have b9 := F9.binds (ps := ["pen"]) fun _ _ _ _ _ _ us hl => match us, hl with | [_], _ => rfl
  have F10 := fun_mk (st := s_law_matrix) l10 c10 k10
  have b10 := F10.binds (ps := ["pen", "q", "length_here"]) fun _ _ _ _ _ _ us hl => match us, hl with | [_, _, _], _ => rfl
  have F11 := fun_mk (st := s_law_unitriangular) l11 c11 k11
  have b11 := F11.binds (ps := ["pen", "q", "length_here"]) fun _ _ _ _ _ _ us hl => match us, hl with | [_, _, _], _ => rfl
  have F12 := fun_mk (st := s_law_solved) l12 c12 k12
  have b12 := F12.binds (ps := ["rows", "q"]) fun _ _ _ _ _ _ us hl => match us, hl with | [_, _], _ => rfl
  have F13 := fun_mk (st := s_law) l13 c13 k13
  refine ⟨PySem.W.fnOf "law" "law" (defArgs s_law) (defBody s_law) (defScope s_law) .none kV13 dc13 pm13 an13 cd13 ct13, fun s v => .of_eq rfl, fun base KB NB => ?_⟩
  have G_row_times_column : FnG l.prog w K mg base CX0 1 f1 _ ["row", "column"] (sp_row_times_column K) := ok_row_times_column F1 m_sum m_zip
  have c__row_times_column : Cal l.prog w K mg base "_row_times_column" 1 ["row", "column"] (sp_row_times_column K) := ⟨f1, _, G_row_times_column, PySem.W.mg_of X G a1, k1, b1⟩
  have G_multiply_matrices : FnG l.prog w K mg base CX0 2 f0 _ ["one", "other", "modulus"] (sp_multiply_matrices K) := ok_multiply_matrices F0 m_list m_tuple m_zip c__row_times_column
  have c_multiply_matrices : Cal l.prog w K mg base "multiply_matrices" 2 ["one", "other", "modulus"] (sp_multiply_matrices K) := ⟨f0, _, G_multiply_matrices, PySem.W.mg_of X G a0, k0, b0⟩
  have G_unit_row : FnG l.prog w K mg base CX0 1 f3 _ ["index", "size"] (sp_unit_row K) := ok_unit_row F3 m_tuple m_range
  have c__unit_row : Cal l.prog w K mg base "_unit_row" 1 ["index", "size"] (sp_unit_row K) := ⟨f3, _, G_unit_row, PySem.W.mg_of X G a3, k3, b3⟩
  have G_identity_matrix : FnG l.prog w K mg base CX0 2 f2 _ ["size"] (sp_identity_matrix K) := ok_identity_matrix F2 m_tuple m_range c__unit_row
  have c_identity_matrix : Cal l.prog w K mg base "identity_matrix" 2 ["size"] (sp_identity_matrix K) := ⟨f2, _, G_identity_matrix, PySem.W.mg_of X G a2, k2, b2⟩
  have G_inverse_row : FnG l.prog w K mg base CX0 2 f5 _ ["row", "index", "inverse", "modulus"] (sp_inverse_row K) := ok_inverse_row F5 m_list m_range m_tuple m_len c__unit_row
  have c__inverse_row : Cal l.prog w K mg base "_inverse_row" 2 ["row", "index", "inverse", "modulus"] (sp_inverse_row K) := ⟨f5, _, G_inverse_row, PySem.W.mg_of X G a5, k5, b5⟩
  have G_invert_unitriangular : FnG l.prog w K mg base CX0 3 f4 _ ["matrix", "modulus"] (sp_invert_unitriangular K) := ok_invert_unitriangular F4 m_len m_list m_reversed m_tuple m_range c_identity_matrix c__inverse_row
  have c_invert_unitriangular : Cal l.prog w K mg base "invert_unitriangular" 3 ["matrix", "modulus"] (sp_invert_unitriangular K) := ⟨f4, _, G_invert_unitriangular, PySem.W.mg_of X G a4, k4, b4⟩
  have G_law_pen : FnG l.prog w K mg base CX0 1 f6 _ ["script"] (sp_law_pen K) := ok_law_pen F6 m_list
  have c__law_pen : Cal l.prog w K mg base "_law_pen" 1 ["script"] (sp_law_pen K) := ⟨f6, _, G_law_pen, PySem.W.mg_of X G a6, k6, b6⟩
  have G_law_fresh : FnG l.prog w K mg base CX0 1 f7 _ ["pen"] (sp_law_fresh K) := ok_law_fresh F7 m_range m_len
  have c__law_fresh : Cal l.prog w K mg base "_law_fresh" 1 ["pen"] (sp_law_fresh K) := ⟨f7, _, G_law_fresh, PySem.W.mg_of X G a7, k7, b7⟩
  have G_law_draw : FnG l.prog w K mg base CX0 2 f8 _ ["pen", "bound"] (sp_law_draw K) := ok_law_draw F8 c__law_fresh
  have c__law_draw : Cal l.prog w K mg base "_law_draw" 2 ["pen", "bound"] (sp_law_draw K) := ⟨f8, _, G_law_draw, PySem.W.mg_of X G a8, k8, b8⟩
  have G_law_modulus : FnG l.prog w K mg base CX0 3 f9 _ ["pen"] (sp_law_modulus K) := ok_law_modulus F9 c__law_draw
  have c__law_modulus : Cal l.prog w K mg base "_law_modulus" 3 ["pen"] (sp_law_modulus K) := ⟨f9, _, G_law_modulus, PySem.W.mg_of X G a9, k9, b9⟩
  have G_law_matrix : FnG l.prog w K mg base CX0 3 f10 _ ["pen", "q", "length_here"] (sp_law_matrix K) := ok_law_matrix F10 m_tuple m_range c__law_draw
  have c__law_matrix : Cal l.prog w K mg base "_law_matrix" 3 ["pen", "q", "length_here"] (sp_law_matrix K) := ⟨f10, _, G_law_matrix, PySem.W.mg_of X G a10, k10, b10⟩
  have G_law_unitriangular : FnG l.prog w K mg base CX0 3 f11 _ ["pen", "q", "length_here"] (sp_law_unitriangular K) := ok_law_unitriangular F11 m_range m_tuple c__law_draw
  have c__law_unitriangular : Cal l.prog w K mg base "_law_unitriangular" 3 ["pen", "q", "length_here"] (sp_law_unitriangular K) := ⟨f11, _, G_law_unitriangular, PySem.W.mg_of X G a11, k11, b11⟩
  have G_law_solved : FnG l.prog w K mg base CX0 1 f12 _ ["rows", "q"] (sp_law_solved K) := ok_law_solved F12 m_len m_range m_tuple m_sum m_int
  have c__law_solved : Cal l.prog w K mg base "_law_solved" 1 ["rows", "q"] (sp_law_solved K) := ⟨f12, _, G_law_solved, PySem.W.mg_of X G a12, k12, b12⟩
  exact ok_law F13 m_range m_max m_min m_len c__law_pen c__law_modulus c__law_unitriangular c_multiply_matrices c_invert_unitriangular c_identity_matrix c__law_draw c__law_matrix c__law_solved
theorem walk_end {l : PySem.W.OpenLaw} {q : Program} {loose : List Str} {XP : (Str → Option Value) → Heap → Prop} {YP : World → Heap → Prop} {d : DefRec} {K : Params → PySem.W.Frag} (hn : l.most = some 63) (hdf : d.params.defaults = []) (hY : ∀ (w : World) (h : Heap), YP w h → (K w.params).In h)
    (F : ∀ (w : World) (mg : Str → Option Value) (fa : Addr) (h : Heap), (K w.params).In h → h.Ns mainGlobals mg → mg d.name = some (.ref fa) →
      ∃ fd : FuncData, (∀ (s : Shared) (u : Value), BindsTo s fd ⟨[u], []⟩ [("script", u)]) ∧ ∀ base : Heap, (K w.params).In base → base.Ns mainGlobals mg → FnG l.prog w (K w.params) mg base CX0 4 fa fd ["script"] (sp_law (K w.params))) :
    PySem.W.WalkO q loose XP YP l.row.toRowW d [] (fun f vs => PySem.call f vs) :=
  walkG (n := 63) (k := 4) (x := "script") (sp := fun w => sp_law (K w.params)) hn (by decide) hdf ⟨rfl, by decide, by decide⟩ hY F fun _ _ a ns hl _ hS => ⟨a, ns, rfl, hS, hl, fun _ => rfl⟩

end Vk04

open PySem PySem.W PyProof.Rows in
set_option maxRecDepth 100000 in
set_option maxHeartbeats 0 in
theorem PySem.Challenge.cw_maskedlist_k04_whole_products_and_invers_holds : PySem.Challenge.rw_maskedlist_k04_whole_products_and_invers.Holds := by
  w_on; o_law; k_head; (case hw => w_witness2)
  k_fill
  refine Vk04.walk_end (l := PySem.Challenge.rw_maskedlist_k04_whole_products_and_invers) rfl rfl (fun w h Y => PySem.W.kIn_of Y) ?F
  case F =>
    intro w mg fa h KX G hmg
    refine' Vk04.all_mk KX G hmg ?a0 ?l0 ?c0 ?k0 ?a1 ?l1 ?c1 ?k1 ?a2 ?l2 ?c2 ?k2 ?a3 ?l3 ?c3 ?k3 ?a4 ?l4 ?c4 ?k4 ?a5 ?l5 ?c5 ?k5 ?a6 ?l6 ?c6 ?k6 ?a7 ?l7 ?c7 ?k7 ?a8 ?l8 ?c8 ?k8 ?a9 ?l9 ?c9 ?k9 ?a10 ?l10 ?c10 ?k10 ?a11 ?l11 ?c11 ?k11 ?a12 ?l12 ?c12 ?k12 ?a13 ?l13 ?c13 ?k13 ?z0 ?z1 ?z2 ?z3 ?z4 ?z5 ?z6 ?z7 ?z8 ?z9
    (case a0 => k_is)
    (case l0 => k_is)
    (case c0 => k_is)
    (case k0 => k_is)
    (case a1 => k_is)
    (case l1 => k_is)
    (case c1 => k_is)
    (case k1 => k_is)
    (case a2 => k_is)
    (case l2 => k_is)
    (case c2 => k_is)
    (case k2 => k_is)
    (case a3 => k_is)
    (case l3 => k_is)
    (case c3 => k_is)
    (case k3 => k_is)
    (case a4 => k_is)
    (case l4 => k_is)
    (case c4 => k_is)
    (case k4 => k_is)
    (case a5 => k_is)
    (case l5 => k_is)
    (case c5 => k_is)
    (case k5 => k_is)
    (case a6 => k_is)
    (case l6 => k_is)
    (case c6 => k_is)
    (case k6 => k_is)
    (case a7 => k_is)
    (case l7 => k_is)
    (case c7 => k_is)
    (case k7 => k_is)
    (case a8 => k_is)
    (case l8 => k_is)
    (case c8 => k_is)
    (case k8 => k_is)
    (case a9 => k_is)
    (case l9 => k_is)
    (case c9 => k_is)
    (case k9 => k_is)
    (case a10 => k_is)
    (case l10 => k_is)
    (case c10 => k_is)
    (case k10 => k_is)
    (case a11 => k_is)
    (case l11 => k_is)
    (case c11 => k_is)
    (case k11 => k_is)
    (case a12 => k_is)
    (case l12 => k_is)
    (case c12 => k_is)
    (case k12 => k_is)
    (case a13 => k_is)
    (case l13 => k_is)
    (case c13 => k_is)
    (case k13 => k_is)
    (case z0 => k_is)
    (case z1 => k_is)
    (case z2 => k_is)
    (case z3 => k_is)
    (case z4 => k_is)
    (case z5 => k_is)
    (case z6 => k_is)
    (case z7 => k_is)
    (case z8 => k_is)
    (case z9 => k_is)

