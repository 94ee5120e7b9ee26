import PyProof.Rows.All
import Wide.All
import OpenK.AllK
import Wide.FinOn
import HandS.ForMost
import HandS.Walk
import HandS.Wide
import HandS.Style
import HandS.More
import HandS.SetFor
import HandS.SortInts
import HandS.IsInst
import HandS.Codes
import PyProof.ReprRoads
import HandS.Defaults
import HandS.FStr
import HandS.RaiseMore
import KE.KIndexOf
import HandS.Deep
import HandS.Strs
import HandS.ListItems
import KE.KDictList
import HandS.Conv
import KE.IntTextLaws
import PySem.Challenge.RW_holdtap_k86_whole_records_cut_and_joined
set_option Elab.async false
set_option linter.all false
set_option maxRecDepth 100000
set_option maxHeartbeats 4000000
/-! A layer over the hand layer in which a def knows that no display is being shown (A.guards): repr needs it. -/
namespace Gd
open PySem PySem.Spec PyProof.Rows L2

/-- what a def promises where no guard stands -/
structure FnG (P : Program) (w : World) (K : PySem.W.Frag) (mg : Str → Option Value) (base : Heap)
    (k : Nat) (f : Addr) (fd : FuncData) (ps : List Str) (sp : Sp) : Prop where
  len : ∀ vs H Q E, sp vs H Q E → vs.length = ps.length
  go : ∀ (A : Around) (outer : List Env) (s : Shared) (H : Hp) (args : Args) (us : List Value) (vs : List V) (Q : VK),
    A.guards = some [] → Room k A → Env0 P w K mg base A outer s H → BindsTo s fd args (ps.zip us) →
    Vals vs us → sp vs H Q E0 →
    codeAny (model P w) A (.call (.ref f) args) (CR CX0 outer P w H s Q E0) s

theorem deep_guards {A : Around} {e : Env} (h : A.guards = some []) : (A.deeper e).guards = some [] := h

section
variable {P : Program} {w : World} {K : PySem.W.Frag} {mg : Str → Option Value} {base : Heap}
theorem fnG {x qual : Str} {st : Stmt} {f : Addr} {fd : FuncData} {N ps : List Str} {k : Nat} {sp : Sp}
    (F : Fun K x qual st f fd) (S : FnScope N ps (defScope st))
    (len : ∀ vs H Q E, sp vs H Q E → vs.length = ps.length)
    (hb : ∀ (cdv : Value) (A : Around) (outer : List Env) (s : Shared) (H : Hp) (vs : List V) (Q : VK),
      A.guards = some [] → Room k (A.deeper (envOfC qual (defScope st) s.heap.objs.size f cdv)) → sp vs H Q E0 →
      ∃ t, PSs (cxOf CX0 P w K mg base N qual (defScope st) f cdv A outer s H E0).nox (defBody st) t ∧
        t { nx := fun _ H' => Q .non H', rt := Q } (start N vs) H) :
    FnG P w K mg base (k + 1) f fd ps sp := by
  obtain ⟨oc, od, kV, doc, pm, an, cdv, ct, osl, rfl, lk, hcd⟩ := F.ex
  refine ⟨len, fun A outer s H args us vs Q hg hr e0 bt rv hsp => ?_⟩
  have kin : K.In s.heap := e0.mod.kin.keeps (fun b o e => (e0.bs b o e).1)
  have nol : s.heap.NoLimit := e0.mod.nolimit.keeps (fun b o e => (e0.bs b o e).1)
  have pk : ((ps.zip us).all fun y => (defScope st).names.lookup y.1 == some NameKind.local ||
      (defScope st).names.lookup y.1 == some NameKind.cell) = true := by
    rw [List.all_eq_true]
    rintro ⟨n, v⟩ hm
    have hp := S.par n (List.of_mem_zip hm).1
    rcases hp with e | e <;> simp [e]
  refine Att.call_fn kin nol lk hcd hr.depth bt pk (fun s1 ic => ?_) S.co S.gen S.kind
  obtain ⟨t, ht, hq⟩ := hb cdv A outer s H vs Q hg (hr.deeper _) hsp
  have J := inv_start (CX := CX0) (E := E0) (P := P) (w := w) (mg := mg) (base := base) S hr.hd e0 (len _ _ _ _ hsp) rv ic
  have J' := J.wish (fun _ _ => False)
  refine wpAny_mono (ht.run [] s1 (start N vs) H _ J' hq) (fun fl s' sp' => ?_) (fun _ _ z => z.elim)
  match fl, sp' with
  | .next, ⟨σ', H', L, q⟩ => exact ⟨.non, H', L.os, L.bare, L.base, L.hok, rfl, q⟩
  | .ret u, ⟨v, σ', H', L, rr, q⟩ => exact ⟨v, H', L.os, L.bare, L.base, L.hok, rr, q⟩
  | .brk, ⟨_, _, _, q⟩ => exact False.elim q
  | .cont, ⟨_, _, _, q⟩ => exact False.elim q
end

/-- a def that may be called by its name -/
structure Cl (P : Program) (w : World) (K : PySem.W.Frag) (mg : Str → Option Value) (base : Heap) (k : Nat) (x : Str) (sp : Sp) : Prop where
  ex : ∃ (f : Addr) (fd : FuncData) (ps : List Str), FnG P w K mg base k f fd ps sp ∧ mg x = some (.ref f) ∧
    PySem.W.keepIn K (.ref f) = true ∧ Binds K fd ps []
/-- where a def stands: its text, its name in the module -/
structure At (K : PySem.W.Frag) (mg : Str → Option Value) (x : Str) (st : Stmt) (ps : List Str) : Prop where
  ex : ∃ (f : Addr) (fd : FuncData), Fun K x x st f fd ∧ mg x = some (.ref f) ∧ Binds K fd ps []
section
variable {P : Program} {w : World} {K : PySem.W.Frag} {mg : Str → Option Value} {base : Heap}
theorem clG {x : Str} {st : Stmt} {N ps : List Str} {k : Nat} {sp : Sp} (a : At K mg x st ps) (S : FnScope N ps (defScope st))
    (len : ∀ vs H Q E, sp vs H Q E → vs.length = ps.length)
    (hb : ∀ (f : Addr) (cdv : Value) (A : Around) (outer : List Env) (s : Shared) (H : Hp) (vs : List V) (Q : VK),
      A.guards = some [] → Room k (A.deeper (envOfC x (defScope st) s.heap.objs.size f cdv)) → sp vs H Q E0 →
      ∃ t, PSs (cxOf CX0 P w K mg base N x (defScope st) f cdv A outer s H E0).nox (defBody st) t ∧
        t { nx := fun _ H' => Q .non H', rt := Q } (start N vs) H) : Cl P w K mg base (k + 1) x sp := by
  obtain ⟨f, fd, F, hm, b⟩ := a.ex
  exact ⟨f, fd, ps, fnG F S len (hb f), hm, F.kp, b⟩
theorem Cl.imp {x : Str} {k : Nat} {sp sp' : Sp} (c : Cl P w K mg base k x sp) (h : ∀ vs H Q E, sp' vs H Q E → sp vs H Q E) :
    Cl P w K mg base k x sp' := by
  obtain ⟨f, fd, ps, F, hm, kp, b⟩ := c.ex
  exact ⟨f, fd, ps, ⟨fun vs H Q E z => F.len vs H Q E (h _ _ _ _ z), fun A o s H as us vs Q g r e bt rv z => F.go A o s H as us vs Q g r e bt rv (h _ _ _ _ z)⟩, hm, kp, b⟩
end
section
variable {X : Cx} {k j : Nat} {x : Str} {sp : Sp} {p pos : Pos} {e : Expr} {es : List Expr} {t : TA}
theorem run_cl {f : Addr} {fd : FuncData} {ps : List Str} {pins : List (Addr × Obj)} {σ : L2.St} {H : Hp} {s : Shared} {Q : VK} {us : List Value} {vs : List V}
    (F : FnG X.prog X.w X.K X.mg X.base k f fd ps sp) (hg : X.A.guards = some []) (hr : Room k X.A) (b : Binds X.K fd ps [])
    (I : Inv X pins σ H s) (rv : Vals vs us) (h : sp vs H Q E0) : wpAny (model X.prog X.w) X.A (call (.ref f) us) (EP X pins σ Q) X.xe s := by
  have hl : us.length = ps.length := rv.length.symm.trans (F.len _ _ _ _ h)
  have bt := b s us I.kIn (by simpa using hl)
  rw [List.append_nil] at bt
  refine wpAny_call (codeAny_mono (F.go X.A X.stack s H ⟨us, []⟩ us vs Q hg hr I.env0 bt rv h) (fun r s' hq => ?_))
  match r, hq with
  | .ok (.ret u), hq => exact I.after hq
  | .ok .next, hq => exact False.elim hq
  | .ok .brk, hq => exact False.elim hq
  | .ok .cont, hq => exact False.elim hq
  | .error _, hq => exact False.elim hq
/-- f(e, ..) -/
theorem pe_cl (c : Cl X.prog X.w X.K X.mg X.base k x sp) (hg : X.A.guards = some []) (hr : Room j X.A) (hk : k ≤ j) (gl : Gl X x) (ha : PA X (e :: es) t)
    (hd : (x == ("__debug__" : Str)) = false := by decide)
    (he : starEach (e :: es) X.env = (false, eval e X.env) :: starEach es X.env := by rfl)
    (hp : (backTo pos (starEach es X.env)).any (·.1) = false := by rfl) :
    PE X (.Call (.Name x p) (e :: es) [] pos) (tCall sp [] E0 t) := by
  obtain ⟨f, fd, ps, F, hm, kp, b⟩ := c.ex
  refine ⟨fun pins s σ H Q I h => wpAny_Call_Name_kw (ld_glob I gl hm (PySem.W.callWith_K (h₀ := X.base) I.ok.mod.kin kp ?_ he hp) hd)⟩
  refine thn (ha.run pos pins s σ H _ I h) (fun us s1 z => ?_)
  obtain ⟨vs, H1, I1, rv, q⟩ := z
  exact ⟨I1.kIn, run_cl F hg (hr.mono hk) b I1 rv (by simpa using q)⟩
/-- f() -/
theorem pe_cl0 (c : Cl X.prog X.w X.K X.mg X.base k x sp) (hg : X.A.guards = some []) (hr : Room j X.A) (hk : k ≤ j) (gl : Gl X x)
    (hd : (x == ("__debug__" : Str)) = false := by decide) :
    PE X (.Call (.Name x p) [] [] pos) (tCall sp [] E0 tNil) := by
  obtain ⟨f, fd, ps, F, hm, kp, b⟩ := c.ex
  refine ⟨fun pins s σ H Q I h => wpAny_Call_Name_kw (ld_glob I gl hm (PySem.W.callWith_K0 I.kIn kp ?_) hd)⟩
  exact run_cl (us := []) F hg (hr.mono hk) b I .nil h
end

/-! ### rules that lack: a great power, repr of data -/
def CPowW (i j : Int) : Prop := 0 ≤ j ∧ (Builtin.Int.intBits i : Int) * j ≤ 2 ^ 27
theorem op_powW {X : Cx} : OpR X (binaryOp .Pow) (rI CPowW fun i j => .int (i ^ j.toNat)) := opI fun _ _ _ _ _ _ _ hc q => pow_int hc.1 hc.2 q
theorem bits_le {i : Int} {n : Nat} (h : i.natAbs < 2 ^ n) : Builtin.Int.intBits i ≤ n := by
  unfold Builtin.Int.intBits
  split
  · exact Nat.zero_le _
  · rename_i hz
    have h0 : i.natAbs ≠ 0 := by
      intro z
      apply hz
      have : i = 0 := Int.natAbs_eq_zero.mp z
      simp [this]
    have := (Nat.log2_lt h0).mpr h
    omega
theorem powW {i : Int} {n k : Nat} (h : i.natAbs < 2 ^ n) (hs : n * k ≤ 2 ^ 27) : CPowW i (k : Int) := by
  refine ⟨by omega, ?_⟩
  have b := bits_le h
  have m : Builtin.Int.intBits i * k ≤ 2 ^ 27 := Nat.le_trans (Nat.mul_le_mul_right k b) hs
  exact_mod_cast m

/-- repr(x), x a list or a tuple of data -/
def rRep (K : PySem.W.Frag) : List V → Hp → VK → Prop := fun xs H Q => ∃ (a : Addr) (d : PyData), xs = [.ref a] ∧ Dp K H (.ref a) d ∧
  d.showable = true ∧ d.depth ≤ 50 ∧ d.shown.length ≤ sizeLine ∧ Q (.str d.shown) H
mutual
theorem dp_nodict {K : PySem.W.Frag} {H : Hp} : ∀ (d : PyData) (v : V), Dp K H v d → d.hasDict = false
  | .none, _, _ => rfl
  | .bool _, _, _ => rfl
  | .int _, _, _ => rfl
  | .str _, _, _ => rfl
  | .list ds, _, h => by
    cases h with
    | lst _ ha => exact dps_nodict ds _ ha
  | .tuple ds, _, h => by
    cases h with
    | tup _ ha => exact dps_nodict ds _ ha
  | .dict _, _, h => by cases h
theorem dps_nodict {K : PySem.W.Frag} {H : Hp} : ∀ (ds : List PyData) (vs : List V), DpAll K H vs ds → PyData.hasDictAll ds = false
  | [], _, _ => rfl
  | d :: ds, _, h => by
    cases h with
    | cons h1 h2 =>
      show (d.hasDict || PyData.hasDictAll ds) = false
      rw [dp_nodict d _ h1, dps_nodict ds _ h2]
      rfl
end
theorem call_rep {X : Cx} {k : Nat} (hg : X.A.guards = some []) (hr : Room k X.A) : CallR X (.builtin "repr") (rRep X.K) := by
  intro pins s σ H xs us Q I r h
  obtain ⟨a, d, rfl, hd, hs, hdp, hz, q⟩ := h
  obtain ⟨u, rfl, ru⟩ := vals1 r
  obtain ⟨as, rd⟩ := Dp.reads I d (.ref a) u hd ru
  cases ru
  have hu := hr.un
  exact repr_of_reads' rd hs (PyData.noDict_hsm (dp_nodict d _ hd)) hg (by omega) (fun _ _ e => e)
    (fun h' t tk hk => ⟨.str d.shown, H, I.kept (t' := tk) hk, ⟨t, rfl⟩, q⟩) hz

/-! ### the law's own call -/
section
variable {P : Program} {w : World} {K : PySem.W.Frag} {mg mb : Str → Option Value} {k : Nat} {fa a : Addr} {fd : FuncData} {x : Str} {sp : Sp} {s₁ : Shared} {vs : List Value} {ns : List Int}
/-- the heap as the caller has it, H what is tracked of it: at most the script -/
theorem top_run (KX : K.In s₁.heap) (gl : s₁.heap.Ns mainGlobals mg) (bl : s₁.heap.Ns builtinsNs mb) (bb : ∀ y : Str, y ≠ "__name__" → mb y = bootBuiltins y)
    (nol : s₁.heap.NoLimit) (ng : s₁.gens = #[]) (oa : s₁.heap.get? a = some { cls := .type "list", data := .seq vs.toArray }) (hr : Room k callerA)
    (F : ∀ base : Heap, K.In base → base.Ns mainGlobals mg → FnG P w K mg base k fa fd [x] sp)
    (bt : ∀ (s : Shared) (u : Value), BindsTo s fd ⟨[u], []⟩ [(x, u)]) {H : Hp} (only : Only H) (hok : HOk P w H s₁.heap)
    (at_a : ∀ b, H b ≠ none → b = a ∧ K.lookup a = none) (h : sp [.ref a] H (fun v _ => v = .bl true) E0) :
    codeAny (model P w) callerA (.call (.ref fa) ⟨[.ref a], []⟩)
      (fun r s' => r = .ok (.ret (.bool true)) ∧ OldK s₁.heap s'.heap ∧ s'.os = s₁.os ∧ AllBare s'.gens) s₁ := by
  have free : ∀ {b : Addr} {o : Obj}, s₁.heap.get? b = some o → (b = a → ∃ es ep, o.data = .dict es ep) → H b = none := by
    intro b o e d
    rcases Classical.em (H b = none) with z | z
    · exact z
    · obtain ⟨rfl, _⟩ := at_a b z
      obtain ⟨es, ep, hd⟩ := d rfl
      rw [oa] at e
      cases e
      cases hd
  have nsAt : ∀ {b : Addr} {m : Str → Option Value}, s₁.heap.Ns b m → (hidT s₁.heap H).Ns b m := by
    intro b m z
    obtain ⟨o, es, ep, e, d, r⟩ := z
    exact ⟨o, es, ep, hidT_get e (free e fun _ => ⟨es, ep, d⟩), d, r⟩
  have KB : K.In (hidT s₁.heap H) := by
    intro b o e
    refine hidT_get (KX b o e) ?_
    rcases Classical.em (H b = none) with z | z
    · exact z
    · obtain ⟨rfl, q⟩ := at_a b z
      rw [q] at e
      cases e
  obtain ⟨ml, l1, l2⟩ := nol
  have M : Mod K mg (hidT s₁.heap H) := ⟨KB, nsAt gl, ⟨mb, nsAt bl, bb⟩, ⟨ml, nsAt l1, l2⟩⟩
  have E : Env0 P w K mg (hidT s₁.heap H) callerA [] s₁ H := by
    refine ⟨rfl, M, fun b o e => of_hidT e, Nat.le_of_eq (hidT_size _ _), True.intro, fun b hb => ?_, hok, .of_eq ng⟩
    exact nomatch (show b ∈ ([] : List Addr) from hb)
  refine codeAny_mono ((F _ KB (nsAt gl)).go callerA [] s₁ H ⟨[.ref a], []⟩ [.ref a] [.ref a] _ rfl hr E (bt s₁ (.ref a)) (.cons rfl .nil) h) ?_
  intro r s' z
  match r, z with
  | .ok .next, z => exact False.elim z
  | .ok .brk, z => exact False.elim z
  | .ok .cont, z => exact False.elim z
  | .error _, z => exact False.elim z
  | .ok (.ret u), ⟨v, H', os, bare, un, hok', rv, q⟩ =>
    have q : v = .bl true := q
    subst q
    have ru : u = Value.bool true := rv
    subst ru
    refine ⟨rfl, OldK.of_keep fun b o e => ?_, os, bare⟩
    rcases only b with n | ⟨ob, xs, n⟩
    · exact un.keep b o e n (fun m => nomatch (show b ∈ ([] : List Addr) from m)) (fun m => nomatch m)
    · have f1 := hok b _ n
      have f2 := hok' b _ (un.frzs b ob _ n)
      have g1 : s₁.heap.get? b = some ob := f1.1
      have g2 : s'.heap.get? b = some ob := f2.1
      rw [e] at g1
      cases g1
      exact g2
theorem law_callG (KX : K.In s₁.heap) (gl : s₁.heap.Ns mainGlobals mg) (bl : s₁.heap.Ns builtinsNs mb) (bb : ∀ y : Str, y ≠ "__name__" → mb y = bootBuiltins y)
    (nol : s₁.heap.NoLimit) (ng : s₁.gens = #[]) (oa : s₁.heap.get? a = some { cls := .type "list", data := .seq vs.toArray }) (hi : IntsAre vs ns) (hl : ns.length ≤ sizeLine) (hr : Room k callerA)
    (F : ∀ base : Heap, K.In base → base.Ns mainGlobals mg → FnG P w K mg base k fa fd [x] sp)
    (bt : ∀ (s : Shared) (u : Value), BindsTo s fd ⟨[u], []⟩ [(x, u)])
    (hsp : ∀ H : Hp, Only H → SqL K H a (ns.map V.int) → sp [.ref a] H (fun v _ => v = .bl true) E0) :
    codeAny (model P w) callerA (.call (.ref fa) ⟨[.ref a], []⟩)
      (fun r s' => r = .ok (.ret (.bool true)) ∧ OldK s₁.heap s'.heap ∧ s'.os = s₁.os ∧ AllBare s'.gens) s₁ := by
  have rv := vals_ints hi
  have lenV := hi.length
  by_cases hk : K.lookup a = none
  · let H : Hp := fun b => if b = a then some (.frz { cls := .type "list", data := .seq vs.toArray } (.lst (ns.map V.int))) else none
    have Ha : H a = some (.frz { cls := .type "list", data := .seq vs.toArray } (.lst (ns.map V.int))) := if_pos rfl
    have Hn : ∀ {b : Addr}, b ≠ a → H b = none := fun h => if_neg h
    have only : Only H := by
      intro b
      by_cases e : b = a
      · subst e; exact .inr ⟨_, _, Ha⟩
      · exact .inl (Hn e)
    refine top_run KX gl bl bb nol ng oa hr F bt (H := H) only ?_ ?_ (hsp H only (.inl (.inr ⟨_, Ha⟩)))
    · intro b u z
      by_cases e : b = a
      · subst e
        rw [Ha] at z
        cases z
        exact ⟨oa, by rw [List.length_map]; exact hl, vs, _, rv, oa⟩
      · rw [Hn e] at z; cases z
    · intro b z
      by_cases e : b = a
      · exact ⟨e, hk⟩
      · exact absurd (Hn e) z
  · obtain ⟨o, ho⟩ := Option.ne_none_iff_exists'.mp hk
    have e := KX a o ho
    rw [oa] at e
    cases e
    have only : Only (fun _ => none) := fun _ => .inl rfl
    refine top_run KX gl bl bb nol ng oa hr F bt (H := fun _ => none) only (fun b u z => nomatch z) (fun b z => absurd rfl z) (hsp _ only (.inr ?_))
    exact ⟨_, vs.toArray, _, ho, rfl, rfl, rfl, by rw [List.size_toArray, lenV]; exact hl, by simpa using rv⟩
end
/-- what k_head leaves, from the promise of the law's def -/
theorem walkG {l : PySem.W.OpenLaw} {n k : Nat} {q : Program} {loose : List Str} {XP : (Str → Option Value) → Heap → Prop} {YP : World → Heap → Prop} {d : DefRec} {K : Params → PySem.W.Frag} {sp : PySem.W.Frag → Sp} {x : Str}
    (hn : l.most = some n) (hn2 : n ≤ sizeLine) (hdf : d.params.defaults = []) (hr : Room k callerA)
    (hY : ∀ (w : World) (h : Heap), YP w h → (K w.params).In h)
    (F : ∀ (w : World) (mg : Str → Option Value) (fa : Addr) (h : Heap), (K w.params).In h → h.Ns mainGlobals mg → mg d.name = some (.ref fa) →
      ∃ fd : FuncData, (∀ (s : Shared) (u : Value), BindsTo s fd ⟨[u], []⟩ [(x, u)]) ∧
        ∀ base : Heap, (K w.params).In base → base.Ns mainGlobals mg → FnG l.prog w (K w.params) mg base k fa fd [x] (sp (K w.params)))
    (hsp : ∀ (K : PySem.W.Frag) (H : Hp) (a : Addr) (ns : List Int), ns.length ≤ n → SqL K H a (ns.map V.int) →
      sp K [.ref a] H (fun v _ => v = .bl true) E0) :
    PySem.W.WalkO q loose XP YP l.row.toRowW d [] (fun f vs => PySem.call f vs) := by
  refine Att.attach_call hn hdf ?_
  intro w s₀ s₁ mg mb fa o pm cd doc a vs ns G Y ho hd hcd hmg oa hi hlen ng
  have KX := hY w _ Y
  obtain ⟨fd, bt, hF⟩ := F w mg fa _ KX G.T.g hmg
  exact law_callG KX G.T.g G.T.b G.T.builtins G.T.nolimit ng oa hi (Nat.le_trans hlen hn2) hr hF bt (fun H _ hS => hsp _ H a ns hlen hS)
end Gd

set_option Elab.async false
set_option linter.all false
set_option maxRecDepth 100000
set_option maxHeartbeats 4000000
/-! a def with defaults, called with all of its arguments, or with some of them -/
namespace Gd
open PySem PySem.Spec PyProof.Rows L2
theorem room65 {k : Nat} {A : Around} (r : Room k A) : A.units + 65 < cLine := by have := r.un; omega
/-- where a def with defaults stands; ds: the values that fill up -/
structure AtX (K : PySem.W.Frag) (mg : Str → Option Value) (x : Str) (st : Stmt) (ps : List Str) (ds : List Value) : Prop where
  ex : ∃ (f : Addr) (oc : Value) (od : Option Addr) (dV kV doc pm : Value) (an : Option Addr) (cdv ct : Value) (osl : Array (Option Value)),
    K.lookup f = some ⟨oc, od, .func (PySem.W.fnOf x x (defArgs st) (defBody st) (defScope st) dV kV doc pm an cdv ct), osl⟩ ∧ PySem.W.codeIn K cdv x = true ∧ PySem.W.keepIn K (.ref f) = true ∧ mg x = some (.ref f) ∧
    Binds K (PySem.W.fnOf x x (defArgs st) (defBody st) (defScope st) dV kV doc pm an cdv ct) ps ds
section
variable {P : Program} {w : World} {K : PySem.W.Frag} {mg : Str → Option Value} {base : Heap}
theorem clX {x : Str} {st : Stmt} {N ps : List Str} {k : Nat} {sp : Sp} (a : AtX K mg x st ps []) (S : FnScope N ps (defScope st))
    (len : ∀ vs H Q E, sp vs H Q E → vs.length = ps.length)
    (hb : ∀ (f : Addr) (cdv : Value) (A : Around) (outer : List Env) (s : Shared) (H : Hp) (vs : List V) (Q : VK),
      A.guards = some [] → Room k (A.deeper (envOfC x (defScope st) s.heap.objs.size f cdv)) → sp vs H Q E0 →
      ∃ t, PSs (cxOf CX0 P w K mg base N x (defScope st) f cdv A outer s H E0).nox (defBody st) t ∧
        t { nx := fun _ H' => Q .non H', rt := Q } (start N vs) H) : Cl P w K mg base (k + 1) x sp := by
  obtain ⟨f, oc, od, dV, kV, doc, pm, an, cdv, ct, osl, lk, hcd, kp, hm, bd⟩ := a.ex
  refine ⟨f, _, ps, ⟨len, fun A outer s H args us vs Q hg hr e0 bt rv hsp => ?_⟩, hm, kp, bd⟩
  have kin : K.In s.heap := e0.mod.kin.keeps (fun b o e => (e0.bs b o e).1)
  have nol : s.heap.NoLimit := e0.mod.nolimit.keeps (fun b o e => (e0.bs b o e).1)
  have pk : ((ps.zip us).all fun y => (defScope st).names.lookup y.1 == some NameKind.local ||
      (defScope st).names.lookup y.1 == some NameKind.cell) = true := by
    rw [List.all_eq_true]
    rintro ⟨n, v⟩ hm
    have hp := S.par n (List.of_mem_zip hm).1
    rcases hp with e | e <;> simp [e]
  refine Att.call_fn kin nol lk hcd hr.depth bt pk (fun s1 ic => ?_) S.co S.gen S.kind
  obtain ⟨t, ht, hq⟩ := hb f cdv A outer s H vs Q hg (hr.deeper _) hsp
  have J := inv_start (CX := CX0) (E := E0) (P := P) (w := w) (mg := mg) (base := base) S hr.hd e0 (len _ _ _ _ hsp) rv ic
  have J' := J.wish (fun _ _ => False)
  refine wpAny_mono (ht.run [] s1 (start N vs) H _ J' hq) (fun fl s' sp' => ?_) (fun _ _ z => z.elim)
  match fl, sp' with
  | .next, ⟨σ', H', L, q⟩ => exact ⟨.non, H', L.os, L.bare, L.base, L.hok, rfl, q⟩
  | .ret u, ⟨v, σ', H', L, rr, q⟩ => exact ⟨v, H', L.os, L.bare, L.base, L.hok, rr, q⟩
  | .brk, ⟨_, _, _, q⟩ => exact False.elim q
  | .cont, ⟨_, _, _, q⟩ => exact False.elim q
end
/-- one default behind: all arguments are given -/
theorem atX_all {K : PySem.W.Frag} {h : Heap} {mg : Str → Option Value} {x : Str} {st : Stmt} {ps : List Str} {f T : Addr} {od an td : Option Addr} {sl ts : Array (Option Value)} {oc kV dc pm cd ct d : Value} {tn : Nat} (X : K.In h) (G : h.Ns mainGlobals mg)
    (a : PySem.W.nsIn K mainGlobals x = some (some (.ref f))) (l : K.lookup f = some ⟨oc, od, .func (PySem.W.fnOf x x (defArgs st) (defBody st) (defScope st) (.ref T) kV dc pm an cd ct), sl⟩) (c : PySem.W.codeIn K cd x = true) (k : PySem.W.keepIn K (.ref f) = true)
    (u : K.lookup T = some ⟨.type "tuple", td, .seq #[d] tn, ts⟩)
    (hb : ∀ (T : Addr) (kV doc pm : Value) (an : Option Addr) (cdv ct : Value) (us its : List Value), us.length = ps.length → its.length = 1 →
      ∃ k, bindArgs (PySem.W.fnOf x x (defArgs st) (defBody st) (defScope st) (.ref T) kV doc pm an cdv ct) ⟨us, []⟩ = seqItems? (.ref T) >>= k ∧ k (some its.toArray) = pure (ps.zip us)) : AtX K mg x st ps [] := by
  refine ⟨f, oc, od, .ref T, kV, dc, pm, an, cd, ct, sl, l, c, k, PySem.W.mg_of X G a, fun s us KX hl => ?_⟩
  rw [List.append_nil] at hl ⊢
  obtain ⟨g, e1, e2⟩ := hb T kV dc pm an cd ct us [d] hl rfl
  refine BindsTo.of_looks fun M => ?_
  rw [e1]
  exact looks_items (its := #[d]) KX u rfl (PySem.W.Looks.of_pure e2)
/-- a method's call within a comprehension: the constants said -/
theorem pe_bmB {X : Cx} {K0 : PySem.W.Frag} {T : String} {name : Str} {id : String} {r : V → List V → Hp → VK → Prop} {o e : Expr} {es : List Expr} {to : TE} {t : TA} {apos cpos : Pos} (hK : X.K = K0) (pa : PlainAttrs T) (slot : Slot T name id) (hty : typeOf (.builtin id) = pure (.type "method_descriptor")) (hm : MtR X id r) (ho : PE X o to) (ha : PA X (e :: es) t)
    (hbase : attributeBase o name X.env (eval o X.env) = eval o X.env := by rfl)
    (hfew : ((backTo cpos (starEach (e :: es) X.env)).all (fun x => !x.1) && (backToKw cpos (keywordEach [] X.env)).all (fun x => x.1.isSome)
      && decide ((e :: es).length + ([] : List Keyword).length + (if ([] : List Keyword).isEmpty then 0 else 1) < 30)) = true := by rfl)
    (hline : (apos.endLine == cpos.line) = true := by rfl) (hs : starEach (e :: es) X.env = (false, eval e X.env) :: starEach es X.env := by rfl) (hplain : (backTo cpos (starEach es X.env)).any (·.1) = false := by rfl) :
    PE X (.Call (.Attribute o name apos) (e :: es) [] cpos) (tBM K0 T r to t) := by
  subst hK
  exact pe_bm pa slot hty hm ho ha hbase hfew hline hs hplain
end Gd

set_option Elab.async false
set_option linter.all false
set_option maxRecDepth 100000
set_option maxHeartbeats 4000000
/-! a def with defaults, called with fewer arguments: the values that fill up come behind -/
namespace Gd
open PySem PySem.Spec PyProof.Rows L2
structure ClD (P : Program) (w : World) (K : PySem.W.Frag) (mg : Str → Option Value) (base : Heap) (k : Nat) (x : Str) (sp : Sp) (dvs : List V) : Prop where
  ex : ∃ (f : Addr) (fd : FuncData) (ps : List Str) (ds : List Value), FnG P w K mg base k f fd ps sp ∧ mg x = some (.ref f) ∧ PySem.W.keepIn K (.ref f) = true ∧ Binds K fd ps ds ∧ Vals dvs ds
section
variable {P : Program} {w : World} {K : PySem.W.Frag} {mg : Str → Option Value} {base : Heap}
theorem clXD {x : Str} {st : Stmt} {N ps : List Str} {k : Nat} {sp : Sp} {ds : List Value} {dvs : List V} (a : AtX K mg x st ps ds) (vd : Vals dvs ds) (S : FnScope N ps (defScope st))
    (len : ∀ vs H Q E, sp vs H Q E → vs.length = ps.length)
    (hb : ∀ (f : Addr) (cdv : Value) (A : Around) (outer : List Env) (s : Shared) (H : Hp) (vs : List V) (Q : VK),
      A.guards = some [] → Room k (A.deeper (envOfC x (defScope st) s.heap.objs.size f cdv)) → sp vs H Q E0 →
      ∃ t, PSs (cxOf CX0 P w K mg base N x (defScope st) f cdv A outer s H E0).nox (defBody st) t ∧
        t { nx := fun _ H' => Q .non H', rt := Q } (start N vs) H) : ClD P w K mg base (k + 1) x sp dvs := by
  obtain ⟨f, oc, od, dV, kV, doc, pm, an, cdv, ct, osl, lk, hcd, kp, hm, bd⟩ := a.ex
  refine ⟨f, _, ps, ds, ⟨len, fun A outer s H args us vs Q hg hr e0 bt rv hsp => ?_⟩, hm, kp, bd, vd⟩
  have kin : K.In s.heap := e0.mod.kin.keeps (fun b o e => (e0.bs b o e).1)
  have nol : s.heap.NoLimit := e0.mod.nolimit.keeps (fun b o e => (e0.bs b o e).1)
  have pk : ((ps.zip us).all fun y => (defScope st).names.lookup y.1 == some NameKind.local ||
      (defScope st).names.lookup y.1 == some NameKind.cell) = true := by
    rw [List.all_eq_true]
    rintro ⟨n, v⟩ hm
    have hp := S.par n (List.of_mem_zip hm).1
    rcases hp with e | e <;> simp [e]
  refine Att.call_fn kin nol lk hcd hr.depth bt pk (fun s1 ic => ?_) S.co S.gen S.kind
  obtain ⟨t, ht, hq⟩ := hb f cdv A outer s H vs Q hg (hr.deeper _) hsp
  have J := inv_start (CX := CX0) (E := E0) (P := P) (w := w) (mg := mg) (base := base) S hr.hd e0 (len _ _ _ _ hsp) rv ic
  have J' := J.wish (fun _ _ => False)
  refine wpAny_mono (ht.run [] s1 (start N vs) H _ J' hq) (fun fl s' sp' => ?_) (fun _ _ z => z.elim)
  match fl, sp' with
  | .next, ⟨σ', H', L, q⟩ => exact ⟨.non, H', L.os, L.bare, L.base, L.hok, rfl, q⟩
  | .ret u, ⟨v, σ', H', L, rr, q⟩ => exact ⟨v, H', L.os, L.bare, L.base, L.hok, rr, q⟩
  | .brk, ⟨_, _, _, q⟩ => exact False.elim q
  | .cont, ⟨_, _, _, q⟩ => exact False.elim q
end
theorem vals_append : ∀ {vs : List V} {us : List Value} {ws : List V} {zs : List Value}, Vals vs us → Vals ws zs → Vals (vs ++ ws) (us ++ zs)
  | _, _, _, _, .nil, h => h
  | _, _, _, _, .cons a b, h => .cons a (vals_append b h)
section
variable {X : Cx} {k j : Nat} {x : Str} {sp : Sp} {p pos : Pos} {e : Expr} {es : List Expr} {t : TA} {dvs : List V}
theorem run_clD {f : Addr} {fd : FuncData} {ps : List Str} {ds : List Value} {pins : List (Addr × Obj)} {σ : L2.St} {H : Hp} {s : Shared} {Q : VK} {us : List Value} {vs : List V}
    (F : FnG X.prog X.w X.K X.mg X.base k f fd ps sp) (hg : X.A.guards = some []) (hr : Room k X.A) (b : Binds X.K fd ps ds) (vd : Vals dvs ds)
    (I : Inv X pins σ H s) (rv : Vals vs us) (h : sp (vs ++ dvs) H Q E0) : wpAny (model X.prog X.w) X.A (call (.ref f) us) (EP X pins σ Q) X.xe s := by
  have ra := vals_append rv vd
  have hl : (us ++ ds).length = ps.length := ra.length.symm.trans (F.len _ _ _ _ h)
  have bt := b s us I.kIn hl
  refine wpAny_call (codeAny_mono (F.go X.A X.stack s H ⟨us, []⟩ (us ++ ds) (vs ++ dvs) Q hg hr I.env0 bt ra h) (fun r s' hq => ?_))
  match r, hq with
  | .ok (.ret u), hq => exact I.after hq
  | .ok .next, hq => exact False.elim hq
  | .ok .brk, hq => exact False.elim hq
  | .ok .cont, hq => exact False.elim hq
  | .error _, hq => exact False.elim hq
/-- f(e, ..), some arguments left out -/
theorem pe_clD (c : ClD X.prog X.w X.K X.mg X.base k x sp dvs) (hg : X.A.guards = some []) (hr : Room j X.A) (hk : k ≤ j) (gl : Gl X x) (ha : PA X (e :: es) t)
    (hd : (x == ("__debug__" : Str)) = false := by decide)
    (he : starEach (e :: es) X.env = (false, eval e X.env) :: starEach es X.env := by rfl)
    (hp : (backTo pos (starEach es X.env)).any (·.1) = false := by rfl) :
    PE X (.Call (.Name x p) (e :: es) [] pos) (tCall sp dvs E0 t) := by
  obtain ⟨f, fd, ps, ds, F, hm, kp, b, vd⟩ := c.ex
  refine ⟨fun pins s σ H Q I h => wpAny_Call_Name_kw (ld_glob I gl hm (PySem.W.callWith_K (h₀ := X.base) I.ok.mod.kin kp ?_ he hp) hd)⟩
  refine thn (ha.run pos pins s σ H _ I h) (fun us s1 z => ?_)
  obtain ⟨vs, H1, I1, rv, q⟩ := z
  exact ⟨I1.kIn, run_clD F hg (hr.mono hk) b vd I1 rv q⟩
end
/-- one default behind: it is left out -/
theorem atX_less {K : PySem.W.Frag} {h : Heap} {mg : Str → Option Value} {x : Str} {st : Stmt} {ps : List Str} {f T : Addr} {od an td : Option Addr} {sl ts : Array (Option Value)} {oc kV dc pm cd ct d : Value} {tn : Nat} (X : K.In h) (G : h.Ns mainGlobals mg)
    (a : PySem.W.nsIn K mainGlobals x = some (some (.ref f))) (l : K.lookup f = some ⟨oc, od, .func (PySem.W.fnOf x x (defArgs st) (defBody st) (defScope st) (.ref T) kV dc pm an cd ct), sl⟩) (c : PySem.W.codeIn K cd x = true) (k : PySem.W.keepIn K (.ref f) = true)
    (u : K.lookup T = some ⟨.type "tuple", td, .seq #[d] tn, ts⟩)
    (hb : ∀ (T : Addr) (kV doc pm : Value) (an : Option Addr) (cdv ct : Value) (us its : List Value), us.length + 1 = ps.length → its.length = 1 →
      ∃ k, bindArgs (PySem.W.fnOf x x (defArgs st) (defBody st) (defScope st) (.ref T) kV doc pm an cdv ct) ⟨us, []⟩ = seqItems? (.ref T) >>= k ∧ k (some its.toArray) = pure (ps.zip (us ++ its))) : AtX K mg x st ps [d] := by
  refine ⟨f, oc, od, .ref T, kV, dc, pm, an, cd, ct, sl, l, c, k, PySem.W.mg_of X G a, fun s us KX hl => ?_⟩
  obtain ⟨g, e1, e2⟩ := hb T kV dc pm an cd ct us [d] (by rw [List.length_append] at hl; exact hl) rfl
  refine BindsTo.of_looks fun M => ?_
  rw [e1]
  exact looks_items (its := #[d]) KX u rfl (PySem.W.Looks.of_pure e2)
end Gd

set_option Elab.async false
set_option linter.all false
set_option maxRecDepth 100000
set_option maxHeartbeats 4000000
namespace Rm
open PySem PySem.Spec PyProof.Rows L2 Gd

/-! ### how long a display is -/
structure Fit (L n : Nat) (d : PyData) : Prop where
  sh : d.showable = true
  dp : d.depth ≤ n
  ln : d.shown.length ≤ L
theorem Fit.mono {L n L' n' : Nat} {d : PyData} (f : Fit L n d) (h : L ≤ L') (h' : n ≤ n') : Fit L' n' d := ⟨f.sh, by have := f.dp; omega, by have := f.ln; omega⟩
theorem allSh {L n : Nat} : ∀ {ds : List PyData}, (∀ d ∈ ds, Fit L n d) → PyData.showableAll ds = true ∧ PyData.depthAll ds ≤ n ∧ piled (PyData.shownAll ds) ≤ ds.length * (L + 2)
  | [], _ => ⟨rfl, Nat.zero_le _, Nat.zero_le _⟩
  | d :: ds, h => by
    obtain ⟨a, b, c⟩ := allSh (ds := ds) fun x hx => h x (List.mem_cons_of_mem _ hx)
    have f := h d List.mem_cons_self
    refine ⟨?_, ?_, ?_⟩
    · show (d.showable && PyData.showableAll ds) = true
      rw [f.sh, a]; rfl
    · show max d.depth (PyData.depthAll ds) ≤ n
      have := f.dp
      omega
    · show piled (d.shown :: PyData.shownAll ds) ≤ _
      rw [piled_cons, List.length_cons]
      have := f.ln
      have e : (ds.length + 1) * (L + 2) = ds.length * (L + 2) + (L + 2) := Nat.succ_mul _ _
      omega
theorem listText_le (ts : List Str) : (listText ts).length ≤ piled ts + 2 := by
  cases ts with
  | nil => decide
  | cons t r =>
    have h := textFrom_length_pos r 1 (("[" : Str) ++ (if (0 : Nat) > 0 then ", " else "" : String) ++ t) (Nat.succ_pos 0)
    have e : ((("[" : Str) ++ (if (0 : Nat) > 0 then ", " else "" : String) ++ t)).length = 1 + t.length := by
      rw [strLen_append, strLen_append]; rfl
    have x : (listText (t :: r)).length = (textFrom 1 (("[" : Str) ++ (if (0 : Nat) > 0 then ", " else "" : String) ++ t) r).length + 1 := by
      show (textFrom 1 (("[" : Str) ++ (if (0 : Nat) > 0 then ", " else "" : String) ++ t) r ++ "]").length = _
      rw [strLen_append]; rfl
    rw [x, h, e, piled_cons]
    omega
theorem tupleText_le (ts : List Str) : (tupleText ts).length ≤ piled ts + 3 := by
  unfold tupleText
  rw [strLen_append, strLen_append]
  have e1 : ((("(" : String) : Str)).length = 1 := rfl
  have e3 : (((if ts.length == 1 then ",)" else ")" : String) : Str)).length ≤ 2 := by split <;> decide
  rw [e1]
  cases ts with
  | nil =>
    have : (Str.join ", " []).length = 0 := by decide
    omega
  | cons t r =>
    have := join_length_add (t :: r) (by simp)
    omega
theorem fit_list {L n : Nat} {ds : List PyData} (h : ∀ d ∈ ds, Fit L n d) : Fit (ds.length * (L + 2) + 3) (n + 1) (.list ds) := by
  obtain ⟨a, b, c⟩ := allSh h
  have := listText_le (PyData.shownAll ds)
  exact ⟨a, by show PyData.depthAll ds + 1 ≤ _; omega, by show (listText (PyData.shownAll ds)).length ≤ _; omega⟩
theorem fit_tup {L n : Nat} {ds : List PyData} (h : ∀ d ∈ ds, Fit L n d) : Fit (ds.length * (L + 2) + 3) (n + 1) (.tuple ds) := by
  obtain ⟨a, b, c⟩ := allSh h
  have := tupleText_le (PyData.shownAll ds)
  exact ⟨a, by show PyData.depthAll ds + 1 ≤ _; omega, by show (tupleText (PyData.shownAll ds)).length ≤ _; omega⟩
theorem fit_int {i : Int} (h : i.natAbs < 2 ^ 200) : Fit 210 0 (.int i) := by
  have hl : i.natAbs.log2 < 200 := PySem.Flt.log2_lt_of (by decide) h
  refine ⟨?_, Nat.le_refl _, ?_⟩
  · show decide (i.natAbs.log2 < 1920) = true
    exact decide_eq_true (by omega)
  · show (Str.ofString (toString i)).length ≤ 210
    rw [PySem.ofString_length]
    have := int_text_length_le (k := 200) (by decide) hl
    omega
theorem fit_none : Fit 210 0 .none := ⟨rfl, Nat.le_refl _, by decide +kernel⟩
theorem fit_bool (b : Bool) : Fit 210 0 (.bool b) := ⟨rfl, Nat.le_refl _, by cases b <;> decide +kernel⟩

/-! ### records -/
structure Ev where
  t : Int
  k : Int
  d : Bool
def wayS (d : Bool) : Str := if d then "down" else "up"
theorem wayS_inj {a b : Bool} : wayS a = wayS b ↔ a = b := by cases a <;> cases b <;> decide +kernel
theorem wayS_down (d : Bool) : decide (V.str (wayS d) = V.str "down") = d := by cases d <;> decide +kernel
def evD (e : Ev) : PyData := .tuple [.int e.t, .int e.k, .str (wayS e.d)]
def stD (e : Ev) : PyData := .tuple [.int e.k, .str (wayS e.d)]
def evV (e : Ev) : List V := [.int e.t, .int e.k, .str (wayS e.d)]
def stV (e : Ev) : List V := [.int e.k, .str (wayS e.d)]
def recD (es : List Ev) : PyData := .list (es.map evD)
def ordD (es : List Ev) : PyData := .list (es.map stD)
def after (h : Int → Bool) (e : Ev) : Int → Bool := fun k => if k = e.k then e.d else h k
def heldB (es : List Ev) : Int → Bool := es.foldl after fun _ => false
theorem heldB_snoc (es : List Ev) (e : Ev) : heldB (es ++ [e]) = after (heldB es) e := by unfold heldB; rw [List.foldl_append]; rfl
theorem heldB_take {es : List Ev} {i : Nat} {e : Ev} (h : es[i]? = some e) : heldB (es.take (i + 1)) = after (heldB (es.take i)) e := by
  rw [List.take_add_one, h]
  exact heldB_snoc _ _
/-- a record as the document has it -/
def Valid (es : List Ev) : Prop := ∀ (i : Nat) (e : Ev), es[i]? = some e → 0 ≤ e.k ∧ heldB (es.take i) e.k = !e.d ∧ ∀ (j : Nat) (e' : Ev), j < i → es[j]? = some e' → e'.t ≤ e.t
/-- an order: the same without ticks -/
def ValidO (es : List Ev) : Prop := ∀ (i : Nat) (e : Ev), es[i]? = some e → 0 ≤ e.k ∧ heldB (es.take i) e.k = !e.d
theorem Valid.o {es : List Ev} (h : Valid es) : ValidO es := fun i e x => ⟨(h i e x).1, (h i e x).2.1⟩
theorem Valid.nil : Valid [] := fun _ _ h => by simp at h
theorem Valid.take {es : List Ev} (h : Valid es) (n : Nat) : Valid (es.take n) := fun i e x => by
  have hi : i < n := by
    rcases Nat.lt_or_ge i n with q | q
    · exact q
    · rw [List.getElem?_eq_none (by rw [List.length_take]; omega)] at x; cases x
  rw [List.getElem?_take_of_lt hi] at x
  obtain ⟨a, b, c⟩ := h i e x
  refine ⟨a, ?_, fun j e' hj y => ?_⟩
  · rw [List.take_take, Nat.min_eq_left (by omega)]; exact b
  · rw [List.getElem?_take_of_lt (by omega)] at y
    exact c j e' hj y
theorem ValidO.take {es : List Ev} (h : ValidO es) (n : Nat) : ValidO (es.take n) := fun i e x => by
  have hi : i < n := by
    rcases Nat.lt_or_ge i n with q | q
    · exact q
    · rw [List.getElem?_eq_none (by rw [List.length_take]; omega)] at x; cases x
  rw [List.getElem?_take_of_lt hi] at x
  obtain ⟨a, b⟩ := h i e x
  exact ⟨a, by rw [List.take_take, Nat.min_eq_left (by omega)]; exact b⟩
theorem Valid.snoc {es : List Ev} {e : Ev} (h : Valid es) (h0 : 0 ≤ e.k) (hb : heldB es e.k = !e.d) (ht : ∀ e' ∈ es, e'.t ≤ e.t) : Valid (es ++ [e]) := fun i x hx => by
  rcases Nat.lt_or_ge i es.length with q | q
  · rw [List.getElem?_append_left q] at hx
    obtain ⟨a, b, c⟩ := h i x hx
    refine ⟨a, ?_, fun j e' hj y => ?_⟩
    · rw [List.take_append_of_le_length (by omega)]; exact b
    · rw [List.getElem?_append_left (by omega)] at y
      exact c j e' hj y
  · have hi : i = es.length := by
      have := (List.getElem?_eq_some_iff.mp hx).1
      rw [List.length_append] at this
      simp at this
      omega
    subst hi
    rw [List.getElem?_append_right (Nat.le_refl _), Nat.sub_self] at hx
    have ex : e = x := Option.some.inj hx
    subst ex
    refine ⟨h0, ?_, fun j e' hj y => ?_⟩
    · rw [List.take_append_of_le_length (Nat.le_refl _), List.take_length]; exact hb
    · rw [List.getElem?_append_left hj] at y
      exact ht e' (List.mem_of_getElem? y)
/-- the ticks and keys are not too great to be shown -/
def Small (es : List Ev) : Prop := ∀ e ∈ es, e.t.natAbs < 2 ^ 200 ∧ e.k.natAbs < 2 ^ 200
theorem fit_ev {e : Ev} (h : e.t.natAbs < 2 ^ 200 ∧ e.k.natAbs < 2 ^ 200) : Fit 1000 1 (evD e) := by
  refine Fit.mono (fit_tup (L := 210) (n := 0) fun d hd => ?_) (by show 3 * 212 + 3 ≤ 1000; decide) (Nat.le_refl _)
  simp only [List.mem_cons, List.mem_nil_iff, or_false] at hd
  rcases hd with rfl | rfl | rfl
  · exact fit_int h.1
  · exact fit_int h.2
  · exact ⟨rfl, Nat.le_refl _, by cases e.d <;> decide +kernel⟩
theorem fit_st {e : Ev} (h : e.k.natAbs < 2 ^ 200) : Fit 1000 1 (stD e) := by
  refine Fit.mono (fit_tup (L := 210) (n := 0) fun d hd => ?_) (by show 2 * 212 + 3 ≤ 1000; decide) (Nat.le_refl _)
  simp only [List.mem_cons, List.mem_nil_iff, or_false] at hd
  rcases hd with rfl | rfl
  · exact fit_int h
  · exact ⟨rfl, Nat.le_refl _, by cases e.d <;> decide +kernel⟩
theorem fit_rec {es : List Ev} (h : Small es) (hl : es.length ≤ 1000) : Fit 1100000 2 (recD es) := by
  refine Fit.mono (fit_list (L := 1000) (n := 1) fun d hd => ?_) (by rw [List.length_map]; omega) (Nat.le_refl _)
  obtain ⟨e, he, rfl⟩ := List.mem_map.mp hd
  exact fit_ev (h e he)
theorem fit_ord {es : List Ev} (h : Small es) (hl : es.length ≤ 1000) : Fit 1100000 2 (ordD es) := by
  refine Fit.mono (fit_list (L := 1000) (n := 1) fun d hd => ?_) (by rw [List.length_map]; omega) (Nat.le_refl _)
  obtain ⟨e, he, rfl⟩ := List.mem_map.mp hd
  exact fit_st (h e he).2

/-! ### the dict of what is held -/
structure HeldK (kvs : List (Key × V)) (h : Int → Bool) : Prop where
  fm : ∀ p ∈ kvs, ∃ (k : Int) (b : Bool), p = (Sum.inl k, V.bl b)
  nd : (kvs.map (·.1)).Nodup
  at_ : ∀ k : Int, (valV kvs (Sum.inl k)).getD (.bl false) = .bl (h k)
theorem HeldK.nil : HeldK [] fun _ => false := ⟨fun _ h => by simp at h, List.nodup_nil, fun _ => rfl⟩
theorem put_len (kvs : List (Key × V)) (k : Key) (v : V) : (putK kvs k v).length ≤ kvs.length + 1 := by
  unfold putK
  split
  · rw [List.length_map]; omega
  · rw [List.length_append]; exact Nat.le_refl _
theorem put_keys (kvs : List (Key × V)) (k : Key) (v : V) (h : (kvs.map (·.1)).Nodup) : ((putK kvs k v).map (·.1)).Nodup := by
  cases e : valV kvs k with
  | none => exact nd_putK v h e
  | some x =>
    have a : (kvs.any fun kv => decide (kv.1 = k)) = true := by rw [valV_any, e]; rfl
    unfold putK
    rw [if_pos a, List.map_map]
    have : ((fun p : Key × V => p.1) ∘ fun kv => if kv.1 = k then (kv.1, v) else kv) = (·.1) := by
      funext p
      show (if p.1 = k then (p.1, v) else p).1 = p.1
      split <;> rfl
    rw [this]
    exact h
theorem HeldK.put {kvs : List (Key × V)} {es : List Ev} {e : Ev} (h : HeldK kvs (heldB es)) : HeldK (putK kvs (Sum.inl e.k) (.bl e.d)) (heldB (es ++ [e])) := by
  refine ⟨fun p hp => ?_, put_keys _ _ _ h.nd, fun k => ?_⟩
  · unfold putK at hp
    split at hp
    · obtain ⟨q, hq, rfl⟩ := List.mem_map.mp hp
      obtain ⟨k, b, rfl⟩ := h.fm q hq
      by_cases z : (Sum.inl k : Key) = Sum.inl e.k
      · exact ⟨k, e.d, by simp [z]⟩
      · exact ⟨k, b, by simp [z]⟩
    · rcases List.mem_append.mp hp with hp | hp
      · exact h.fm p hp
      · exact ⟨e.k, e.d, List.mem_singleton.mp hp⟩
  · rw [valV_put, heldB_snoc]
    unfold after
    by_cases z : k = e.k
    · subst z; simp
    · rw [if_neg (fun q => z (Sum.inl.inj q)), if_neg z]
      exact h.at_ k
def downs (kvs : List (Key × V)) : List Int := kvs.filterMap fun p => match p with
  | (Sum.inl k, .bl true) => some k
  | _ => none
theorem downs_cons (k : Int) (b : Bool) (r : List (Key × V)) : downs ((Sum.inl k, .bl b) :: r) = if b then k :: downs r else downs r := by
  cases b <;> simp [downs, List.filterMap_cons]
theorem downs_sub : ∀ {kvs : List (Key × V)} {k : Int}, k ∈ downs kvs → (Sum.inl k : Key) ∈ kvs.map (·.1)
  | kvs, k, h => by
    obtain ⟨p, hp, e⟩ := List.mem_filterMap.mp h
    refine List.mem_map.mpr ⟨p, hp, ?_⟩
    obtain ⟨a, b⟩ := p
    cases a with
    | inr _ => cases e
    | inl k' =>
      cases b with
      | bl c => cases c <;> simp at e; rw [e]
      | non => cases e
      | int _ => cases e
      | str _ => cases e
      | byt _ => cases e
      | flt _ => cases e
      | ref _ => cases e
      | ty _ => cases e
theorem downs_nd : ∀ {kvs : List (Key × V)}, (∀ p ∈ kvs, ∃ (k : Int) (b : Bool), p = (Sum.inl k, V.bl b)) → (kvs.map (·.1)).Nodup → (downs kvs).Nodup
  | [], _, _ => List.nodup_nil
  | p :: r, fm, nd => by
    obtain ⟨k, b, rfl⟩ := fm p List.mem_cons_self
    have nd' : ((Sum.inl k : Key) :: r.map (·.1)).Nodup := nd
    obtain ⟨n1, n2⟩ := List.nodup_cons.mp nd'
    have ih := downs_nd (fun q hq => fm q (List.mem_cons_of_mem _ hq)) n2
    rw [downs_cons]
    split
    · exact List.nodup_cons.mpr ⟨fun m => n1 (downs_sub m), ih⟩
    · exact ih
theorem downs_mem : ∀ {kvs : List (Key × V)}, (∀ p ∈ kvs, ∃ (k : Int) (b : Bool), p = (Sum.inl k, V.bl b)) → (kvs.map (·.1)).Nodup → ∀ k : Int, k ∈ downs kvs ↔ valV kvs (Sum.inl k) = some (.bl true)
  | [], _, _, k => by simp [downs, valV]
  | p :: r, fm, nd, k => by
    obtain ⟨k', b, rfl⟩ := fm p List.mem_cons_self
    have nd' : ((Sum.inl k' : Key) :: r.map (·.1)).Nodup := nd
    obtain ⟨n1, n2⟩ := List.nodup_cons.mp nd'
    have ih := downs_mem (fun q hq => fm q (List.mem_cons_of_mem _ hq)) n2 k
    rw [downs_cons]
    by_cases z : k' = k
    · subst z
      rw [valV_pos rfl]
      cases b with
      | true => simp
      | false =>
        simp only [Bool.false_eq_true, if_false]
        constructor
        · intro m; exact absurd (downs_sub m) n1
        · intro m; cases m
    · rw [valV_neg (fun q => z (Sum.inl.inj q))]
      rw [← ih]
      split
      · rw [List.mem_cons]
        exact ⟨fun q => q.resolve_left fun e => z e.symm, .inr⟩
      · exact Iff.rfl
theorem HeldK.mem {kvs : List (Key × V)} {h : Int → Bool} (x : HeldK kvs h) (k : Int) : k ∈ downs kvs ↔ h k = true := by
  rw [downs_mem x.fm x.nd k]
  have q := x.at_ k
  cases e : valV kvs (Sum.inl k) with
  | none =>
    rw [e] at q
    have q : V.bl false = .bl (h k) := q
    have : h k = false := (V.bl.inj q).symm
    simp [this]
  | some v =>
    rw [e] at q
    have q : v = .bl (h k) := q
    subst q
    constructor
    · intro z
      exact V.bl.inj (Option.some.inj z)
    · intro z
      rw [z]
/-- two ascending lists of the same keys -/
theorem same_sorted {a b c d : List Int} (h : ∀ k, k ∈ a ↔ k ∈ b) (na : a.Nodup) (nb : b.Nodup) (pa : c.Perm a) (pb : d.Perm b) (sa : c.Pairwise (· ≤ ·)) (sb : d.Pairwise (· ≤ ·)) : c = d := by
  have p : a.Perm b := (List.perm_ext_iff_of_nodup na nb).mpr h
  exact List.Perm.eq_of_pairwise (fun x y _ _ h1 h2 => Int.le_antisymm h1 h2) sa sb ((pa.trans p).trans pb.symm)

/-! ### heaps that change at one address alone -/
def Off (r : Addr) (H H' : Hp) : Prop := ∀ b o, H b = some o → b ≠ r → H' b = some o
theorem Off.refl {r : Addr} (H : Hp) : Off r H H := fun _ _ h _ => h
theorem Off.trans {r : Addr} {H H1 H2 : Hp} (a : Off r H H1) (b : Off r H1 H2) : Off r H H2 := fun c o h n => b c o (a c o h n) n
theorem Off.of {r : Addr} {H H1 : Hp} (a : Same H H1) : Off r H H1 := fun c o h _ => a c o h
theorem off_upd {r : Addr} {H : Hp} {o : HO} : Off r H (upd H r o) := fun b _ h n => by rw [upd_ne n]; exact h
theorem same_upd {H : Hp} {p : Addr} {o : HO} (h : H p = none) : Same H (upd H p o) := fun b x e => by
  rw [upd_ne (ne_of_none e h)]
  exact e
/-- what is new may change -/
theorem Same.off {H H1 H2 : Hp} {p : Addr} (s : Same H H1) (h : H p = none) (o : Off p H1 H2) : Same H H2 := fun b x e => o b x (s b x e) (ne_of_none e h)

/-! ### lists of tuples -/
def Tups {α : Type} (H : Hp) (f : α → List V) (as : List Addr) (es : List α) : Prop := as.length = es.length ∧ ∀ (i : Nat) (a : Addr) (e : α), as[i]? = some a → es[i]? = some e → H a = some (.tup (f e))
def Lst {α : Type} (f : α → List V) (H : Hp) (c : Addr) (es : List α) : Prop := ∃ as : List Addr, H c = some (.lst (as.map V.ref)) ∧ Tups H f as es
section
variable {α : Type} {f : α → List V} {H H' : Hp} {c r : Addr} {as : List Addr} {es : List α}
theorem Tups.nil : Tups H f [] ([] : List α) := ⟨rfl, fun i a e h _ => by simp at h⟩
theorem Tups.same (h : Tups H f as es) (s : Same H H') : Tups H' f as es := ⟨h.1, fun i a e x y => s _ _ (h.2 i a e x y)⟩
theorem Tups.off {ys : List V} (h : Tups H f as es) (hr : H r = some (.lst ys)) (o : Off r H H') : Tups H' f as es :=
  ⟨h.1, fun i a e x y => o _ _ (h.2 i a e x y) (ne_of (h.2 i a e x y) hr (by intro z; cases z))⟩
theorem Tups.snoc {a : Addr} {e : α} (h : Tups H f as es) (ha : H a = some (.tup (f e))) : Tups H f (as ++ [a]) (es ++ [e]) := by
  refine ⟨by rw [List.length_append, List.length_append, h.1]; rfl, fun i b x hb hx => ?_⟩
  rcases Nat.lt_or_ge i as.length with q | q
  · rw [List.getElem?_append_left q] at hb
    rw [List.getElem?_append_left (by rw [← h.1]; exact q)] at hx
    exact h.2 i b x hb hx
  · have hl := h.1
    have hi : i = as.length := by
      have := (List.getElem?_eq_some_iff.mp hb).1
      rw [List.length_append] at this
      simp at this
      omega
    subst hi
    rw [List.getElem?_append_right (Nat.le_refl _), Nat.sub_self] at hb
    rw [List.getElem?_append_right (by omega), show as.length - es.length = 0 by omega] at hx
    have e1 : a = b := Option.some.inj hb
    have e2 : e = x := Option.some.inj hx
    subst e1 e2
    exact ha
theorem Tups.take (h : Tups H f as es) (n : Nat) : Tups H f (as.take n) (es.take n) := by
  refine ⟨by rw [List.length_take, List.length_take, h.1], fun i b x hb hx => ?_⟩
  have hi : i < n := by
    rcases Nat.lt_or_ge i n with q | q
    · exact q
    · rw [List.getElem?_eq_none (by rw [List.length_take]; omega)] at hb; cases hb
  rw [List.getElem?_take_of_lt hi] at hb hx
  exact h.2 i b x hb hx
theorem Tups.append {bs : List Addr} {gs : List α} (h : Tups H f as es) (h' : Tups H f bs gs) : Tups H f (as ++ bs) (es ++ gs) := by
  refine ⟨by rw [List.length_append, List.length_append, h.1, h'.1], fun i b x hb hx => ?_⟩
  have hl := h.1
  rcases Nat.lt_or_ge i as.length with q | q
  · rw [List.getElem?_append_left q] at hb
    rw [List.getElem?_append_left (by omega)] at hx
    exact h.2 i b x hb hx
  · rw [List.getElem?_append_right q] at hb
    rw [List.getElem?_append_right (by omega), ← hl] at hx
    exact h'.2 _ b x hb hx
theorem Tups.at_ (h : Tups H f as es) {i : Nat} (hi : i < es.length) : ∃ a, as[i]? = some a ∧ H a = some (.tup (f es[i])) := by
  have hl := h.1
  exact ⟨as[i], List.getElem?_eq_getElem (by omega), h.2 i _ _ (List.getElem?_eq_getElem (by omega)) (List.getElem?_eq_getElem hi)⟩
theorem Tups.map {β : Type} {g : β → α} {bs : List β} (h : Tups H f as (bs.map g)) : Tups H (fun b => f (g b)) as bs := by
  refine ⟨by rw [h.1, List.length_map], fun i a b x y => h.2 i a (g b) x (by rw [List.getElem?_map, y]; rfl)⟩
theorem Tups.map' {β : Type} {g : β → α} {bs : List β} (h : Tups H (fun b => f (g b)) as bs) : Tups H f as (bs.map g) := by
  refine ⟨by rw [h.1, List.length_map], fun i a e x y => ?_⟩
  rw [List.getElem?_map] at y
  cases z : bs[i]? with
  | none => rw [z] at y; cases y
  | some b =>
    rw [z] at y
    have y : g b = e := Option.some.inj y
    subst y
    exact h.2 i a b x z
theorem Lst.same (h : Lst f H c es) (s : Same H H') : Lst f H' c es := by
  obtain ⟨as, a, b⟩ := h
  exact ⟨as, s _ _ a, b.same s⟩
theorem Lst.off {ys : List V} (h : Lst f H c es) (hr : H r = some (.lst ys)) (n : c ≠ r) (o : Off r H H') : Lst f H' c es := by
  obtain ⟨as, a, b⟩ := h
  exact ⟨as, o _ _ a n, b.off hr o⟩
end
theorem dp_int {K : PySem.W.Frag} {H : Hp} {i : Int} : Dp K H (.int i) (.int i) := .int i
theorem dpAll_of {K : PySem.W.Frag} {H : Hp} {α : Type} {f : α → List V} {g : α → PyData} (hg : ∀ (a : Addr) (e : α), H a = some (.tup (f e)) → Dp K H (.ref a) (g e)) :
    ∀ (as : List Addr) (es : List α), Tups H f as es → DpAll K H (as.map V.ref) (es.map g)
  | [], [], _ => .nil
  | [], _ :: _, h => by have := h.1; simp at this
  | _ :: _, [], h => by have := h.1; simp at this
  | a :: as, e :: es, h => .cons (hg a e (h.2 0 a e rfl rfl)) (dpAll_of hg as es ⟨by have := h.1; simpa using this, fun i b x hb hx => h.2 (i + 1) b x (by simpa using hb) (by simpa using hx)⟩)
theorem Lst.dp {K : PySem.W.Frag} {H : Hp} {c : Addr} {es : List Ev} (h : Lst evV H c es) : Dp K H (.ref c) (recD es) := by
  obtain ⟨as, a, b⟩ := h
  refine .lst (SqL.of a) (dpAll_of (fun a e ha => ?_) as es b)
  exact .tup (SqT.of ha) (.cons (.int _) (.cons (.int _) (.cons (.str _) .nil)))
theorem Lst.dpO {K : PySem.W.Frag} {H : Hp} {c : Addr} {es : List Ev} (h : Lst stV H c es) : Dp K H (.ref c) (ordD es) := by
  obtain ⟨as, a, b⟩ := h
  refine .lst (SqL.of a) (dpAll_of (fun a e ha => ?_) as es b)
  exact .tup (SqT.of ha) (.cons (.int _) (.cons (.str _) .nil))
theorem dpInts {K : PySem.W.Frag} {H : Hp} : ∀ ns : List Int, DpAll K H (ns.map V.int) (ns.map PyData.int)
  | [] => .nil
  | n :: ns => .cons (.int n) (dpInts ns)
theorem Lst.sql {K : PySem.W.Frag} {α : Type} {f : α → List V} {H : Hp} {c : Addr} {es : List α} (h : Lst f H c es) : ∃ xs : List V, SqL K H c xs ∧ xs.length = es.length := by
  obtain ⟨as, a, b⟩ := h
  exact ⟨_, SqL.of a, by rw [List.length_map]; exact b.1⟩

theorem val_at : ∀ {kvs : List (Key × V)} {i : Nat} {k : Key} {v : V}, (kvs.map (·.1)).Nodup → kvs[i]? = some (k, v) → valV kvs k = some v
  | [], _, _, _, _, h => by simp at h
  | p :: r, 0, k, v, _, h => by
    have e : p = (k, v) := Option.some.inj h
    subst e
    exact valV_pos rfl
  | p :: r, i + 1, k, v, nd, h => by
    have nd' : (p.1 :: r.map (·.1)).Nodup := nd
    obtain ⟨n1, n2⟩ := List.nodup_cons.mp nd'
    have h' : r[i]? = some (k, v) := by simpa using h
    have m : k ∈ r.map (·.1) := List.mem_map.mpr ⟨(k, v), List.mem_of_getElem? h', rfl⟩
    rw [valV_neg (fun e => n1 (e ▸ m))]
    exact val_at n2 h'
theorem downs_append (a b : List (Key × V)) : downs (a ++ b) = downs a ++ downs b := by unfold downs; rw [List.filterMap_append]
theorem downs_take {kvs : List (Key × V)} {i : Nat} {k : Int} {b : Bool} (h : kvs[i]? = some (Sum.inl k, .bl b)) : downs (kvs.take (i + 1)) = if b then downs (kvs.take i) ++ [k] else downs (kvs.take i) := by
  rw [List.take_add_one, h, downs_append]
  cases b <;> simp [downs]
theorem downs_len (kvs : List (Key × V)) : (downs kvs).length ≤ kvs.length := by unfold downs; exact List.length_filterMap_le _ _
end Rm

set_option Elab.async false
set_option linter.all false
set_option maxRecDepth 100000
set_option maxHeartbeats 4000000
namespace Rm
open PySem PySem.Spec PyProof.Rows L2 Gd

theorem Off.new {r p : Addr} {H H1 : Hp} {o : HO} (a : Off r H H1) (n : H p = none) : Off r H (upd H1 p o) := fun b x e ne => by
  rw [upd_ne (ne_of_none e n)]
  exact a b x e ne
theorem Off.at_ {r : Addr} {H H1 : Hp} {o : HO} (a : Off r H H1) : Off r H (upd H1 r o) := a.trans off_upd
theorem Off.sameTrans {r : Addr} {H H1 H2 : Hp} (a : Off r H H1) (b : Same H1 H2) : Off r H H2 := a.trans (Off.of b)
/-- what was free stays free of it: a new address of a later heap is new for the earlier one too -/
theorem Off.free {r p : Addr} {H H1 : Hp} {o : HO} (a : Off r H H1) (hr : H1 r = some o) (n : H1 p = none) : H p = none := by
  cases e : H p with
  | none => rfl
  | some x =>
    have h : p ≠ r := fun z => by rw [z, hr] at n; cases n
    rw [a p x e h] at n
    cases n

theorem getI {ns : List Int} {d : Int} (h0 : 0 ≤ d) (h1 : d < (ns.length : Int)) : ∃ (v : Int), atI (ns.map V.int) d = some (.int v) ∧ ns[d.toNat]? = some v := by
  have hd : d.toNat < ns.length := by omega
  refine ⟨ns[d.toNat], ?_, List.getElem?_eq_getElem hd⟩
  refine at_of (j := d.toNat) (by omega) ?_
  rw [List.getElem?_map, List.getElem?_eq_getElem hd]
  rfl
theorem inv_int (k : Int) : ∀ ns : List Int, inV (.int k) (ns.map V.int) = decide (k ∈ ns)
  | [] => rfl
  | n :: ns => by
    show (eqV (.int n) (.int k) || inV (.int k) (ns.map V.int)) = _
    rw [inv_int k ns]
    have e : eqV (.int n) (.int k) = decide (n = k) := by
      by_cases z : n = k <;> simp [eqV, z]
    rw [e]
    by_cases z : n = k
    · subst z; simp
    · have z' : ¬ k = n := fun q => z q.symm
      simp [z, z']
theorem flat_ints : ∀ ns : List Int, (ns.map V.int).all flatV = true
  | [] => rfl
  | n :: ns => by
    show (flatV (.int n) && (ns.map V.int).all flatV) = true
    rw [flat_ints ns]
    rfl
theorem lay_ints : ∀ ns : List Int, PyData.canLayAll0 (ns.map PyData.int) = true ∧ PyData.depthAll (ns.map PyData.int) = 0
  | [] => ⟨rfl, rfl⟩
  | n :: ns => by
    obtain ⟨a, b⟩ := lay_ints ns
    refine ⟨?_, ?_⟩
    · show (PyData.canLay0 (.int n) && PyData.canLayAll0 (ns.map PyData.int)) = true
      rw [a]
      rfl
    · show max (PyData.depth (.int n)) (PyData.depthAll (ns.map PyData.int)) = 0
      rw [b]
      rfl
theorem shaped_ints (ns : List Int) : SeqAt.shaped (.list (ns.map PyData.int)) = true := by
  obtain ⟨a, b⟩ := lay_ints ns
  show (PyData.canLayAll0 (ns.map PyData.int) && decide (PyData.depthAll (ns.map PyData.int) + 1 ≤ 64)) = true
  rw [a, b]
  rfl
theorem eqv_nil (ds : List PyData) : PyData.eqv (.list ds) (.list []) = ds.isEmpty := by
  cases ds <;> rfl
theorem mem_eraseIdx {ns : List Int} {j : Nat} {k : Int} (nd : ns.Nodup) (h : ns[j]? = some k) (x : Int) : x ∈ ns.eraseIdx j ↔ x ≠ k ∧ x ∈ ns := by
  rw [List.mem_eraseIdx_iff_getElem?]
  constructor
  · rintro ⟨i, hi, e⟩
    refine ⟨fun z => ?_, List.mem_of_getElem? e⟩
    subst z
    exact hi (nd_ix nd e h)
  · rintro ⟨hx, hm⟩
    obtain ⟨i, e⟩ := List.getElem?_of_mem hm
    refine ⟨i, fun z => ?_, e⟩
    subst z
    rw [h] at e
    exact hx (Option.some.inj e).symm
theorem first_ix {ns : List Int} {j : Nat} {k : Int} (nd : ns.Nodup) (h : ns[j]? = some k) : ∀ m : Nat, m < j → ns[m]? ≠ some k := fun m hm e => by
  have := nd_ix nd e h
  omega

/-! ### the keys that are down, as a list -/
structure DownOk (ns : List Int) (es : List Ev) : Prop where
  nd : ns.Nodup
  mem : ∀ k, k ∈ ns ↔ heldB es k = true
theorem DownOk.nil : DownOk [] [] := ⟨List.nodup_nil, fun k => by simp [heldB]⟩
theorem DownOk.down {ns : List Int} {es : List Ev} {t k : Int} (h : DownOk ns es) (n : ¬ k ∈ ns) : DownOk (ns ++ [k]) (es ++ [⟨t, k, true⟩]) := by
  refine ⟨nd_snoc h.nd n, fun x => ?_⟩
  rw [heldB_snoc]
  unfold after
  rw [List.mem_append, List.mem_singleton, h.mem]
  by_cases z : x = k
  · subst z; simp
  · simp [z]
theorem DownOk.up {ns : List Int} {es : List Ev} {t k : Int} {j : Nat} (h : DownOk ns es) (e : ns[j]? = some k) : DownOk (ns.eraseIdx j) (es ++ [⟨t, k, false⟩]) := by
  refine ⟨h.nd.eraseIdx j, fun x => ?_⟩
  rw [heldB_snoc, mem_eraseIdx h.nd e, h.mem]
  unfold after
  by_cases z : x = k
  · subst z; simp
  · simp [z]
theorem DownOk.not {ns : List Int} {es : List Ev} {k : Int} (h : DownOk ns es) (n : ¬ k ∈ ns) : heldB es k = false := by
  cases e : heldB es k with
  | false => rfl
  | true => exact absurd ((h.mem k).mpr e) n
/-- other keys for the same -/
theorem heldB_map {f : Int → Int} (hf : ∀ a b, f a = f b → a = b) : ∀ (es : List Ev) (k : Int), heldB (es.map fun e => ⟨e.t, f e.k, e.d⟩) (f k) = heldB es k := by
  intro es k
  suffices h : ∀ (es : List Ev) (g g' : Int → Bool), (∀ k, g' (f k) = g k) → ∀ k, (es.map fun e => (⟨e.t, f e.k, e.d⟩ : Ev)).foldl after g' (f k) = es.foldl after g k from h es _ _ (fun _ => rfl) k
  intro es
  induction es with
  | nil => intro g g' h k; exact h k
  | cons e es ih =>
    intro g g' h k
    refine ih (after g e) (after g' ⟨e.t, f e.k, e.d⟩) (fun x => ?_) k
    unfold after
    by_cases z : x = e.k
    · subst z; simp
    · have z' : ¬ f x = f e.k := fun q => z (hf _ _ q)
      show (if f x = f e.k then e.d else g' (f x)) = if x = e.k then e.d else g x
      rw [if_neg z, if_neg z', h]
theorem Valid.rekey {f : Int → Int} (hf : ∀ a b, f a = f b → a = b) {es : List Ev} (h : Valid es) (h0 : ∀ e ∈ es, 0 ≤ f e.k) : Valid (es.map fun e => ⟨e.t, f e.k, e.d⟩) := fun i e x => by
  rw [List.getElem?_map] at x
  cases y : es[i]? with
  | none => rw [y] at x; cases x
  | some e' =>
    rw [y] at x
    have x : (⟨e'.t, f e'.k, e'.d⟩ : Ev) = e := Option.some.inj x
    subst x
    obtain ⟨a, b, c⟩ := h i e' y
    refine ⟨h0 e' (List.mem_of_getElem? y), ?_, fun j g hj z => ?_⟩
    · rw [← List.map_take]
      show heldB _ (f e'.k) = !e'.d
      rw [heldB_map hf]
      exact b
    · rw [List.getElem?_map] at z
      cases y2 : es[j]? with
      | none => rw [y2] at z; cases z
      | some g' =>
        rw [y2] at z
        have z : (⟨g'.t, f g'.k, g'.d⟩ : Ev) = g := Option.some.inj z
        subst z
        exact c j g' hj y2
/-- ups behind all for keys that are down -/
theorem Valid.ups {t : Int} : ∀ (ns : List Int) {es : List Ev}, Valid es → ns.Nodup → (∀ k ∈ ns, heldB es k = true ∧ 0 ≤ k) → (∀ e ∈ es, e.t ≤ t) → Valid (es ++ ns.map fun k => ⟨t, k, false⟩)
  | [], es, h, _, _, _ => by simpa using h
  | k :: ns, es, h, nd, hb, ht => by
    obtain ⟨n1, n2⟩ := List.nodup_cons.mp nd
    have h1 : Valid (es ++ [⟨t, k, false⟩]) := h.snoc (hb k List.mem_cons_self).2 (by have := (hb k List.mem_cons_self).1; simpa using this) ht
    have := Valid.ups ns h1 n2 (fun x hx => ⟨by
        rw [heldB_snoc]
        unfold after
        have z : x ≠ k := fun q => n1 (q ▸ hx)
        rw [if_neg z]
        exact (hb x (List.mem_cons_of_mem _ hx)).1, (hb x (List.mem_cons_of_mem _ hx)).2⟩) (fun e he => by
        rcases List.mem_append.mp he with he | he
        · exact ht e he
        · rw [List.mem_singleton.mp he]; exact Int.le_refl _)
    simpa using this
theorem heldB_ups {t : Int} : ∀ (ns : List Int) (es : List Ev) (k : Int), heldB (es ++ ns.map fun k => ⟨t, k, false⟩) k = (heldB es k && !decide (k ∈ ns))
  | [], es, k => by simp
  | n :: ns, es, k => by
    have e : es ++ (n :: ns).map (fun k => (⟨t, k, false⟩ : Ev)) = (es ++ [⟨t, n, false⟩]) ++ ns.map fun k => ⟨t, k, false⟩ := by simp
    rw [e, heldB_ups ns, heldB_snoc]
    unfold after
    by_cases z : k = n
    · subst z; simp
    · have : (k ∈ n :: ns) ↔ k ∈ ns := by simp [z]
      simp [z]
/-- who is down is a key of the record -/
theorem held_mem : ∀ {es : List Ev} {k : Int}, heldB es k = true → ∃ e ∈ es, e.k = k := by
  intro es k
  suffices h : ∀ (es : List Ev) (g : Int → Bool), es.foldl after g k = true → g k = true ∨ ∃ e ∈ es, e.k = k by
    intro z
    rcases h es _ z with q | q
    · cases q
    · exact q
  intro es
  induction es with
  | nil => intro g h; exact .inl h
  | cons e es ih =>
    intro g h
    rcases ih (after g e) h with q | ⟨e', he, hk⟩
    · unfold after at q
      by_cases z : k = e.k
      · exact .inr ⟨e, List.mem_cons_self, z.symm⟩
      · rw [if_neg z] at q
        exact .inl q
    · exact .inr ⟨e', List.mem_cons_of_mem _ he, hk⟩
theorem Valid.mono {es : List Ev} (h : Valid es) : ∀ (i j : Nat) (a b : Ev), i < j → es[i]? = some a → es[j]? = some b → a.t ≤ b.t := fun i j a b hij ha hb => (h j b hb).2.2 i a hij ha
theorem lay_st : ∀ es : List Ev, PyData.canLayAll0 (es.map stD) = true ∧ PyData.depthAll (es.map stD) ≤ 1
  | [] => ⟨rfl, Nat.zero_le _⟩
  | e :: es => by
    obtain ⟨a, b⟩ := lay_st es
    refine ⟨?_, ?_⟩
    · have h : PyData.canLay0 (.str (wayS e.d)) = true := by cases e.d <;> decide +kernel
      show ((true && (PyData.canLay0 (.str (wayS e.d)) && true)) && PyData.canLayAll0 (es.map stD)) = true
      rw [a, h]
      rfl
    · show max (PyData.depth (stD e)) (PyData.depthAll (es.map stD)) ≤ 1
      have : PyData.depth (stD e) = 1 := rfl
      omega
theorem shaped_ord (es : List Ev) : SeqAt.shaped (ordD es) = true := by
  obtain ⟨a, b⟩ := lay_st es
  show (PyData.canLayAll0 (es.map stD) && decide (PyData.depthAll (es.map stD) + 1 ≤ 64)) = true
  rw [a, decide_eq_true (by omega)]
  rfl
theorem shaped_nil : SeqAt.shaped (.list []) = true := rfl
end Rm

set_option Elab.async false
set_option linter.all false
set_option maxRecDepth 100000
set_option maxHeartbeats 4000000
/-! the lengths of presses -/
namespace Rm
open PySem PySem.Spec PyProof.Rows L2 Gd
/-- the tick of the next event of this key -/
def nextT (k : Int) (es : List Ev) : Option Int := (es.find? fun e => e.k == k).map (·.t)
theorem nextT_snoc {k : Int} {es : List Ev} {e : Ev} : nextT k (es ++ [e]) = match nextT k es with
    | some t => some t
    | none => if e.k = k then some e.t else none := by
  unfold nextT
  rw [List.find?_append]
  cases h : es.find? fun e => e.k == k with
  | some x => rfl
  | none =>
    by_cases z : e.k = k
    · simp [z]
    · simp [z]
/-- what the press at i is, seen from n events -/
def lenN (es : List Ev) (n i : Nat) : Option Int := match es[i]? with
  | some e => if e.d = true ∧ i < n then (nextT e.k ((es.take n).drop (i + 1))).map (· - e.t) else none
  | none => none
def lens (es : List Ev) : List (Option Int) := (List.range es.length).map fun i => lenN es es.length i
/-- the down at d is the last event of key k among the first n -/
structure Open (es : List Ev) (n : Nat) (k : Int) (d : Nat) : Prop where
  lt : d < n
  ev : ∃ e, es[d]? = some e ∧ e.k = k ∧ e.d = true
  no : nextT k ((es.take n).drop (d + 1)) = none
theorem nextT_mem {k : Int} {es : List Ev} (h : nextT k es = none) : ∀ e ∈ es, e.k ≠ k := fun e he z => by
  unfold nextT at h
  have h := Option.map_eq_none_iff.mp h
  have := List.find?_eq_none.mp h e he
  simp [z] at this
theorem Open.uniq {es : List Ev} {n : Nat} {k : Int} {d d' : Nat} (a : Open es n k d) (b : Open es n k d') : d = d' := by
  have key : ∀ x y : Nat, Open es n k x → Open es n k y → ¬ x < y := fun x y hx hy l => by
    obtain ⟨e, he, hk, _⟩ := hy.ev
    refine nextT_mem hx.no e ?_ hk
    refine List.mem_of_getElem? (i := y - (x + 1)) ?_
    rw [List.getElem?_drop, show x + 1 + (y - (x + 1)) = y by omega, List.getElem?_take_of_lt hy.lt]
    exact he
  have := key d d' a b
  have := key d' d b a
  omega
theorem drop_take_succ {es : List Ev} {n i : Nat} {e : Ev} (he : es[n]? = some e) (hi : i < n) : (es.take (n + 1)).drop (i + 1) = (es.take n).drop (i + 1) ++ [e] := by
  have hn := (List.getElem?_eq_some_iff.mp he).1
  rw [List.take_add_one, he]
  show (es.take n ++ [e]).drop (i + 1) = _
  rw [List.drop_append_of_le_length (by rw [List.length_take]; omega)]
/-- who is down has an open press -/
theorem Open.step {es : List Ev} {n : Nat} {e : Ev} (he : es[n]? = some e) {k : Int} {d : Nat} (h : Open es n k d) (hk : e.k ≠ k) : Open es (n + 1) k d := by
  refine ⟨Nat.lt_succ_of_lt h.lt, h.ev, ?_⟩
  rw [drop_take_succ he h.lt, nextT_snoc, h.no]
  exact if_neg hk
theorem Open.new {es : List Ev} {n : Nat} {e : Ev} (he : es[n]? = some e) (hd : e.d = true) : Open es (n + 1) e.k n := by
  refine ⟨Nat.lt_succ_self _, ⟨e, he, rfl, hd⟩, ?_⟩
  rw [List.drop_eq_nil_of_le (by rw [List.length_take]; omega)]
  rfl
/-- an open press is one of a key that is down -/
theorem Open.held {es : List Ev} : ∀ {n : Nat} {k : Int} {d : Nat}, n ≤ es.length → Open es n k d → heldB (es.take n) k = true
  | 0, _, _, _, h => absurd h.lt (by omega)
  | n + 1, k, d, hn, h => by
    have he : es[n]? = some es[n] := List.getElem?_eq_getElem (by omega)
    rw [heldB_take he]
    unfold after
    by_cases z : k = es[n].k
    · rw [if_pos z]
      by_cases y : d = n
      · obtain ⟨e, h1, _, h3⟩ := h.ev
        rw [y, he] at h1
        rw [Option.some.inj h1]
        exact h3
      · have hl := h.lt
        have hno := h.no
        rw [drop_take_succ he (by omega), nextT_snoc] at hno
        cases q : nextT k ((es.take n).drop (d + 1)) with
        | some t => rw [q] at hno; cases hno
        | none =>
          rw [q] at hno
          have hno : (if es[n].k = k then some es[n].t else none) = none := hno
          rw [if_pos z.symm] at hno
          cases hno
    · rw [if_neg z]
      have hl := h.lt
      have dn : d ≠ n := fun y => by
        obtain ⟨e, h1, h2, _⟩ := h.ev
        rw [y, he] at h1
        have := Option.some.inj h1
        subst this
        exact z h2.symm
      refine Open.held (by omega) ⟨by omega, h.ev, ?_⟩
      have hno := h.no
      rw [drop_take_succ he (by omega), nextT_snoc] at hno
      cases q : nextT k ((es.take n).drop (d + 1)) with
      | some t => rw [q] at hno; cases hno
      | none => rfl
/-- an up fills the open press of its key alone; a down fills none -/
theorem lenN_down {es : List Ev} {n : Nat} {e : Ev} (hV : Valid es) (he : es[n]? = some e) (hd : e.d = true) (i : Nat) : lenN es (n + 1) i = lenN es n i := by
  unfold lenN
  cases h : es[i]? with
  | none => rfl
  | some x =>
    by_cases z : x.d = true ∧ i < n
    · show (if x.d = true ∧ i < n + 1 then _ else none) = if x.d = true ∧ i < n then _ else none
      rw [if_pos z, if_pos ⟨z.1, by omega⟩, drop_take_succ he z.2, nextT_snoc]
      cases q : nextT x.k ((es.take n).drop (i + 1)) with
      | some t => rfl
      | none =>
        have hn := (List.getElem?_eq_some_iff.mp he).1
        have := Open.held (by omega) (⟨z.2, ⟨x, h, rfl, z.1⟩, q⟩ : Open es n x.k i)
        by_cases y : e.k = x.k
        · have v := (hV n e he).2.1
          rw [y, this, hd] at v
          cases v
        · show Option.map _ (if e.k = x.k then some e.t else none) = _
          rw [if_neg y]
    · show (if x.d = true ∧ i < n + 1 then _ else none) = if x.d = true ∧ i < n then _ else none
      rw [if_neg z]
      by_cases y : x.d = true ∧ i < n + 1
      · have : i = n := by
          rcases Nat.lt_or_ge i n with l | l
          · exact absurd ⟨y.1, l⟩ z
          · omega
        subst this
        rw [if_pos y, List.drop_eq_nil_of_le (by rw [List.length_take]; omega)]
        rfl
      · rw [if_neg y]
theorem lenN_up {es : List Ev} {n d : Nat} {e x : Ev} (he : es[n]? = some e) (hd : e.d = false) (o : Open es n e.k d) (hx : es[d]? = some x) (i : Nat) : lenN es (n + 1) i = if i = d then some (e.t - x.t) else lenN es n i := by
  have hn := (List.getElem?_eq_some_iff.mp he).1
  unfold lenN
  by_cases z : i = d
  · subst z
    rw [if_pos rfl, hx]
    obtain ⟨y, h1, h2, h3⟩ := o.ev
    rw [hx] at h1
    have h1 := Option.some.inj h1
    subst h1
    show (if x.d = true ∧ i < n + 1 then _ else none) = _
    rw [if_pos ⟨h3, Nat.lt_succ_of_lt o.lt⟩, drop_take_succ he o.lt, nextT_snoc, h2, o.no]
    show Option.map _ (if e.k = e.k then some e.t else none) = _
    rw [if_pos rfl]
    rfl
  · rw [if_neg z]
    cases h : es[i]? with
    | none => rfl
    | some y =>
      show (if y.d = true ∧ i < n + 1 then _ else none) = if y.d = true ∧ i < n then _ else none
      by_cases v : y.d = true ∧ i < n
      · rw [if_pos v, if_pos ⟨v.1, by omega⟩, drop_take_succ he v.2, nextT_snoc]
        cases q : nextT y.k ((es.take n).drop (i + 1)) with
        | some t => rfl
        | none =>
          show Option.map _ (if e.k = y.k then some e.t else none) = _
          by_cases u : e.k = y.k
          · exact absurd (Open.uniq (⟨v.2, ⟨y, h, u.symm, v.1⟩, u ▸ q⟩ : Open es n e.k i) o) z
          · rw [if_neg u]
      · rw [if_neg v]
        by_cases u : y.d = true ∧ i < n + 1
        · have : i = n := by
            rcases Nat.lt_or_ge i n with l | l
            · exact absurd ⟨u.1, l⟩ v
            · omega
          subst this
          rw [he] at h
          have := Option.some.inj h
          subst this
          rw [hd] at u
          cases u.1
        · rw [if_neg u]
end Rm

set_option Elab.async false
set_option linter.all false
set_option maxRecDepth 100000
set_option maxHeartbeats 4000000
namespace La
open PySem PySem.Spec PyProof.Rows L2 Gd Rm

/-! ### codes -/
def signs : Str := "abcdefghijklmnopqrstuvwxyz0123456789"
def CodeOk (c : Str) : Prop := 1 ≤ c.cps.size ∧ c.cps.size ≤ 8 ∧ ∀ x ∈ c.cps.toList, x ∈ signs.cps.toList
instance (c : Str) : Decidable (CodeOk c) := by unfold CodeOk; infer_instance
theorem signs_low : ∀ x ∈ signs.cps.toList, x < 16 ^ 8 := by decide +kernel
theorem fit_code {c : Str} (h : CodeOk c) : Fit 210 0 (.str c) := by
  refine ⟨rfl, Nat.le_refl _, ?_⟩
  have q := PySem.StrLaws.reprText_len c fun x hx => signs_low x (h.2.2 x hx)
  have e : c.length = c.cps.size := rfl
  have := h.2.1
  show (reprText c).length ≤ 210
  omega
theorem joinL_one : ∀ cs : List Nat, TL.joinL [] (cs.map fun c => [c]) = cs
  | [] => rfl
  | [c] => rfl
  | c :: d :: r => by
    have ih := joinL_one (d :: r)
    show [c] ++ ([] ++ TL.joinL [] ((d :: r).map fun c => [c])) = c :: d :: r
    rw [ih]
    rfl
theorem join_one (cs : List Nat) : (Txt.join (("" : String) : Str) (cs.map fun c => (⟨#[c]⟩ : Str))).cps.toList = cs := by
  have h : ∀ a ys, Txt.join a ys = Str.join a ys := fun a ys => TL.join_eq a ys
  rw [h]
  show TL.tl (Str.join _ _) = cs
  rw [TL.tl_join, List.map_map]
  exact joinL_one cs
theorem code_join {cs : List Nat} (h1 : 1 ≤ cs.length) (h8 : cs.length ≤ 8) (h : ∀ c ∈ cs, c ∈ signs.cps.toList) : CodeOk (Txt.join (("" : String) : Str) (cs.map fun c => (⟨#[c]⟩ : Str))) := by
  have e := join_one cs
  refine ⟨?_, ?_, fun x hx => ?_⟩
  · rw [← Array.length_toList, e]; exact h1
  · rw [← Array.length_toList, e]; exact h8
  · rw [e] at hx; exact h x hx

/-! ### actions -/
inductive Actn where
  | none
  | thr
  | code (c : Str)
  | lay (w : Str) (j : Int)
  | dualC (c d : Str) (t : Int) (r : Str)
  | dualL (c : Str) (j t : Int) (r : Str)
def layWords : List Str := ["layer", "lock", "once"]
def rules : List Str := ["time", "other", "within"]
def ActOk (n i : Int) : Actn → Prop
  | .none => True
  | .thr => 0 < i
  | .code c => CodeOk c
  | .lay w j => w ∈ layWords ∧ 1 ≤ j ∧ j ≤ n - 1
  | .dualC c d t r => CodeOk c ∧ CodeOk d ∧ (1 ≤ t ∧ t ≤ 1000000000) ∧ r ∈ rules
  | .dualL c j t r => CodeOk c ∧ (1 ≤ j ∧ j ≤ n - 1) ∧ (1 ≤ t ∧ t ≤ 1000000000) ∧ r ∈ rules
def ActV (H : Hp) : Actn → V → Prop
  | .none, v => v = .str "none"
  | .thr, v => v = .str "through"
  | .code c, v => ∃ a, v = .ref a ∧ H a = some (.tup [.str "code", .str c])
  | .lay w j, v => ∃ a, v = .ref a ∧ H a = some (.tup [.str w, .int j])
  | .dualC c d t r, v => ∃ a b, v = .ref a ∧ H a = some (.tup [.str "dual", .str c, .ref b, .int t, .str r]) ∧ H b = some (.tup [.str "code", .str d])
  | .dualL c j t r, v => ∃ a b, v = .ref a ∧ H a = some (.tup [.str "dual", .str c, .ref b, .int t, .str r]) ∧ H b = some (.tup [.str "layer", .int j])
def actD : Actn → PyData
  | .none => .str "none"
  | .thr => .str "through"
  | .code c => .tuple [.str "code", .str c]
  | .lay w j => .tuple [.str w, .int j]
  | .dualC c d t r => .tuple [.str "dual", .str c, .tuple [.str "code", .str d], .int t, .str r]
  | .dualL c j t r => .tuple [.str "dual", .str c, .tuple [.str "layer", .int j], .int t, .str r]
theorem fit_word {w : Str} (h : w ∈ layWords ∨ w ∈ rules) : Fit 210 0 (.str w) := by
  refine ⟨rfl, Nat.le_refl _, ?_⟩
  unfold layWords rules at h
  simp only [List.mem_cons, List.mem_nil_iff, or_false] at h
  rcases h with (rfl | rfl | rfl) | (rfl | rfl | rfl) <;> decide +kernel
theorem fit_const (w : Str) (h : (reprText w).length ≤ 210 := by decide +kernel) : Fit 210 0 (.str w) := ⟨rfl, Nat.le_refl _, h⟩
theorem fit_two' {a b : PyData} (ha : Fit 210 0 a) (hb : Fit 210 0 b) : Fit 500 1 (.tuple [a, b]) := by
  refine Fit.mono (fit_tup (L := 210) (n := 0) fun d hd => ?_) (by show 2 * 212 + 3 ≤ 500; decide) (Nat.le_refl _)
  simp only [List.mem_cons, List.mem_nil_iff, or_false] at hd
  rcases hd with rfl | rfl
  · exact ha
  · exact hb
theorem fit_five {a b c d e : PyData} (ha : Fit 210 0 a) (hb : Fit 210 0 b) (hc : Fit 500 1 c) (hd : Fit 210 0 d) (he : Fit 210 0 e) : Fit 3000 2 (.tuple [a, b, c, d, e]) := by
  refine Fit.mono (fit_tup (L := 500) (n := 1) fun x hx => ?_) (by show 5 * 502 + 3 ≤ 3000; decide) (Nat.le_refl _)
  simp only [List.mem_cons, List.mem_nil_iff, or_false] at hx
  rcases hx with rfl | rfl | rfl | rfl | rfl
  · exact ha.mono (by decide) (by decide)
  · exact hb.mono (by decide) (by decide)
  · exact hc
  · exact hd.mono (by decide) (by decide)
  · exact he.mono (by decide) (by decide)
theorem fit_low {i : Int} (h : 0 ≤ i) (h2 : i ≤ 1000000000) : Fit 210 0 (.int i) := fit_int (by
  have : (2 : Nat) ^ 200 > 1000000000 := by decide
  omega)
theorem fit_act {n i : Int} {x : Actn} (h : ActOk n i x) (hn : n ≤ 1000) : Fit 3000 2 (actD x) := by
  cases x with
  | none => exact (fit_const "none").mono (by decide) (by decide)
  | thr => exact (fit_const "through").mono (by decide) (by decide)
  | code c => exact (fit_two' (fit_const "code") (fit_code h)).mono (by decide) (by decide)
  | lay w j =>
    obtain ⟨a, b, c⟩ := h
    exact (fit_two' (fit_word (.inl a)) (fit_low (by omega) (by omega))).mono (by decide) (by decide)
  | dualC c d t r =>
    obtain ⟨a, b, ⟨c1, c2⟩, e⟩ := h
    exact fit_five (fit_const "dual") (fit_code a) (fit_two' (fit_const "code") (fit_code b)) (fit_low (by omega) c2) (fit_word (.inr e))
  | dualL c j t r =>
    obtain ⟨a, ⟨b1, b2⟩, ⟨c1, c2⟩, e⟩ := h
    exact fit_five (fit_const "dual") (fit_code a) (fit_two' (fit_const "layer") (fit_low (by omega) (by omega))) (fit_low (by omega) c2) (fit_word (.inr e))

/-! ### heaps in which tuples stay -/
def Tk (H H' : Hp) : Prop := ∀ b xs, H b = some (.tup xs) → H' b = some (.tup xs)
theorem Tk.of {H H' : Hp} (s : Same H H') : Tk H H' := fun b xs h => s _ _ h
theorem Tk.trans {H H1 H2 : Hp} (a : Tk H H1) (b : Tk H1 H2) : Tk H H2 := fun c xs h => b c xs (a c xs h)
theorem Tk.refl (H : Hp) : Tk H H := fun _ _ h => h
theorem tk_upd {H : Hp} {r : Addr} {ys zs : List V} (h : H r = some (.lst ys)) : Tk H (upd H r (.lst zs)) := fun b xs e => by
  rw [upd_ne (ne_of e h (by intro z; cases z))]
  exact e
theorem ActV.keep {H H' : Hp} (t : Tk H H') : ∀ {x : Actn} {v : V}, ActV H x v → ActV H' x v
  | .none, _, h => h
  | .thr, _, h => h
  | .code _, _, ⟨a, e, h⟩ => ⟨a, e, t _ _ h⟩
  | .lay _ _, _, ⟨a, e, h⟩ => ⟨a, e, t _ _ h⟩
  | .dualC _ _ _ _, _, ⟨a, b, e, h, g⟩ => ⟨a, b, e, t _ _ h, t _ _ g⟩
  | .dualL _ _ _ _, _, ⟨a, b, e, h, g⟩ => ⟨a, b, e, t _ _ h, t _ _ g⟩
theorem ActV.dp {K : PySem.W.Frag} {H : Hp} : ∀ {x : Actn} {v : V}, ActV H x v → Dp K H v (actD x)
  | .none, _, h => by cases h; exact .str _
  | .thr, _, h => by cases h; exact .str _
  | .code _, _, ⟨a, e, h⟩ => by cases e; exact .tup (SqT.of h) (.cons (.str _) (.cons (.str _) .nil))
  | .lay _ _, _, ⟨a, e, h⟩ => by cases e; exact .tup (SqT.of h) (.cons (.str _) (.cons (.int _) .nil))
  | .dualC _ _ _ _, _, ⟨a, b, e, h, g⟩ => by
    cases e
    exact .tup (SqT.of h) (.cons (.str _) (.cons (.str _) (.cons (.tup (SqT.of g) (.cons (.str _) (.cons (.str _) .nil))) (.cons (.int _) (.cons (.str _) .nil)))))
  | .dualL _ _ _ _, _, ⟨a, b, e, h, g⟩ => by
    cases e
    exact .tup (SqT.of h) (.cons (.str _) (.cons (.str _) (.cons (.tup (SqT.of g) (.cons (.str _) (.cons (.int _) .nil))) (.cons (.int _) (.cons (.str _) .nil)))))

/-! ### rows and layouts -/
def Acts (H : Hp) (vs : List V) (xs : List Actn) : Prop := vs.length = xs.length ∧ ∀ (i : Nat) (v : V) (x : Actn), vs[i]? = some v → xs[i]? = some x → ActV H x v
def Row (H : Hp) (r : Addr) (xs : List Actn) : Prop := ∃ vs, H r = some (.lst vs) ∧ Acts H vs xs
def Rows (H : Hp) (rs : List Addr) (L : List (List Actn)) : Prop := rs.length = L.length ∧ ∀ (i : Nat) (r : Addr) (row : List Actn), rs[i]? = some r → L[i]? = some row → Row H r row
def Lay (H : Hp) (c : Addr) (L : List (List Actn)) : Prop := ∃ rs : List Addr, H c = some (.lst (rs.map V.ref)) ∧ Rows H rs L
def rowD (xs : List Actn) : PyData := .list (xs.map actD)
def layD (L : List (List Actn)) : PyData := .list (L.map rowD)
structure LayOk (L : List (List Actn)) (m : Nat) : Prop where
  n1 : 1 ≤ L.length
  n6 : L.length ≤ 6
  m1 : 1 ≤ m
  m16 : m ≤ 16
  len : ∀ row ∈ L, row.length = m
  ok : ∀ (i : Nat) (row : List Actn), L[i]? = some row → ∀ x ∈ row, ActOk L.length i x
section
variable {H H' : Hp} {c r : Addr} {vs : List V} {xs : List Actn} {rs : List Addr} {L : List (List Actn)} {m : Nat}
theorem Acts.nil : Acts H [] [] := ⟨rfl, fun i v x h _ => by simp at h⟩
theorem Acts.keep (h : Acts H vs xs) (t : Tk H H') : Acts H' vs xs := ⟨h.1, fun i v x a b => (h.2 i v x a b).keep t⟩
theorem Acts.at_ (h : Acts H vs xs) {i : Nat} (hi : i < xs.length) : ∃ v, vs[i]? = some v ∧ ActV H xs[i] v := by
  have hl := h.1
  exact ⟨vs[i], List.getElem?_eq_getElem (by omega), h.2 i _ _ (List.getElem?_eq_getElem (by omega)) (List.getElem?_eq_getElem hi)⟩
theorem Acts.snoc {v : V} {x : Actn} (h : Acts H vs xs) (hv : ActV H x v) : Acts H (vs ++ [v]) (xs ++ [x]) := by
  refine ⟨by rw [List.length_append, List.length_append, h.1]; rfl, fun i u y a b => ?_⟩
  have hl := h.1
  rcases Nat.lt_or_ge i vs.length with q | q
  · rw [List.getElem?_append_left q] at a
    rw [List.getElem?_append_left (by omega)] at b
    exact h.2 i u y a b
  · have hi : i = vs.length := by
      have := (List.getElem?_eq_some_iff.mp a).1
      rw [List.length_append] at this
      simp at this
      omega
    subst hi
    rw [List.getElem?_append_right (Nat.le_refl _), Nat.sub_self] at a
    rw [List.getElem?_append_right (by omega), show vs.length - xs.length = 0 by omega] at b
    have e1 : v = u := Option.some.inj a
    have e2 : x = y := Option.some.inj b
    subst e1 e2
    exact hv
theorem Acts.set {v : V} {x : Actn} {j : Nat} (h : Acts H vs xs) (hv : ActV H x v) : Acts H (vs.set j v) (xs.set j x) := by
  refine ⟨by rw [List.length_set, List.length_set, h.1], fun i u y a b => ?_⟩
  have hl := h.1
  by_cases z : j = i
  · subst z
    have hj : j < vs.length := by
      have := (List.getElem?_eq_some_iff.mp a).1
      rwa [List.length_set] at this
    rw [List.getElem?_set_self hj] at a
    rw [List.getElem?_set_self (by omega)] at b
    have e1 : v = u := Option.some.inj a
    have e2 : x = y := Option.some.inj b
    subst e1 e2
    exact hv
  · rw [List.getElem?_set_ne z] at a b
    exact h.2 i u y a b
theorem Row.same (h : Row H r xs) (s : Same H H') : Row H' r xs := by
  obtain ⟨vs, a, b⟩ := h
  exact ⟨vs, s _ _ a, b.keep (Tk.of s)⟩
theorem Rows.same (h : Rows H rs L) (s : Same H H') : Rows H' rs L := ⟨h.1, fun i r row a b => (h.2 i r row a b).same s⟩
theorem Lay.same (h : Lay H c L) (s : Same H H') : Lay H' c L := by
  obtain ⟨rs, a, b⟩ := h
  exact ⟨rs, s _ _ a, b.same s⟩
theorem Rows.at_ (h : Rows H rs L) {i : Nat} (hi : i < L.length) : ∃ r, rs[i]? = some r ∧ Row H r L[i] := by
  have hl := h.1
  exact ⟨rs[i], List.getElem?_eq_getElem (by omega), h.2 i _ _ (List.getElem?_eq_getElem (by omega)) (List.getElem?_eq_getElem hi)⟩
theorem Acts.dp {K : PySem.W.Frag} : ∀ {vs : List V} {xs : List Actn}, Acts H vs xs → DpAll K H vs (xs.map actD)
  | [], [], _ => .nil
  | [], _ :: _, h => by have := h.1; simp at this
  | _ :: _, [], h => by have := h.1; simp at this
  | v :: vs, x :: xs, h => .cons ((h.2 0 v x rfl rfl).dp) (Acts.dp ⟨by have := h.1; simpa using this, fun i u y a b => h.2 (i + 1) u y (by simpa using a) (by simpa using b)⟩)
theorem Row.dp {K : PySem.W.Frag} (h : Row H r xs) : Dp K H (.ref r) (rowD xs) := by
  obtain ⟨vs, a, b⟩ := h
  exact .lst (SqL.of a) b.dp
theorem Rows.dp {K : PySem.W.Frag} : ∀ {rs : List Addr} {L : List (List Actn)}, Rows H rs L → DpAll K H (rs.map V.ref) (L.map rowD)
  | [], [], _ => .nil
  | [], _ :: _, h => by have := h.1; simp at this
  | _ :: _, [], h => by have := h.1; simp at this
  | r :: rs, row :: L, h => .cons ((h.2 0 r row rfl rfl).dp) (Rows.dp ⟨by have := h.1; simpa using this, fun i u y a b => h.2 (i + 1) u y (by simpa using a) (by simpa using b)⟩)
theorem Lay.dp {K : PySem.W.Frag} (h : Lay H c L) : Dp K H (.ref c) (layD L) := by
  obtain ⟨rs, a, b⟩ := h
  exact .lst (SqL.of a) b.dp
theorem LayOk.fit (h : LayOk L m) : Fit 300100 4 (layD L) := by
  refine Fit.mono (fit_list (L := 50000) (n := 3) fun d hd => ?_) (by rw [List.length_map]; have := h.n6; omega) (Nat.le_refl _)
  obtain ⟨row, hr, rfl⟩ := List.mem_map.mp hd
  obtain ⟨i, hi⟩ := List.getElem?_of_mem hr
  refine Fit.mono (fit_list (L := 3000) (n := 2) fun d hd => ?_) (by rw [List.length_map, h.len row hr]; have := h.m16; omega) (Nat.le_refl _)
  obtain ⟨x, hx, rfl⟩ := List.mem_map.mp hd
  exact fit_act (h.ok i row hi x hx) (by have := h.n6; omega)
theorem LayOk.set (h : LayOk L m) {i j : Nat} {x : Actn} {row : List Actn} (hi : L[i]? = some row) (hx : ActOk L.length i x) : LayOk (L.set i (row.set j x)) m := by
  have hil := (List.getElem?_eq_some_iff.mp hi).1
  refine ⟨by rw [List.length_set]; exact h.n1, by rw [List.length_set]; exact h.n6, h.m1, h.m16, fun r hr => ?_, fun k r hk y hy => ?_⟩
  · rcases List.mem_or_eq_of_mem_set hr with q | q
    · exact h.len r q
    · rw [q, List.length_set]; exact h.len row (List.mem_of_getElem? hi)
  · rw [List.length_set]
    by_cases z : i = k
    · subst z
      rw [List.getElem?_set_self hil] at hk
      have e : row.set j x = r := Option.some.inj hk
      subst e
      rcases List.mem_or_eq_of_mem_set hy with q | q
      · exact h.ok i row hi y q
      · rw [q]; exact hx
    · rw [List.getElem?_set_ne z] at hk
      exact h.ok k r hk y hy
end
theorem inv_str (k : Str) : ∀ ws : List Str, inV (.str k) (ws.map V.str) = decide (k ∈ ws)
  | [] => rfl
  | n :: ns => by
    show (eqV (.str n) (.str k) || inV (.str k) (ns.map V.str)) = _
    rw [inv_str k ns]
    have e : eqV (.str n) (.str k) = decide (n = k) := by
      by_cases z : n = k <;> simp [eqV, z]
    rw [e]
    by_cases z : n = k
    · subst z; simp
    · have z' : ¬ k = n := fun q => z q.symm
      simp [z, z']
end La

set_option Elab.async false
set_option linter.all false
set_option maxRecDepth 100000
set_option maxHeartbeats 4000000
namespace Tx
open PySem PySem.Spec PyProof.Rows L2 Gd Rm La

/-! ### signs and numbers -/
theorem empty_app (x : Str) : Str.empty ++ x = x := TL.ext_tl (by rw [TL.tl_append]; rfl)
def numS (i : Int) : Str := Str.ofString (toString i)
theorem numS_tl {i : Int} (h : 0 ≤ i) : TL.tl (numS i) = TL.numL i.toNat := by
  have e : i = ((i.toNat : Nat) : Int) := by omega
  unfold numS
  rw [e]
  exact TL.tl_num _
theorem numL_head : ∀ n : Nat, 1 ≤ n → ∃ c r, TL.numL n = c :: r ∧ c ≠ 48 := by
  intro n
  induction n using Nat.strongRecOn with
  | _ n ih =>
    intro h
    by_cases z : n < 10
    · exact ⟨48 + n, [], TL.numL_lt z, by omega⟩
    · obtain ⟨c, r, e, hc⟩ := ih (n / 10) (by omega) (by omega)
      refine ⟨c, r ++ [48 + n % 10], ?_, hc⟩
      rw [TL.numL_step (by omega), e]
      rfl
theorem numL_low {n c : Nat} (h : c ∈ TL.numL n) : 48 ≤ c ∧ c ≤ 57 := TL.numL_digits n c h
theorem numS_len {i : Int} (h0 : 0 ≤ i) (h : i ≤ 1000000000) : (numS i).length ≤ 10 := by
  rw [TL.len_tl, numS_tl h0]
  refine TL.numL_len (by decide) ?_
  have : (10 : Nat) ^ 10 = 10000000000 := by decide
  omega
theorem numS_int {i : Int} (h0 : 0 ≤ i) (h : i ≤ 1000000000) : intText? (numS i) = some i := by
  have e : i = ((i.toNat : Nat) : Int) := by omega
  have l := numS_len h0 h
  rw [TL.len_tl, numS_tl h0] at l
  have := TL.int_num (n := i.toNat) (by omega)
  unfold numS
  rw [e]
  exact this
def sgn (w : Str) : Str := if w = ("layer" : String) then "@" else if w = ("lock" : String) then "!" else "^"
def rsg (r : Str) : Str := if r = ("time" : String) then "t" else if r = ("other" : String) then "o" else "w"
theorem signs_cases : ∀ c ∈ signs.cps.toList, (48 ≤ c ∧ c ≤ 57) ∨ (97 ≤ c ∧ c ≤ 122) := by decide +kernel
theorem code_low {c : Str} (h : CodeOk c) : ∀ x ∈ TL.tl c, (48 ≤ x ∧ x ≤ 57) ∨ (97 ≤ x ∧ x ≤ 122) := fun x hx => signs_cases x (h.2.2 x hx)
theorem code_len {c : Str} (h : CodeOk c) : c.length ≤ 8 := h.2.1
theorem sgn_tl {w : Str} (h : w ∈ layWords) : ∃ c, TL.tl (sgn w) = [c] ∧ (c = 64 ∨ c = 33 ∨ c = 94) ∧ sgn w = ⟨#[c]⟩ := by
  unfold layWords at h
  simp only [List.mem_cons, List.mem_nil_iff, or_false] at h
  rcases h with rfl | rfl | rfl
  · exact ⟨64, by decide +kernel, .inl rfl, by decide +kernel⟩
  · exact ⟨33, by decide +kernel, .inr (.inl rfl), by decide +kernel⟩
  · exact ⟨94, by decide +kernel, .inr (.inr rfl), by decide +kernel⟩
theorem rsg_tl {r : Str} (h : r ∈ rules) : ∃ c, TL.tl (rsg r) = [c] ∧ 97 ≤ c ∧ c ≤ 122 ∧ rsg r = ⟨#[c]⟩ := by
  unfold rules at h
  simp only [List.mem_cons, List.mem_nil_iff, or_false] at h
  rcases h with rfl | rfl | rfl
  · exact ⟨116, by decide +kernel, by decide, by decide, by decide +kernel⟩
  · exact ⟨111, by decide +kernel, by decide, by decide, by decide +kernel⟩
  · exact ⟨119, by decide +kernel, by decide, by decide, by decide +kernel⟩
/-- the word of an action -/
def wtx : Actn → Str
  | .none => "."
  | .thr => "-"
  | .code c => c
  | .lay w j => sgn w ++ numS j
  | .dualC c d t r => c ++ "/" ++ d ++ ":" ++ numS t ++ rsg r
  | .dualL c j t r => c ++ "/" ++ (sgn "layer" ++ numS j) ++ ":" ++ numS t ++ rsg r
theorem tl_s1 : TL.tl (("/" : String) : Str) = [47] := by decide +kernel
theorem tl_s2 : TL.tl (((":" : String)) : Str) = [58] := by decide +kernel
theorem tl_s3 : TL.tl (((" " : String)) : Str) = [32] := by decide +kernel
theorem tl_s4 : TL.tl (((  "\n" : String)) : Str) = [10] := by decide +kernel
theorem lay_in : (("layer" : String) : Str) ∈ layWords := by decide +kernel
theorem low33 {n i : Int} {x : Actn} (h : ActOk n i x) : ∀ c ∈ TL.tl (wtx x), 33 ≤ c := by
  have code : ∀ {c : Str}, CodeOk c → ∀ x ∈ TL.tl c, 33 ≤ x := fun hc x hx => by
    rcases code_low hc x hx with z | z <;> omega
  have num : ∀ {j : Int}, 0 ≤ j → ∀ x ∈ TL.tl (numS j), 33 ≤ x := fun hj x hx => by
    rw [numS_tl hj] at hx
    have := numL_low hx
    omega
  cases x with
  | none => decide +kernel
  | thr => decide +kernel
  | code c => exact code h
  | lay w j =>
    obtain ⟨h1, h2, h3⟩ := h
    intro c hc
    obtain ⟨d, e, hd, _⟩ := sgn_tl h1
    rw [wtx, TL.tl_append, e] at hc
    rcases List.mem_append.mp hc with z | z
    · rw [List.mem_singleton.mp z]; omega
    · exact num (by omega) c z
  | dualC c d t r =>
    obtain ⟨h1, h2, ⟨h3, h4⟩, h5⟩ := h
    obtain ⟨k, e, k1, k2, _⟩ := rsg_tl h5
    intro x hx
    simp only [wtx, TL.tl_append, tl_s1, tl_s2, e, List.mem_append, List.mem_singleton] at hx
    rcases hx with ((((z | z) | z) | z) | z) | z
    · exact code h1 x z
    · omega
    · exact code h2 x z
    · omega
    · exact num (by omega) x z
    · omega
  | dualL c j t r =>
    obtain ⟨h1, ⟨h2, h2'⟩, ⟨h3, h4⟩, h5⟩ := h
    obtain ⟨k, e, k1, k2, _⟩ := rsg_tl h5
    obtain ⟨g, eg, hg, _⟩ := sgn_tl lay_in
    intro x hx
    simp only [wtx, TL.tl_append, tl_s1, tl_s2, e, eg, List.mem_append, List.mem_singleton] at hx
    rcases hx with ((((z | z) | z) | z) | z) | z
    · exact code h1 x z
    · omega
    · rcases z with z | z
      · omega
      · exact num (by omega) x z
    · omega
    · exact num (by omega) x z
    · omega
theorem len_app (x y : Str) : (x ++ y).length = x.length + y.length := by
  rw [TL.len_tl, TL.tl_append, List.length_append, ← TL.len_tl, ← TL.len_tl]
theorem sgn_len {w : Str} (h : w ∈ layWords) : (sgn w).length = 1 := by
  obtain ⟨c, e, _⟩ := sgn_tl h
  rw [TL.len_tl, e]; rfl
theorem rsg_len {r : Str} (h : r ∈ rules) : (rsg r).length = 1 := by
  obtain ⟨c, e, _⟩ := rsg_tl h
  rw [TL.len_tl, e]; rfl
theorem wtx_len {n i : Int} {x : Actn} (h : ActOk n i x) (hn : n ≤ 1000) : (wtx x).length ≤ 40 := by
  have l1 : ((("/" : String) : Str)).length = 1 := by rw [TL.len_tl, tl_s1]; rfl
  have l2 : (((":" : String) : Str)).length = 1 := by rw [TL.len_tl, tl_s2]; rfl
  cases x with
  | none => decide +kernel
  | thr => decide +kernel
  | code c => have := code_len h; show c.length ≤ 40; omega
  | lay w j =>
    obtain ⟨h1, h2, h3⟩ := h
    have := numS_len (i := j) (by omega) (by omega)
    rw [wtx, len_app, sgn_len h1]; omega
  | dualC c d t r =>
    obtain ⟨h1, h2, ⟨h3, h4⟩, h5⟩ := h
    have a1 := numS_len (i := t) (by omega) (by omega)
    have a2 := code_len h1
    have a3 := code_len h2
    simp only [wtx, len_app, l1, l2, rsg_len h5]; omega
  | dualL c j t r =>
    obtain ⟨h1, ⟨h2, h2'⟩, ⟨h3, h4⟩, h5⟩ := h
    have a1 := numS_len (i := t) (by omega) (by omega)
    have a2 := code_len h1
    have a3 := numS_len (i := j) (by omega) (by omega)
    simp only [wtx, len_app, l1, l2, rsg_len h5, sgn_len lay_in]; omega

/-! ### joined, split -/
theorem joinL_len (S : List Nat) : ∀ ps : List (List Nat), (TL.joinL S ps).length ≤ (ps.map (·.length)).sum + ps.length * S.length
  | [] => Nat.zero_le _
  | [p] => by simp [TL.joinL]
  | p :: q :: r => by
    have ih := joinL_len S (q :: r)
    simp only [TL.joinL, List.length_append, List.map_cons, List.sum_cons, List.length_cons, Nat.add_mul] at ih ⊢
    omega
theorem joinL_mem (S : List Nat) (c : Nat) : ∀ ps : List (List Nat), c ∈ TL.joinL S ps → c ∈ S ∨ ∃ p ∈ ps, c ∈ p
  | [], h => by cases h
  | [p], h => .inr ⟨p, List.mem_singleton.mpr rfl, h⟩
  | p :: q :: r, h => by
    simp only [TL.joinL, List.mem_append] at h
    rcases h with z | z | z
    · exact .inr ⟨p, List.mem_cons_self .., z⟩
    · exact .inl z
    · rcases joinL_mem S c (q :: r) z with y | ⟨p', a, b⟩
      · exact .inl y
      · exact .inr ⟨p', List.mem_cons_of_mem _ a, b⟩
theorem join_tl (y : Str) (ps : List Str) : TL.tl (Txt.join y ps) = TL.joinL (TL.tl y) (ps.map TL.tl) := by rw [TL.join_eq, TL.tl_join]
theorem sum_le {k : Nat} : ∀ {ps : List Str}, (∀ p ∈ ps, p.length ≤ k) → (ps.map (·.length)).sum ≤ ps.length * k
  | [], _ => Nat.zero_le _
  | p :: r, h => by
    have ih := sum_le (fun q hq => h q (List.mem_cons_of_mem _ hq))
    have := h p (List.mem_cons_self ..)
    simp only [List.map_cons, List.sum_cons, List.length_cons, Nat.add_mul]
    omega
theorem join_len {y : Str} {ps : List Str} {k : Nat} (h : ∀ p ∈ ps, p.length ≤ k) (hy : y.length = 1) : (Txt.join y ps).length ≤ ps.length * (k + 1) := by
  rw [TL.len_tl, join_tl]
  have a := joinL_len (TL.tl y) (ps.map TL.tl)
  have b := sum_le h
  rw [List.length_map, ← TL.len_tl, hy, List.map_map] at a
  have e : (ps.map ((fun x : List Nat => x.length) ∘ TL.tl)) = ps.map (·.length) := List.map_congr_left fun p _ => (TL.len_tl p).symm
  rw [e] at a
  rw [Nat.mul_add]
  omega
def rowT (xs : List Actn) : Str := Txt.join ((" " : String) : Str) (xs.map wtx)
def layT (L : List (List Actn)) : Str := Txt.join (("\n" : String) : Str) (L.map rowT)
theorem sp_len : ((" " : String) : Str).length = 1 := by rw [TL.len_tl, tl_s3]; rfl
theorem nl_len : (("\n" : String) : Str).length = 1 := by rw [TL.len_tl, tl_s4]; rfl
def RowsOk (n : Int) (xs : List Actn) : Prop := xs ≠ [] ∧ xs.length ≤ 16 ∧ ∀ x ∈ xs, ∃ i, ActOk n i x
theorem words_len {n : Int} {xs : List Actn} (h : RowsOk n xs) (hn : n ≤ 1000) : ∀ p ∈ xs.map wtx, p.length ≤ 40 := fun p hp => by
  obtain ⟨x, hx, rfl⟩ := List.mem_map.mp hp
  obtain ⟨i, hi⟩ := h.2.2 x hx
  exact wtx_len hi hn
theorem rowT_len {n : Int} {xs : List Actn} (h : RowsOk n xs) (hn : n ≤ 1000) : (rowT xs).length ≤ 700 := by
  have a := join_len (words_len h hn) sp_len
  have := h.2.1
  rw [List.length_map] at a
  unfold rowT
  omega
theorem split_row {n : Int} {xs : List Actn} (h : RowsOk n xs) : Txt.split (rowT xs) ((" " : String) : Str) = xs.map wtx :=
  TL.split_join tl_s3 (by decide +kernel) (fun z => h.1 (List.map_eq_nil_iff.mp z)) fun p hp hm => by
    obtain ⟨x, hx, rfl⟩ := List.mem_map.mp hp
    obtain ⟨i, hi⟩ := h.2.2 x hx
    have := low33 hi 32 hm
    omega
theorem split_lay {n : Int} {L : List (List Actn)} (hL : L ≠ []) (h : ∀ xs ∈ L, RowsOk n xs) : Txt.split (layT L) (("\n" : String) : Str) = L.map rowT :=
  TL.split_join tl_s4 (by decide +kernel) (fun z => hL (List.map_eq_nil_iff.mp z)) fun p hp hm => by
    obtain ⟨xs, hx, rfl⟩ := List.mem_map.mp hp
    unfold rowT at hm
    rw [join_tl, tl_s3] at hm
    rcases joinL_mem _ _ _ hm with z | ⟨q, hq, z⟩
    · exact absurd (List.mem_singleton.mp z) (by decide)
    · rw [List.map_map] at hq
      obtain ⟨x, hx', rfl⟩ := List.mem_map.mp hq
      obtain ⟨i, hi⟩ := (h xs hx).2.2 x hx'
      have := low33 hi 10 z
      omega
theorem layT_len {n : Int} {L : List (List Actn)} (h6 : L.length ≤ 6) (h : ∀ xs ∈ L, RowsOk n xs) (hn : n ≤ 1000) : (layT L).length ≤ 5000 := by
  have a := join_len (y := (("\n" : String) : Str)) (ps := L.map rowT) (k := 700) (fun p hp => by
    obtain ⟨xs, hx, rfl⟩ := List.mem_map.mp hp
    exact rowT_len (h xs hx) hn) nl_len
  rw [List.length_map] at a
  unfold layT
  omega

/-! ### pieces of texts -/
theorem cut_last (a : Str) (c : Nat) : cutS (a ++ ⟨#[c]⟩) none (some (-1)) = a := by
  refine TL.ext_tl ?_
  unfold cutS
  rw [TL.tl_mk]
  have hl : (a ++ (⟨#[c]⟩ : Str)).length = a.length + 1 := by rw [len_app]; rfl
  rw [hl]
  have e1 : HT.sIx (a.length + 1) 0 none = 0 := rfl
  have e2 : HT.sIx (a.length + 1) (a.length + 1) (some (-1)) = a.length := by
    show (if (-1 : Int) < 0 then ((-1 : Int) + ((a.length + 1 : Nat) : Int)).toNat else min ((-1 : Int).toNat) (a.length + 1)) = _
    rw [if_pos (by decide)]
    omega
  rw [e1, e2, List.drop_zero, Nat.sub_zero]
  show ((TL.tl (a ++ (⟨#[c]⟩ : Str))).take a.length) = _
  rw [TL.tl_append, TL.len_tl, List.take_left]
theorem cut_end (a : Str) (c : Nat) : cutS (a ++ ⟨#[c]⟩) (some (-1)) none = ⟨#[c]⟩ := by
  refine TL.ext_tl ?_
  unfold cutS
  rw [TL.tl_mk]
  have hl : (a ++ (⟨#[c]⟩ : Str)).length = a.length + 1 := by rw [len_app]; rfl
  rw [hl]
  have e1 : HT.sIx (a.length + 1) (a.length + 1) none = a.length + 1 := rfl
  have e2 : HT.sIx (a.length + 1) 0 (some (-1)) = a.length := by
    show (if (-1 : Int) < 0 then ((-1 : Int) + ((a.length + 1 : Nat) : Int)).toNat else min ((-1 : Int).toNat) (a.length + 1)) = _
    rw [if_pos (by decide)]
    omega
  rw [e1, e2]
  show (((TL.tl (a ++ (⟨#[c]⟩ : Str))).drop a.length).take _) = _
  rw [TL.tl_append, TL.len_tl, List.drop_left, Nat.add_sub_cancel_left]
  rfl
theorem cut_head (a : Str) (c : Nat) : cutS (⟨#[c]⟩ ++ a) none (some 1) = ⟨#[c]⟩ := by
  refine TL.ext_tl ?_
  unfold cutS
  rw [TL.tl_mk]
  have hl : ((⟨#[c]⟩ : Str) ++ a).length = a.length + 1 := by rw [len_app, Nat.add_comm]; rfl
  rw [hl]
  have e1 : HT.sIx (a.length + 1) 0 none = 0 := rfl
  have e2 : HT.sIx (a.length + 1) (a.length + 1) (some 1) = 1 := by
    show (if (1 : Int) < 0 then ((1 : Int) + ((a.length + 1 : Nat) : Int)).toNat else min ((1 : Int).toNat) (a.length + 1)) = _
    rw [if_neg (by decide)]
    show min 1 (a.length + 1) = 1
    omega
  rw [e1, e2, List.drop_zero]
  show ((TL.tl ((⟨#[c]⟩ : Str) ++ a)).take 1) = _
  rw [TL.tl_append]
  rfl
theorem cut_tail (a : Str) (c : Nat) : cutS (⟨#[c]⟩ ++ a) (some 1) none = a := by
  refine TL.ext_tl ?_
  unfold cutS
  rw [TL.tl_mk]
  have hl : ((⟨#[c]⟩ : Str) ++ a).length = a.length + 1 := by rw [len_app, Nat.add_comm]; rfl
  rw [hl]
  have e1 : HT.sIx (a.length + 1) (a.length + 1) none = a.length + 1 := rfl
  have e2 : HT.sIx (a.length + 1) 0 (some 1) = 1 := by
    show (if (1 : Int) < 0 then ((1 : Int) + ((a.length + 1 : Nat) : Int)).toNat else min ((1 : Int).toNat) (a.length + 1)) = _
    rw [if_neg (by decide)]
    show min 1 (a.length + 1) = 1
    omega
  rw [e1, e2]
  show (((TL.tl ((⟨#[c]⟩ : Str) ++ a)).drop 1).take _) = _
  rw [TL.tl_append]
  show ((TL.tl a).take (a.length + 1 - 1)) = _
  rw [Nat.add_sub_cancel, TL.len_tl, List.take_length]
/-- the text of a hold -/
def HoldT (h : Str) : Prop := 47 ∉ TL.tl h ∧ 58 ∉ TL.tl h ∧ h.length ≤ 20
theorem hold_code {d : Str} (h : CodeOk d) : HoldT d := by
  refine ⟨fun z => ?_, fun z => ?_, by have := code_len h; omega⟩
  · rcases code_low h _ z with q | q <;> omega
  · rcases code_low h _ z with q | q <;> omega
theorem hold_lay {j : Int} (h : 1 ≤ j) (h2 : j ≤ 1000000000) : HoldT (sgn "layer" ++ numS j) := by
  obtain ⟨g, eg, hg, _⟩ := sgn_tl lay_in
  refine ⟨fun z => ?_, fun z => ?_, ?_⟩
  · rw [TL.tl_append, eg] at z
    rcases List.mem_append.mp z with q | q
    · have := List.mem_singleton.mp q; omega
    · rw [numS_tl (by omega)] at q
      have := numL_low q; omega
  · rw [TL.tl_append, eg] at z
    rcases List.mem_append.mp z with q | q
    · have := List.mem_singleton.mp q; omega
    · rw [numS_tl (by omega)] at q
      have := numL_low q; omega
  · have := numS_len (i := j) (by omega) h2
    rw [len_app, sgn_len lay_in]; omega
theorem part1 {c h : Str} {t : Int} {r : Str} (hc : CodeOk c) : Txt.partition (c ++ "/" ++ h ++ ":" ++ numS t ++ rsg r) (("/" : String) : Str) = (c, (("/" : String) : Str), h ++ ":" ++ (numS t ++ rsg r)) := by
  have e : c ++ "/" ++ h ++ ":" ++ numS t ++ rsg r = c ++ (("/" : String) : Str) ++ (h ++ ":" ++ (numS t ++ rsg r)) := TL.ext_tl (by simp only [TL.tl_append, List.append_assoc])
  rw [e]
  exact TL.partition_app tl_s1 (hold_code hc).1
theorem part2 {h : Str} {t : Int} {r : Str} (hh : HoldT h) : Txt.partition (h ++ ":" ++ (numS t ++ rsg r)) ((":" : String) : Str) = (h, ((":" : String) : Str), numS t ++ rsg r) :=
  TL.partition_app tl_s2 hh.2.1
theorem no_slash_code {c : Str} (h : CodeOk c) : 47 ∉ TL.tl c := (hold_code h).1
theorem no_slash_lay {w : Str} {j : Int} (h : w ∈ layWords) (hj : 1 ≤ j) : 47 ∉ TL.tl (sgn w ++ numS j) := fun z => by
  obtain ⟨g, eg, hg, _⟩ := sgn_tl h
  rw [TL.tl_append, eg] at z
  rcases List.mem_append.mp z with q | q
  · have := List.mem_singleton.mp q; omega
  · rw [numS_tl (by omega)] at q
    have := numL_low q; omega
theorem slash_in {c h : Str} {t : Int} {r : Str} : 47 ∈ TL.tl (c ++ "/" ++ h ++ ":" ++ numS t ++ rsg r) := by
  simp only [TL.tl_append, tl_s1, List.mem_append, List.mem_singleton]
  exact .inl (.inl (.inl (.inl (.inr trivial))))

/-! ### rules: index of a sign, of a word -/
section
variable {X : Cx}
def rSIndex : V → List V → Hp → VK → Prop := fun x xs H Q => ∃ (a b : Str) (i : Nat) (rest : List Nat), x = .str a ∧ xs = [.str b] ∧ Builtin.Str.occurrences a b 0 a.length 1 = i :: rest ∧ Q (.int (i : Nat)) H
theorem mt_sindex : MtR X "str.index" rSIndex := by
  intro pins s σ H x xs v us Q I rx rs h
  obtain ⟨a, b, i, rest, rfl, rfl, ho, q⟩ := h
  obtain ⟨t, rfl⟩ := rx
  cases rs with
  | cons r1 rs =>
    cases rs
    obtain ⟨u, rfl⟩ := r1
    exact PySem.SC.index ho ⟨.int (i : Nat), H, I.tok _, ⟨_, rfl⟩, q⟩
def rTIndex (K : PySem.W.Frag) : V → List V → Hp → VK → Prop := fun x xs H Q => ∃ (a : Addr) (ys : List Str) (y : Str), x = .ref a ∧ xs = [.str y] ∧ SqT K H a (ys.map V.str) ∧ y ∈ ys ∧ Q (.int (ys.idxOf y : Nat)) H
theorem mt_tindex : MtR X "tuple.index" (rTIndex X.K) := by
  intro pins s σ H x xs v us Q I rx rs h
  obtain ⟨a, ys, y, rfl, rfl, hs, hy, q⟩ := h
  cases rx
  cases rs with
  | cons r1 rs =>
    cases rs
    obtain ⟨u, rfl⟩ := r1
    obtain ⟨its, r, ht, _⟩ := I.tuple hs
    exact PySem.SeqAt.tuple_index_strs ht (L2.strs_of_vals r) hy ⟨.int _, H, I.tok _, ⟨_, rfl⟩, q⟩
theorem call_strB : CallR X (.type "str") (fun xs H Q => (∃ a, xs = [.str a] ∧ Q (.str a) H) ∨ (∃ i : Int, xs = [.int i] ∧ i.natAbs.log2 < 1920 ∧ Q (.str (numS i)) H)) := by
  intro pins s σ H xs us Q I r h
  rcases h with h | ⟨i, e, a, q⟩
  · exact SkE.call_str_str pins s σ H xs us Q I r h
  · exact call_str_int pins s σ H xs us Q I r ⟨i, e, a, q⟩
end
end Tx
namespace Tx
open PySem PySem.Spec PyProof.Rows L2 Gd Rm La
def rJoin (K : PySem.W.Frag) : V → List V → Hp → VK → Prop := fun x xs H Q => ∃ a p, ∃ ys : List Str, x = .str a ∧ xs = [.ref p] ∧ (SqL K H p (ys.map V.str) ∨ SqT K H p (ys.map V.str)) ∧
    (ys.map (·.length)).sum + ys.length * a.length ≤ 16777216 ∧ Q (.str (Txt.join a ys)) H
end Tx

set_option Elab.async false
set_option linter.all false
set_option maxRecDepth 100000
set_option maxHeartbeats 4000000
/-! repr of any data; bounds in the heap -/
namespace Gd
open PySem PySem.Spec PyProof.Rows L2
def rRepA (K : PySem.W.Frag) : List V → Hp → VK → Prop := fun xs H Q => ∃ (v : V) (d : PyData), xs = [v] ∧ Dp K H v d ∧
  d.showable = true ∧ d.depth ≤ 50 ∧ d.shown.length ≤ sizeLine ∧ Q (.str d.shown) H
theorem call_repA {X : Cx} {k : Nat} (hg : X.A.guards = some []) (hr : Room k X.A) : CallR X (.builtin "repr") (rRepA X.K) := by
  intro pins s σ H xs us Q I r h
  obtain ⟨v, d, rfl, hd, hs, hdp, hz, q⟩ := h
  cases d with
  | list ds =>
    cases hd with
    | lst h1 h2 => exact call_rep hg hr pins s σ H _ us Q I r ⟨_, _, rfl, .lst h1 h2, hs, hdp, hz, q⟩
  | tuple ds =>
    cases hd with
    | tup h1 h2 => exact call_rep hg hr pins s σ H _ us Q I r ⟨_, _, rfl, .tup h1 h2, hs, hdp, hz, q⟩
  | dict ds => cases hd
  | none =>
    cases hd
    obtain ⟨u, rfl, ru⟩ := vals1 r
    cases ru
    exact PySem.P.repr_of_none ⟨.str _, H, I.tok _, ⟨_, rfl⟩, q⟩
  | bool b =>
    cases hd
    obtain ⟨u, rfl, ru⟩ := vals1 r
    cases ru
    exact PySem.P.repr_of_bool ⟨.str _, H, I.tok _, ⟨_, rfl⟩, q⟩
  | int i =>
    cases hd
    obtain ⟨u, rfl, ⟨t, rfl⟩⟩ := vals1 r
    exact PySem.P.repr_of_int (of_decide_eq_true hs) ⟨.str _, H, I.tok _, ⟨_, rfl⟩, q⟩
  | str z =>
    cases hd
    obtain ⟨u, rfl, ⟨t, rfl⟩⟩ := vals1 r
    exact PySem.P.repr_of_str ⟨.str _, H, I.tok _, ⟨_, rfl⟩, q⟩ hz
end Gd

set_option Elab.async false
set_option linter.all false
set_option maxRecDepth 100000
set_option maxHeartbeats 4000000
/-! combos, and the pieces of a record -/
namespace Cb
open PySem PySem.Spec PyProof.Rows L2 Gd Rm La
structure Cmb where
  ks : List Int
  t : Int
  c : Str
structure CmbOk (many : Int) (cb : Cmb) : Prop where
  asc : cb.ks.Pairwise (· < ·)
  len : cb.ks.length = 2 ∨ cb.ks.length = 3
  key : ∀ k ∈ cb.ks, 0 ≤ k ∧ k < many
  time : 1 ≤ cb.t ∧ cb.t ≤ 10 ^ 9
  code : CodeOk cb.c
def CmbV (H : Hp) (cb : Cmb) (v : V) : Prop := ∃ a k, v = .ref a ∧ H a = some (.tup [.ref k, .int cb.t, .str cb.c]) ∧ H k = some (.tup (cb.ks.map V.int))
theorem CmbV.tk {H H' : Hp} {cb : Cmb} {v : V} (h : CmbV H cb v) (t : Tk H H') : CmbV H' cb v := by
  obtain ⟨a, k, e, h1, h2⟩ := h
  exact ⟨a, k, e, t _ _ h1, t _ _ h2⟩
/-- a list of combos -/
def Cmbs (H : Hp) (c : Addr) (cbs : List Cmb) : Prop := ∃ vs : List V, H c = some (.lst vs) ∧ vs.length = cbs.length ∧ ∀ (i : Nat) (v : V) (cb : Cmb), vs[i]? = some v → cbs[i]? = some cb → CmbV H cb v
theorem Cmbs.same {H H' : Hp} {c : Addr} {cbs : List Cmb} (h : Cmbs H c cbs) (s : Same H H') : Cmbs H' c cbs := by
  obtain ⟨vs, a, b, d⟩ := h
  exact ⟨vs, s _ _ a, b, fun i v cb x y => (d i v cb x y).tk (Tk.of s)⟩
theorem Cmbs.go {H H' : Hp} {c : Addr} {cbs : List Cmb} (h : Cmbs H c cbs) (t : Tk H H') (e : ∀ vs, H c = some (.lst vs) → H' c = some (.lst vs)) : Cmbs H' c cbs := by
  obtain ⟨vs, a, b, d⟩ := h
  exact ⟨vs, e _ a, b, fun i v cb x y => (d i v cb x y).tk t⟩
theorem Cmbs.at_ {H : Hp} {cbs : List Cmb} {vs : List V} (h : vs.length = cbs.length ∧ ∀ (i : Nat) (v : V) (cb : Cmb), vs[i]? = some v → cbs[i]? = some cb → CmbV H cb v) {i : Nat} (hi : i < cbs.length) :
    ∃ a k, vs[i]? = some (.ref a) ∧ H a = some (.tup [.ref k, .int cbs[i].t, .str cbs[i].c]) ∧ H k = some (.tup (cbs[i].ks.map V.int)) := by
  obtain ⟨hl, hv⟩ := h
  have hi' : i < vs.length := by omega
  obtain ⟨a, k, e, h1, h2⟩ := hv i vs[i] cbs[i] (List.getElem?_eq_getElem hi') (List.getElem?_eq_getElem hi)
  exact ⟨a, k, by rw [List.getElem?_eq_getElem hi', e], h1, h2⟩
/-- combos for so many keys -/
structure CbsOk (many : Int) (cbs : List Cmb) : Prop where
  all : ∀ cb ∈ cbs, CmbOk many cb
  few : cbs.length ≤ 6
  apart : (cbs.map Cmb.ks).Nodup
theorem CbsOk.nil (many : Int) : CbsOk many [] := ⟨fun cb h => by simp at h, by decide, List.nodup_nil⟩
def ksD (ks : List Int) : PyData := .tuple (ks.map PyData.int)
def cmbD (cb : Cmb) : PyData := .tuple [ksD cb.ks, .int cb.t, .str cb.c]
def cmbsD (cbs : List Cmb) : PyData := .list (cbs.map cmbD)
theorem CmbV.dp {K : PySem.W.Frag} {H : Hp} {cb : Cmb} {v : V} (h : CmbV H cb v) : Dp K H v (cmbD cb) := by
  obtain ⟨a, k, rfl, h1, h2⟩ := h
  exact .tup (SqT.of h1) (.cons (.tup (SqT.of h2) (dpInts _)) (.cons (.int _) (.cons (.str _) .nil)))
theorem dpAll_idx {α : Type} {K : PySem.W.Frag} {H : Hp} {g : α → PyData} {R : α → V → Prop} (hg : ∀ x v, R x v → Dp K H v (g x)) : ∀ (vs : List V) (xs : List α), vs.length = xs.length → (∀ (i : Nat) (v : V) (x : α), vs[i]? = some v → xs[i]? = some x → R x v) → DpAll K H vs (xs.map g)
  | [], [], _, _ => .nil
  | [], _ :: _, h, _ => by simp at h
  | _ :: _, [], h, _ => by simp at h
  | v :: vs, x :: xs, h, f => .cons (hg x v (f 0 v x rfl rfl)) (dpAll_idx hg vs xs (by simpa using h) fun i v x a b => f (i + 1) v x (by simpa using a) (by simpa using b))
theorem Cmbs.dp {K : PySem.W.Frag} {H : Hp} {c : Addr} {cbs : List Cmb} (h : Cmbs H c cbs) : Dp K H (.ref c) (cmbsD cbs) := by
  obtain ⟨vs, a, b, d⟩ := h
  exact .lst (SqL.of a) (dpAll_idx (R := CmbV H) (fun x v h => h.dp) vs cbs b d)
theorem fit_cmb {many : Int} {cb : Cmb} (hm : many ≤ 1000) (h : CmbOk many cb) : Fit 4000 2 (cmbD cb) := by
  have hk : Fit 1000 1 (ksD cb.ks) := by
    refine Fit.mono (fit_tup (L := 210) (n := 0) fun d hd => ?_) (by rw [List.length_map]; have := h.len; omega) (Nat.le_refl _)
    obtain ⟨v, hv, rfl⟩ := List.mem_map.mp hd
    have := h.key v hv
    exact fit_int (by omega)
  have ht := h.time
  refine Fit.mono (fit_tup (L := 1000) (n := 1) fun d hd => ?_) (by show 3 * 1002 + 3 ≤ 4000; decide) (Nat.le_refl _)
  simp only [List.mem_cons, List.mem_nil_iff, or_false] at hd
  rcases hd with rfl | rfl | rfl
  · exact hk
  · exact Fit.mono (fit_int (by omega)) (by decide) (by decide)
  · exact Fit.mono (fit_code h.code) (by decide) (by decide)
theorem fit_cmbs {many : Int} {cbs : List Cmb} (hm : many ≤ 1000) (h : CbsOk many cbs) : Fit 40000 3 (cmbsD cbs) := by
  refine Fit.mono (fit_list (L := 4000) (n := 2) fun d hd => ?_) (by rw [List.length_map]; have := h.few; omega) (Nat.le_refl _)
  obtain ⟨cb, hc, rfl⟩ := List.mem_map.mp hd
  exact fit_cmb hm (h.all cb hc)
theorem lay_cmb (cb : Cmb) (hc : CodeOk cb.c) : PyData.canLay0 (cmbD cb) = true ∧ PyData.depth (cmbD cb) = 2 := by
  obtain ⟨a, b⟩ := lay_ints cb.ks
  refine ⟨?_, ?_⟩
  · show (PyData.canLayAll0 (cb.ks.map PyData.int) && (PyData.canLay0 (.int cb.t) && (PyData.canLay0 (.str cb.c) && true))) = true
    have hs : PyData.strOk cb.c = true := by
      unfold PyData.strOk
      rw [← Array.all_toList, List.all_eq_true]
      have all : ∀ y ∈ signs.cps.toList, decide (y < 0x110000) = true := by decide +kernel
      exact fun y hy => all y (hc.2.2 y hy)
    rw [a]; simp [PyData.canLay0, hs]
  · show max (PyData.depthAll (cb.ks.map PyData.int) + 1) (max 0 (max 0 0)) + 1 = 2
    rw [b]; rfl
theorem lay_cmbs : ∀ cbs : List Cmb, (∀ cb ∈ cbs, CodeOk cb.c) → PyData.canLayAll0 (cbs.map cmbD) = true ∧ PyData.depthAll (cbs.map cmbD) ≤ 2
  | [], _ => ⟨rfl, by decide⟩
  | cb :: cbs, h => by
    obtain ⟨a, b⟩ := lay_cmbs cbs fun c hc => h c (List.mem_cons_of_mem _ hc)
    obtain ⟨x, y⟩ := lay_cmb cb (h cb List.mem_cons_self)
    refine ⟨?_, ?_⟩
    · show (PyData.canLay0 (cmbD cb) && PyData.canLayAll0 (cbs.map cmbD)) = true
      rw [x, a]; rfl
    · show max (PyData.depth (cmbD cb)) (PyData.depthAll (cbs.map cmbD)) ≤ 2
      omega
theorem shaped_cmbs (cbs : List Cmb) (h : ∀ cb ∈ cbs, CodeOk cb.c) : SeqAt.shaped (cmbsD cbs) = true := by
  obtain ⟨a, b⟩ := lay_cmbs cbs h
  show (PyData.canLayAll0 (cbs.map cmbD) && decide (PyData.depthAll (cbs.map cmbD) + 1 ≤ 64)) = true
  rw [a, decide_eq_true (by omega)]; rfl
theorem shaped_ks (ks : List Int) : SeqAt.shaped (ksD ks) = true := by
  obtain ⟨a, b⟩ := lay_ints ks
  show (PyData.canLayAll0 (ks.map PyData.int) && decide (PyData.depthAll (ks.map PyData.int) + 1 ≤ 64)) = true
  rw [a, b]; rfl
theorem lay_kss : ∀ kss : List (List Int), PyData.canLayAll0 (kss.map ksD) = true ∧ PyData.depthAll (kss.map ksD) ≤ 1
  | [] => ⟨rfl, by decide⟩
  | ks :: kss => by
    obtain ⟨a, b⟩ := lay_kss kss
    obtain ⟨x, y⟩ := lay_ints ks
    refine ⟨?_, ?_⟩
    · show (PyData.canLayAll0 (ks.map PyData.int) && PyData.canLayAll0 (kss.map ksD)) = true
      rw [x, a]; rfl
    · show max (PyData.depthAll (ks.map PyData.int) + 1) (PyData.depthAll (kss.map ksD)) ≤ 1
      omega
theorem shaped_kss (kss : List (List Int)) : SeqAt.shaped (.list (kss.map ksD)) = true := by
  obtain ⟨a, b⟩ := lay_kss kss
  show (PyData.canLayAll0 (kss.map ksD) && decide (PyData.depthAll (kss.map ksD) + 1 ≤ 64)) = true
  rw [a, decide_eq_true (by omega)]; rfl
theorem eqv_intsA : ∀ xs ys : List Int, PyData.eqvAll (xs.map PyData.int) (ys.map PyData.int) = decide (xs = ys)
  | [], [] => rfl
  | [], _ :: _ => rfl
  | _ :: _, [] => rfl
  | o :: xs, p :: ys => by
    show (PyData.eqv (.int o) (.int p) && PyData.eqvAll (xs.map PyData.int) (ys.map PyData.int)) = _
    have e : PyData.eqv (.int o) (.int p) = decide (o = p) := by
      by_cases z : o = p
      · subst z; simp [PyData.eqv]
      · simp [PyData.eqv, z]
    rw [e, eqv_intsA xs ys]
    by_cases a : o = p <;> by_cases b : xs = ys <;> simp [a, b]
theorem eqv_intL (xs ys : List Int) : PyData.eqv (.list (xs.map PyData.int)) (.list (ys.map PyData.int)) = decide (xs = ys) := by rw [← eqv_intsA]; rfl
theorem eqv_ks (xs ys : List Int) : PyData.eqv (ksD xs) (ksD ys) = decide (xs = ys) := by rw [← eqv_intsA]; rfl
theorem any_ks (ks : List Int) (kss : List (List Int)) : ((kss.map ksD).any fun z => PyData.eqv z (ksD ks)) = decide (ks ∈ kss) := by
  induction kss with
  | nil => rfl
  | cons x kss ih =>
    rw [List.map_cons, List.any_cons, ih, eqv_ks]
    by_cases a : x = ks
    · subst a; simp
    · have a' : ¬ ks = x := fun e => a e.symm
      by_cases b : ks ∈ kss <;> simp [a, a', b]
/-! ### pieces -/
def Match (cb : Cmb) (s : Nat) (ds : List Ev) : Prop := cb.ks.length = s ∧ cb.ks.Perm ((ds.take s).map Ev.k) ∧ ∃ a b, ds[0]? = some a ∧ ds[s - 1]? = some b ∧ b.t < a.t + cb.t
open Classical in
noncomputable def fp (cbs : List Cmb) (ds : List Ev) : Nat := if ∃ cb ∈ cbs, Match cb 3 ds then 3 else if ∃ cb ∈ cbs, Match cb 2 ds then 2 else 1
theorem match_le {cb : Cmb} {s : Nat} {ds : List Ev} (h : Match cb s ds) : s ≤ ds.length := by
  have a := h.2.1.length_eq
  rw [h.1, List.length_map, List.length_take] at a
  omega
theorem fp_pos (cbs : List Cmb) (ds : List Ev) : 1 ≤ fp cbs ds := by
  unfold fp
  split
  · decide
  · split <;> decide
theorem fp_le (cbs : List Cmb) {ds : List Ev} (h : ds ≠ []) : fp cbs ds ≤ ds.length := by
  unfold fp
  split
  · rename_i q
    obtain ⟨cb, _, m⟩ := q
    exact match_le m
  · split
    · rename_i q
      obtain ⟨cb, _, m⟩ := q
      exact match_le m
    · cases ds with
      | nil => exact absurd rfl h
      | cons _ _ => rw [List.length_cons]; omega
theorem fp_three {cbs : List Cmb} {ds : List Ev} {cb : Cmb} (h : cb ∈ cbs) (m : Match cb 3 ds) : fp cbs ds = 3 := by unfold fp; rw [if_pos ⟨cb, h, m⟩]
theorem fp_two {cbs : List Cmb} {ds : List Ev} {cb : Cmb} (n : ∀ cb ∈ cbs, ¬ Match cb 3 ds) (h : cb ∈ cbs) (m : Match cb 2 ds) : fp cbs ds = 2 := by
  unfold fp
  rw [if_neg (fun ⟨c, hc, q⟩ => n c hc q), if_pos ⟨cb, h, m⟩]
theorem fp_one {cbs : List Cmb} {ds : List Ev} (n : ∀ cb ∈ cbs, ¬ Match cb 3 ds) (n2 : ∀ cb ∈ cbs, ¬ Match cb 2 ds) : fp cbs ds = 1 := by
  unfold fp
  rw [if_neg (fun ⟨c, hc, q⟩ => n c hc q), if_neg (fun ⟨c, hc, q⟩ => n2 c hc q)]
/-- the numbers from a on, below b -/
def seg (a b : Nat) : List Int := (List.range' a (b - a)).map fun k : Nat => (k : Int)
/-- the events from s on, below e -/
def prt (es : List Ev) (s e : Nat) : List Ev := (es.drop s).take (e - s)
inductive Cut (es : List Ev) (cbs : List Cmb) (e : Nat) : Nat → List (List Int) → Prop
  | nil : Cut es cbs e e []
  | cons {s : Nat} {r : List (List Int)} : s < e → Cut es cbs e (s + fp cbs (prt es s e)) r → Cut es cbs e s (seg s (s + fp cbs (prt es s e)) :: r)
/-- from s on, below e, all are downs -/
def Downs (es : List Ev) (s e : Nat) : Prop := ∀ i, s ≤ i → i < e → ∃ ev, es[i]? = some ev ∧ ev.d = true
def Stops (es : List Ev) (e : Nat) : Prop := e = es.length ∨ ∃ ev, es[e]? = some ev ∧ ev.d = false
inductive Due (es : List Ev) (cbs : List Cmb) : Nat → List (List Int) → Prop
  | fin {s : Nat} : es.length ≤ s → Due es cbs s []
  | up {s : Nat} {ev : Ev} {r : List (List Int)} : es[s]? = some ev → ev.d = false → Due es cbs (s + 1) r → Due es cbs s r
  | down {s e : Nat} {r : List (List Int)} : s < e → Downs es s e → Stops es e → Due es cbs (s + fp cbs (prt es s e)) r → Due es cbs s (seg s (s + fp cbs (prt es s e)) :: r)
theorem Downs.le {es : List Ev} {s e : Nat} (h : Downs es s e) (hs : s < e) : e ≤ es.length := by
  obtain ⟨ev, q, _⟩ := h (e - 1) (by omega) (by omega)
  have := (List.getElem?_eq_some_iff.mp q).1
  omega
theorem prt_len {es : List Ev} {s e : Nat} (h : e ≤ es.length) : (prt es s e).length = e - s := by
  unfold prt
  rw [List.length_take, List.length_drop]
  omega
theorem stop_uniq {es : List Ev} {s e e' : Nat} (hs : s < e) (hs' : s < e') (d : Downs es s e) (d' : Downs es s e') (t : Stops es e) (t' : Stops es e') : e = e' := by
  have l := d.le hs
  have l' := d'.le hs'
  rcases Nat.lt_trichotomy e e' with q | q | q
  · rcases t with t | ⟨ev, g, f⟩
    · omega
    · obtain ⟨ev', g', f'⟩ := d' e (by omega) q
      rw [g] at g'
      cases g'
      rw [f] at f'; cases f'
  · exact q
  · rcases t' with t | ⟨ev, g, f⟩
    · omega
    · obtain ⟨ev', g', f'⟩ := d e' (by omega) q
      rw [g] at g'
      cases g'
      rw [f] at f'; cases f'
theorem Due.uniq {es : List Ev} {cbs : List Cmb} {s : Nat} {r : List (List Int)} (h : Due es cbs s r) : ∀ {r' : List (List Int)}, Due es cbs s r' → r = r' := by
  induction h with
  | fin hl =>
    intro r' h'
    cases h' with
    | fin _ => rfl
    | up g _ _ => have := (List.getElem?_eq_some_iff.mp g).1; omega
    | down hs d _ _ => have := d.le hs; omega
  | up g f _ ih =>
    intro r' h'
    cases h' with
    | fin hl => have := (List.getElem?_eq_some_iff.mp g).1; omega
    | up g' f' h' => exact ih h'
    | down hs d _ _ =>
      obtain ⟨ev', g', f'⟩ := d _ (Nat.le_refl _) hs
      rw [g] at g'
      cases g'
      rw [f] at f'; cases f'
  | down hs d t _ ih =>
    intro r' h'
    cases h' with
    | fin hl => have := d.le hs; omega
    | up g f h' =>
      obtain ⟨ev', g', f'⟩ := d _ (Nat.le_refl _) hs
      rw [g] at g'
      cases g'
      rw [f] at f'; cases f'
    | down hs' d' t' h' =>
      have e := stop_uniq hs hs' d d' t t'
      subst e
      rw [ih h']
theorem cut_due {es : List Ev} {cbs : List Cmb} {e : Nat} (t : Stops es e) {r : List (List Int)} (hr : Due es cbs e r) {s : Nat} {r1 : List (List Int)} (h : Cut es cbs e s r1) : Downs es s e → s ≤ e → Due es cbs s (r1 ++ r) := by
  induction h with
  | nil => intro _ _; exact hr
  | @cons s r1 hs _ ih =>
    intro d _
    have hl := prt_len (s := s) (d.le hs)
    have ne : prt es s e ≠ [] := fun z => by rw [z] at hl; simp at hl; omega
    have f := fp_le cbs ne
    rw [hl] at f
    exact Due.down hs d t (ih (fun i a b => d i (by omega) b) (by omega))
end Cb

set_option Elab.async false
set_option linter.all false
set_option maxRecDepth 100000
set_option maxHeartbeats 4000000
/-! a list's slice with a step -/
namespace Gd
open PySem PySem.Spec PyProof.Rows L2
def stepIx (n : Nat) (lo hi : Option Int) (k : Int) : List Nat :=
  let b := sliceBounds lo hi (some k) n
  sliceRange b.1 b.2.1 b.2.2
def stepV {α : Type} (xs : List α) (lo hi : Option Int) (k : Int) : List α := (stepIx xs.length lo hi k).filterMap fun i => xs[i]?
def tSlK (K : PySem.W.Frag) (te : TE) (tl th ts : TO) : TE := fun σ H Q => te σ H fun x H1 => tl σ H1 fun l H2 => th σ H2 fun u H3 => ts σ H3 fun y H4 =>
  ∃ (a : Addr) (xs : List V) (k : Int), x = .ref a ∧ y = some k ∧ k ≠ 0 ∧ SqL K H4 a xs ∧ (stepV xs l u k).length ≤ xs.length ∧ ∀ p, H4 p = none → Q (.ref p) (upd H4 p (.lst (stepV xs l u k)))
theorem vals_pick {xs : List V} {us : List Value} (r : Vals xs us) : ∀ is : List Nat, Vals (is.filterMap fun i => xs[i]?) (is.filterMap fun i => us[i]?)
  | [] => .nil
  | i :: is => by
    have ih := vals_pick r is
    rw [List.filterMap_cons, List.filterMap_cons]
    cases h : xs[i]? with
    | none =>
      have : us[i]? = none := by
        rw [List.getElem?_eq_none_iff] at h ⊢
        rw [← r.length]; exact h
      rw [this]
      exact ih
    | some x =>
      obtain ⟨u, hu, ru⟩ := r.get h
      rw [hu]
      exact .cons ru ih
section
variable {X : Cx} {e : Expr} {lo hi : Option Expr} {st : Expr} {p2 pos : Pos} {te : TE} {tl th ts : TO}
theorem pe_slk (he : PE X e te) (hl : PO X lo tl) (hu : PO X hi th) (hs : PO X (some st) ts) : PE X (.Subscript e (.Slice lo hi (some st) p2) pos) (tSlK X.K te tl th ts) := by
  refine ⟨fun pins s σ H Q I h => Subscript_ (thn (he.run pins s σ H _ I h) fun v s1 z1 => ?_)⟩
  obtain ⟨x, H1, I1, r1, q1⟩ := z1
  refine wpAny_Slice (thn (hl.run pins s1 σ H1 _ I1 q1) fun vl s2 z2 => ?_)
  obtain ⟨l, H2, I2, pl, q2⟩ := z2
  refine thn (hu.run pins s2 σ H2 _ I2 q2) fun vu s3 z3 => ?_
  obtain ⟨u, H3, I3, pu, q3⟩ := z3
  refine thn (hs.run pins s3 σ H3 _ I3 q3) fun vs s4 z4 => ?_
  obtain ⟨y, H4, I4, ps, a, xs, k, rfl, rfl, k0, hx, hlen, q⟩ := z4
  have I5 : Inv X pins σ H4 { s4 with heap := s4.heap.push { cls := .type "slice", data := .fields #[vl, vu, vs] } } := I4.kept (t' := s4.toks) fun b o m => Heap.get?_push_of_some _ m
  cases r1
  obtain ⟨its, r, ht, hz⟩ := I5.list hx
  have hn := r.length
  refine tail_any (ops := [.ref a, .ref s4.heap.objs.size]) ht.isList.typeIs slot_list_getitem.lookup ?_ (by with_unfolding_all rfl)
  refine wpAny_getItem_list_slice ht.isList (Heap.IsSliceOf.new ..) pl pu ps (fun m => k0 (Option.some.inj m)) ?_ (by rw [List.size_toArray, ← hn]; exact hz)
  have er : (slicePick its.toArray l u (some k)).toList = (stepIx xs.length l u k).filterMap fun i => its[i]? := by
    unfold slicePick stepIx
    rw [List.size_toArray, hn]
    simp
  have rv := vals_pick r (stepIx xs.length l u k)
  have I6 := I5.laid (t' := s4.toks) (a := (s4.heap.push { cls := .type "slice", data := .fields #[vl, vu, vs] }).objs.size) (o := .lst (stepV xs l u k)) (h' := (s4.heap.push { cls := .type "slice", data := .fields #[vl, vu, vs] }).push { cls := .type "list", data := .seq (slicePick its.toArray l u (some k)) }) (fun b o m => Heap.get?_push_of_some _ m) (Nat.le_refl _)
    ⟨Nat.le_trans hlen (by rw [hn]; omega), _, 0, rv, by rw [← er, Array.toArray_toList]; exact Heap.get?_push_size _ rfl⟩
  exact ⟨.ref _, _, I6, rfl, q _ (I5.hok.fresh (Nat.le_refl _))⟩
end
end Gd

set_option Elab.async false
set_option linter.all false
set_option maxRecDepth 100000
set_option maxHeartbeats 8000000
/-! set(xs) of a list of ints -/
namespace Gd
open PySem PySem.Spec PyProof.Rows L2
/-- a set as it begins -/
abbrev set0 (w : World) : Obj :=
  { cls := .type "set", dict := none,
    data := .set #[] 0 (.fresh 0 0 (!w.params.followText "set-order")) }
section
variable {P : Program} {w : World} {A : Around} {E : Value → Shared → Prop} {s : Shared}
/-- the loop of set.update over a list of ints, from an empty set at S -/
theorem fill_set {h1 : Heap} {l S : Addr} {its : Array Value} {ns : List Int} {g : Array GenState} {d : Drawn} {tk : Nat} {os : OsState}
    (free : A.handled = none) (hS : h1.get? S = some (set0 w)) (hl : h1.IsList l its) (ne : S ≠ l) (hit : IntsAre its.toList ns) (small : ns.length + 1 < scanBound) :
    codeAny (model P w) A (.builtin "set.update.loop" ⟨[.ref S, .ref h1.objs.size], []⟩)
      (fun r s' => ∃ (h' : Heap) (t c : Nat), r = .ok (.ret .none) ∧ s' = ⟨h', g, d, t, os⟩ ∧ SetR w h' S (fun j => decide (j ∈ ns)) c ∧ c ≤ ns.length ∧ ∀ b o, b ≠ S → h1.get? b = some o → h'.get? b = some o)
      ⟨h1.push { cls := .type "list_iterator", data := .fields #[.ref l, .int 0 0] }, g, d, tk, os⟩ := by
  have len : its.size = ns.length := by
    have e := IntsAre.length hit
    rwa [Array.length_toList] at e
  have lS : S < h1.objs.size := Heap.lt_size hS
  obtain ⟨ol, hol, _⟩ := id hl
  have ll : l < h1.objs.size := Heap.lt_size hol
  have out : S ∉ [h1.objs.size, l] := by
    intro m
    rcases List.mem_cons.mp m with e | m
    · exact Nat.ne_of_lt lS e
    · exact ne (List.mem_singleton.mp m)
  have at_ : ∀ (i : Nat) (v : Value), its[i]? = some v → ∃ k t, ns[i]? = some k ∧ v = .int k t := by
    intro i v e
    have hi : i < ns.length := len ▸ (Array.getElem?_eq_some_iff.mp e).1
    obtain ⟨t, z⟩ := IntsAre.int_at hit i v (by rw [Array.getElem?_toList]; exact e)
    exact ⟨ns[i], t, List.getElem?_eq_getElem hi, by rw [z, List.getD_eq_getElem?_getD, List.getElem?_eq_getElem hi]; rfl⟩
  have W := (Walks.list (prog := P) (w := w) (A := A.in1) (by simp [free]) h1.objs.size l (Nat.ne_of_lt ll) its).toS
  refine set_update_ints W S out ns len small at_ its.size 0 _ (by omega) (Nat.zero_le _) ⟨⟨_, Heap.get?_push_size _ rfl, rfl, rfl⟩, hl.push _⟩ ⟨0, Nat.le_refl _, setR_new_at (Heap.get?_push_of_some _ hS)⟩ (fun s' c m hc hR => ?_)
  obtain ⟨h', g', d', t', os'⟩ := s'
  obtain rfl : g' = g := m.gens
  obtain rfl : d' = d := m.drawn
  obtain rfl : os' = os := m.os
  refine ⟨h', t', c, rfl, rfl, hR, by omega, fun b o nb e => ?_⟩
  refine m.heap b o (fun z => ?_) (Heap.get?_push_of_some _ e)
  rcases List.mem_cons.mp z with z | z
  · exact nb z
  · have := Heap.lt_size e
    rw [List.mem_singleton.mp z] at this
    exact Nat.lt_irrefl _ this
theorem set_of_list {l : Addr} {its : Array Value} {ns : List Int} {Q : Value → Shared → Prop} (free : A.handled = none) (hl : s.heap.IsList l its) (hit : IntsAre its.toList ns) (small : ns.length + 1 < scanBound)
    (q : ∀ (h' : Heap) (t c : Nat), SetR w h' s.heap.objs.size (fun j => decide (j ∈ ns)) c → c ≤ ns.length → (∀ b o, s.heap.get? b = some o → h'.get? b = some o) →
      Q (.ref s.heap.objs.size) { s with heap := h', toks := t }) : wpAny (model P w) A (call (.type "set") [.ref l]) Q E s := by
  have K := F.called_set
  obtain ⟨_, _, mro⟩ := K.mro
  have made := K.made
  have sub := K.sub
  have nt := K.notType
  have can := K.canCreate
  have tc := F.typeCall_set_1 (.ref l)
  have look := K.init.lookup
  have bnd := K.init.bind (.ref s.heap.objs.size)
  refine wpAny_call (codeAny_of_tree (show wpAny _ _ (callAny (.type "set") _) _ _ _ from wpAny_pure ⟨Code.quiet_builtin _ (by decide +kernel), codeAny_builtin F.entry_type_call ?_⟩))
  rw [Around.under_plain (weight_type_call_type "set" [.ref l] []) rfl]
  repeat (any_goals (first | assumption | wp_step))
  refine codeAny_mono (code_set_led1 (.ref l) (E := E) (Q₁ := fun o s1 => o = .ref s.heap.objs.size ∧ s1 = { s with heap := s.heap.push (set0 w) }) ⟨rfl, rfl⟩) fun r s1 hr => ?_
  match r, hr with
  | .error _, hr => exact hr
  | .ok .next, hr => exact hr.elim
  | .ok .brk, hr => exact hr.elim
  | .ok .cont, hr => exact hr.elim
  | .ok (.ret o), hr =>
    obtain ⟨e1, e2⟩ := hr
    subst e1 e2
    have hS : (s.heap.push (set0 w)).get? s.heap.objs.size = some (set0 w) := Heap.get?_push_size _ rfl
    have tS : Shared.TypeIs { s with heap := s.heap.push (set0 w) } (.ref s.heap.objs.size) "set" := ⟨_, hS, rfl⟩
    have keep0 : ∀ b o, s.heap.get? b = some o → (s.heap.push (set0 w)).get? b = some o := fun b o e => Heap.get?_push_of_some _ e
    have hl1 := hl.push (set0 w)
    repeat (any_goals (first | assumption | wp_step))
    refine codeAny_mono (codeAny_call_builtin (R := fun r s2 => ∃ (h' : Heap) (t c : Nat), r = .ok (.ret .none) ∧ s2 = ⟨h', s.gens, s.drawn, t, s.os⟩ ∧ SetR w h' s.heap.objs.size (fun j => decide (j ∈ ns)) c ∧ c ≤ ns.length ∧ ∀ b o, s.heap.get? b = some o → h'.get? b = some o)
      K.init.plain F.entry_set_init (check_set_init_1 tS ?_)) (fun r2 s2 hr2 => ?_)
    · obtain ⟨⟨ocls, odict, odata, oslots⟩, hol, hcl, nl, hdl⟩ := id hl1
      have nd : (Value.type "list" == Value.type "dict") = false := by decide
      have s1 := F.sub_list_set
      have s2 := F.sub_list_frozenset
      simp only at hcl hdl
      subst hcl
      subst hdl
      unfold Builtin.«set.__init__» noKeywords Builtin.Frozenset.updateFrom
      generalize hI : pyIter = iter
      wp_walk
      subst hI
      have nSl : s.heap.objs.size ≠ l := by
        obtain ⟨ol, z, _⟩ := hl
        exact Nat.ne_of_gt (Heap.lt_size z)
      refine wpAny_pyIter_list hl1 (wpAny_bind (wpAny_runValue (codeAny_mono (fill_set (A := A.in1.in1) (by simp [free]) hS hl1 nSl hit small) (fun r s' z => ?_))))
      obtain ⟨h', t, c, rfl, rfl, hR, hc, hk⟩ := z
      have old : ∀ b o, s.heap.get? b = some o → h'.get? b = some o := fun b o e => hk b o (Nat.ne_of_lt (Heap.lt_size e)) (keep0 b o e)
      exact wpAny_pure (wpAny_pure ⟨h', t, c, rfl, rfl, hR, hc, old⟩)
    · obtain ⟨h', t, c, rfl, rfl, hR, hc, hk⟩ := hr2
      repeat (any_goals (first | assumption | wp_step))
      exact q h' t c hR hc hk
end
/-- set(xs) of a list of ints: as many members as different numbers -/
def rSetL (K : PySem.W.Frag) (w : World) : List V → Hp → VK → Prop := fun xs H Q => ∃ (l : Addr) (ns : List Int), xs = [.ref l] ∧ SqL K H l (ns.map V.int) ∧ ns.length ≤ 1000 ∧
  ∀ (a : Addr) (c : Nat), H a = none → (∀ ds : List Int, (∀ k ∈ ns, k ∈ ds) → c ≤ ds.length) → Q (.ref a) (upd H a (SetO w a (fun j => decide (j ∈ ns)) c))
theorem setR_few {w : World} {h : Heap} {a : Addr} {ns : List Int} {c : Nat} (R : SetR w h a (fun j => decide (j ∈ ns)) c) (ds : List Int) (hd : ∀ k ∈ ns, k ∈ ds) : c ≤ ds.length := by
  obtain ⟨o, es, ep, t, _, _, _, _, nd, mem, _, _, n, _⟩ := R
  rw [← n, ← Array.length_toList, ← List.length_map (f := keyOf)]
  refine List.Nodup.length_le_of_subset nd fun k hk => ?_
  exact hd k (of_decide_eq_true ((mem k).mpr hk))
theorem cr_setL {X : Cx} (hc : X.calm = true) : CallR X (.type "set") (rSetL X.K X.w) := by
  intro pins s σ H xs us Q I r h
  obtain ⟨l, ns, rfl, hx, hn, q⟩ := h
  rw [Vals.ref1 r]
  obtain ⟨its, rv, pl, _⟩ := I.list hx
  refine set_of_list (I.ok.hd hc) pl.isList (by simpa using rv.ints) (by unfold scanBound; omega) fun h' t c R _ k => ?_
  exact ⟨.ref s.heap.objs.size, _, I.laid (t' := t) k (Nat.le_refl _) (setO_new R), rfl, q _ c (I.hok.fresh (Nat.le_refl _)) (setR_few R)⟩
end Gd

set_option Elab.async false
set_option linter.all false
set_option maxRecDepth 100000
set_option maxHeartbeats 4000000
/-! Own classes in the layer HG: methods, and objects that are made. -/
namespace Gd
open PySem PySem.Spec PyProof.Rows L2
/-- a method that may be called by its name on an object of the class at C -/
structure ClM (P : Program) (w : World) (K : PySem.W.Frag) (mg : Str → Option Value) (base : Heap) (k : Nat) (C : Addr) (m : Str) (sp : Sp) : Prop where
  ex : ∃ (f : Addr) (fd : FuncData) (ps : List Str), FnG P w K mg base k f fd ps sp ∧ Meth K C m f ∧ Binds K fd ps []
structure AtM (K : PySem.W.Frag) (C : Addr) (m q : Str) (st : Stmt) (ps : List Str) : Prop where
  ex : ∃ (f : Addr) (fd : FuncData), Fun K m q st f fd ∧ Meth K C m f ∧ Binds K fd ps []
/-- a class of which an object may be made -/
structure ClI (P : Program) (w : World) (K : PySem.W.Frag) (mg : Str → Option Value) (base : Heap) (k : Nat) (C : Addr) (x : Str) (sp : Sp) : Prop where
  ex : ∃ (f : Addr) (fd : FuncData) (ps : List Str), FnG P w K mg base k f fd ps sp ∧ Mk K C f ∧ mg x = some (.ref C) ∧ Binds K fd ps []
structure AtI (K : PySem.W.Frag) (mg : Str → Option Value) (C : Addr) (x q : Str) (st : Stmt) (ps : List Str) : Prop where
  ex : ∃ (f : Addr) (fd : FuncData), Fun K "__init__" q st f fd ∧ Mk K C f ∧ mg x = some (.ref C) ∧ Binds K fd ps []
section
variable {P : Program} {w : World} {K : PySem.W.Frag} {mg : Str → Option Value} {base : Heap}
theorem clMG {C : Addr} {m q : Str} {st : Stmt} {N ps : List Str} {k : Nat} {sp : Sp} (a : AtM K C m q st ps) (S : FnScope N ps (defScope st))
    (len : ∀ vs H Q E, sp vs H Q E → vs.length = ps.length)
    (hb : ∀ (f : Addr) (cdv : Value) (A : Around) (outer : List Env) (s : Shared) (H : Hp) (vs : List V) (Q : VK),
      A.guards = some [] → Room k (A.deeper (envOfC q (defScope st) s.heap.objs.size f cdv)) → sp vs H Q E0 →
      ∃ t, PSs (cxOf CX0 P w K mg base N q (defScope st) f cdv A outer s H E0).nox (defBody st) t ∧
        t { nx := fun _ H' => Q .non H', rt := Q } (start N vs) H) : ClM P w K mg base (k + 1) C m sp := by
  obtain ⟨f, fd, F, hm, b⟩ := a.ex
  exact ⟨f, fd, ps, fnG F S len (hb f), hm, b⟩
theorem clIG {C : Addr} {x q : Str} {st : Stmt} {N ps : List Str} {k : Nat} {sp : Sp} (a : AtI K mg C x q st ps) (S : FnScope N ps (defScope st))
    (len : ∀ vs H Q E, sp vs H Q E → vs.length = ps.length)
    (hb : ∀ (f : Addr) (cdv : Value) (A : Around) (outer : List Env) (s : Shared) (H : Hp) (vs : List V) (Q : VK),
      A.guards = some [] → Room k (A.deeper (envOfC q (defScope st) s.heap.objs.size f cdv)) → sp vs H Q E0 →
      ∃ t, PSs (cxOf CX0 P w K mg base N q (defScope st) f cdv A outer s H E0).nox (defBody st) t ∧
        t { nx := fun _ H' => Q .non H', rt := Q } (start N vs) H) : ClI P w K mg base (k + 1) C x sp := by
  obtain ⟨f, fd, F, hm, hx, b⟩ := a.ex
  exact ⟨f, fd, ps, fnG F S len (hb f), hm, hx, b⟩
end
section
variable {X : Cx} {k j : Nat} {x m : Str} {C : Addr} {sp : Sp} {p pos apos : Pos} {o e : Expr} {es : List Expr} {t : TA} {ta : TE}
/-- o.m(e, ..) -/
theorem pe_clM {pl : Sem Bool} (c : ClM X.prog X.w X.K X.mg X.base k C m sp) (cc : Cls X.K C) (hg : X.A.guards = some []) (hr : Room j X.A) (hk : k ≤ j) (ho : PE X o ta) (ha : PA X (e :: es) t)
    (hst : starEach (e :: es) X.env = (false, eval e X.env) :: starEach es X.env := by rfl) (hpl : (backTo pos (starEach es X.env)).any (·.1) = false := by rfl)
    (ht : eval (.Call (.Attribute o m apos) (e :: es) [] pos) X.env = (do
      let ov ← eval o X.env
      standAt apos.atName
      let (f, first) ← holding [ov] (getMethod ov m pl)
      callWith pos f first (backTo pos (starEach (e :: es) X.env)) (backToKw pos (keywordEach [] X.env))) := by rfl) :
    PE X (.Call (.Attribute o m apos) (e :: es) [] pos) (tMeth C m sp [] E0 ta t) := by
  obtain ⟨f, fd, ps, F, hm, b⟩ := c.ex
  refine ⟨fun pins s σ H Q I h => ?_⟩
  refine PySem.W.methodCall_KW (pl := pl) (thn (ho.run pins s σ H _ I h) fun u s1 ⟨x, H1, I1, rx, a, dx, fs, ex, ea, l, q⟩ => ?_) ht
  subst ex
  obtain rfl : u = Value.ref a := rx
  refine getmeth_ok I1 ea cc hm l ?_
  refine PySem.W.callWith_K (first := [.ref a]) (h₀ := X.base) I.ok.mod.kin hm.kp (thn (ha.run pos pins s1 σ H1 _ I1 q) fun us s2 ⟨vs, H2, I2, r, q2⟩ => ⟨I2.kIn, ?_⟩) hst hpl
  exact run_cl (us := .ref a :: us) (vs := .ref a :: vs) F hg (hr.mono hk) b I2 (.cons rfl r) (by simpa using q2)
/-- o.m() -/
theorem pe_clM0 {pl : Sem Bool} (c : ClM X.prog X.w X.K X.mg X.base k C m sp) (cc : Cls X.K C) (hg : X.A.guards = some []) (hr : Room j X.A) (hk : k ≤ j) (ho : PE X o ta)
    (ht : eval (.Call (.Attribute o m apos) [] [] pos) X.env = (do
      let ov ← eval o X.env
      standAt apos.atName
      let (f, first) ← holding [ov] (getMethod ov m pl)
      callWith pos f first (backTo pos (starEach [] X.env)) (backToKw pos (keywordEach [] X.env))) := by rfl) :
    PE X (.Call (.Attribute o m apos) [] [] pos) (tMeth C m sp [] E0 ta tNil) := by
  obtain ⟨f, fd, ps, F, hm, b⟩ := c.ex
  refine ⟨fun pins s σ H Q I h => ?_⟩
  refine PySem.W.methodCall_KW (pl := pl) (thn (ho.run pins s σ H _ I h) fun u s1 ⟨x, H1, I1, rx, a, dx, fs, ex, ea, l, q⟩ => ?_) ht
  subst ex
  obtain rfl : u = Value.ref a := rx
  refine getmeth_ok I1 ea cc hm l ?_
  exact PySem.W.callWith_K0 (first := [.ref a]) I1.kIn hm.kp (run_cl (us := [.ref a]) (vs := [.ref a]) F hg (hr.mono hk) b I1 (.cons rfl .nil) q)
theorem run_clI {f : Addr} {fd : FuncData} {ps : List Str} {pins : List (Addr × Obj)} {σ : L2.St} {H : Hp} {s : Shared} {Q : VK} {us : List Value} {vs : List V} (M : Mk X.K C f) (F : FnG X.prog X.w X.K X.mg X.base k f fd ps sp) (hg : X.A.guards = some []) (hr : Room (k + 1) X.A) (hb : Binds X.K fd ps [])
    (I : Inv X pins σ H s) (r : Vals vs us)
    (h : ∀ x dx, H x = none → H dx = none → dx ≠ x → sp (.ref x :: vs) (upd (upd H dx (.own x)) x (.ins C dx [])) (fun v H2 => v = .non ∧ Q (.ref x) H2) E0) :
    wpAny (model X.prog X.w) X.A (call (.ref C) us) (EP X pins σ Q) X.xe s := by
  have hq := h (s.heap.objs.size + 1) s.heap.objs.size (I.hok.fresh (Nat.le_succ _)) (I.hok.fresh (Nat.le_refl _)) (Nat.ne_of_lt (Nat.lt_succ_self _))
  have I2 := Inv.made (C := C) I
  have r2 : Vals (V.ref (s.heap.objs.size + 1) :: vs) (Value.ref (s.heap.objs.size + 1) :: us) := .cons rfl r
  have hl : (Value.ref (s.heap.objs.size + 1) :: us).length = ps.length := by
    have e := r2.length
    rw [F.len _ _ _ _ hq] at e
    exact e.symm
  have bt := hb _ (Value.ref (s.heap.objs.size + 1) :: us) I2.kIn (by simpa using hl)
  rw [List.append_nil] at bt
  refine wpAny_call (make_map (f := f) I.kIn M.makes M.init (beq_iff_eq.mp M.fn) (codeAny_mono (F.go _ X.stack _ _ ⟨Value.ref (s.heap.objs.size + 1) :: us, []⟩ (Value.ref (s.heap.objs.size + 1) :: us) _ _ hg (hr.make C us [])
    (I2.env0.make C us []) bt r2 hq) fun r s' hq' => ?_))
  match r, hq' with
  | .ok (.ret u), hq' =>
    obtain ⟨v, H', I3, rv, ev, q3⟩ := I2.after hq'
    subst ev
    exact ⟨rv, ⟨V.ref (s.heap.objs.size + 1), H', I3, rfl, q3⟩⟩
  | .ok .next, hq' => exact False.elim hq'
  | .ok .brk, hq' => exact False.elim hq'
  | .ok .cont, hq' => exact False.elim hq'
  | .error _, hq' => exact False.elim hq'
/-- C(e, ..) -/
theorem pe_clI (c : ClI X.prog X.w X.K X.mg X.base k C x sp) (hg : X.A.guards = some []) (hr : Room j X.A) (hk : k + 1 ≤ j) (gl : Gl X x) (ha : PA X (e :: es) t)
    (hdb : (x == ("__debug__" : Str)) = false := by decide) (he : starEach (e :: es) X.env = (false, eval e X.env) :: starEach es X.env := by rfl) (hpl : (backTo pos (starEach es X.env)).any (·.1) = false := by rfl) :
    PE X (.Call (.Name x p) (e :: es) [] pos) (tMake C sp [] E0 t) := by
  obtain ⟨f, fd, ps, F, M, hm, b⟩ := c.ex
  refine ⟨fun pins s σ H Q I h => ?_⟩
  refine wpAny_Call_Name_kw (ld_glob I gl hm ?_ hdb)
  refine PySem.W.callWith_K (h₀ := X.base) I.ok.mod.kin M.kp (thn (ha.run pos pins s σ H _ I h) fun us s1 ⟨vs, H1, I1, r, q⟩ => ⟨I1.kIn, ?_⟩) he hpl
  exact run_clI M F hg (hr.mono hk) b I1 r (by simpa using q)
end
/-! ### list(d.values()) -/
def tListVals (te : TE) : TE := fun σ H Q => te σ H fun x H1 => ∃ (d : Addr) (kvs : List (Key × V)), x = .ref d ∧ H1 d = some (.dK kvs) ∧ ∀ p, H1 p = none → Q (.ref p) (upd H1 p (.lst (kvs.map (·.2))))
theorem kv_vals {kvs : List (Key × V)} {vs : List (Key × Value)} (h : KV kvs vs) : Vals (kvs.map (·.2)) (vs.map (·.2)) := by
  induction h with
  | nil => exact .nil
  | cons h t ih => exact .cons h.2 ih
section
variable {X : Cx} {e : Expr} {te : TE} {p apos cpos pos : Pos}
theorem pe_listVals (hc : X.calm = true) (he : PE X e te) (hg : Gl X "list") (hm : X.mg "list" = none) (hv : bootBuiltins "list" = some (.type "list")) (hbase : attributeBase e "values" X.env (eval e X.env) = eval e X.env := by rfl) (hline : (apos.endLine == cpos.line) = true := by rfl)
    (hs : starEach [.Call (.Attribute e "values" apos) [] [] cpos] X.env = (false, eval (.Call (.Attribute e "values" apos) [] [] cpos) X.env) :: starEach [] X.env := by rfl) :
    PE X (.Call (.Name "list" p) [.Call (.Attribute e "values" apos) [] [] cpos] [] pos) (tListVals te) := by
  refine ⟨fun pins s σ H Q I hq => ?_⟩
  refine wpAny_Call_Name_kw (ld_blt I hg hm hv ?_)
  refine PyProof.Rows.callWith_type1 ?_ hs rfl
  rw [hs]
  show wpAny _ _ (spliced ((false, eval (.Call (.Attribute e "values" apos) [] [] cpos) X.env) :: backTo pos (starEach [] X.env))) _ _ s
  refine Calls.spliced_cons ?_
  refine wpAny_Call_method (T := "dict") (id := "dict.values") hbase rfl hline F.plainAttrs_dict F.slot_dict_values F.type_dict_values (thn (he.run pins s σ H _ I hq) fun u s1 ⟨x, H1, I1, rx, d, kvs, ex, hd, q⟩ => ?_)
  subst ex
  obtain rfl : u = Value.ref d := rx
  obtain ⟨hz, hs0, vs, kv, hdo⟩ := I1.hok d _ hd
  obtain ⟨ep, hat⟩ := hdo.dictAt
  have lk : kvs.length = vs.length := Paired.length kv
  have I2 : Inv X pins σ H1 { s1 with heap := s1.heap.push { cls := .type "dict_values", data := .fields #[.ref d] } } := I1.kept (t' := s1.toks) fun b ob q => Heap.get?_push_of_some _ q
  refine ⟨hdo.typeIs, hdo.mapOf.noDict, ?_⟩
  show wpAny _ _ (callWith cpos (.builtin "dict.values") [.ref d] [] []) _ X.xe s1
  refine method_meetsIn F.slot_dict_values F.entry_dict_values rfl (PySem.evalArgs_none ⟨rfl, hdo.typeIs, F.args_dict_values_1 _, _, PySem.meets_dict_values (mixKind X.prog X.w) d hs0, ⟨vs, hdo⟩, ?_⟩)
  refine Calls.spliced_nil ?_
  refine PySem.W.kdl_call (PySem.W.kdl_values (knd := mixKind X.prog X.w) (kvs := vs) (ep := ep)) (I1.ok.hd hc) ⟨⟨_, Heap.get?_push_size _ rfl, rfl, rfl⟩, hat.push _⟩ (by omega) fun h' tk acc c hk hS hacc => ?_
  have hl : acc.toList = vs.map (·.2) := PySem.W.kdl_vals_eq acc.toList (by rw [Array.length_toList]; exact hacc.1) fun j v e => hacc.2 j v (by rw [← Array.getElem?_toList]; exact e)
  refine ⟨.ref _, _, I2.laid (t' := tk) hk (Nat.le_refl _) (show ObjOk X.prog X.w _ h' _ (.lst (kvs.map (·.2))) from ⟨by rw [List.length_map]; exact hz, acc.toList, c, by rw [hl]; exact kv_vals kv, by rw [Array.toArray_toList]; exact hS⟩), rfl, q _ I2.fresh⟩
end
end Gd

set_option Elab.async false
set_option linter.all false
set_option maxRecDepth 100000
set_option maxHeartbeats 4000000
/-! Playing: the state of the keys, and what each event is. -/
namespace Pl
open PySem PySem.Spec PyProof.Rows L2 Gd Rm La

/-! ### what the keys are bound to -/
abbrev Bd0 := List (Int × Actn)
def putB (bd : Bd0) (k : Int) (x : Actn) : Bd0 := if (bd.any fun p => decide (p.1 = k)) = true then bd.map (fun p => if p.1 = k then (p.1, x) else p) else bd ++ [(k, x)]
def dropB (bd : Bd0) (k : Int) : Bd0 := bd.filter fun p => decide (p.1 ≠ k)
def getB (bd : Bd0) (k : Int) : Option Actn := (bd.find? fun p => decide (p.1 = k)).map (·.2)
abbrev BdR (H : Hp) : (Key × V) → (Int × Actn) → Prop := fun p q => p.1 = Sum.inl q.1 ∧ ActV H q.2 p.2
def Bd (H : Hp) (kvs : List (Key × V)) (bd : Bd0) : Prop := Paired (BdR H) kvs bd
theorem Bd.keep {H H' : Hp} {kvs : List (Key × V)} {bd : Bd0} (h : Bd H kvs bd) (t : Tk H H') : Bd H' kvs bd := by
  unfold Bd at h ⊢
  induction h with
  | nil => exact .nil
  | cons a _ ih => exact .cons ⟨a.1, a.2.keep t⟩ ih
theorem Bd.length {H : Hp} {kvs : List (Key × V)} {bd : Bd0} (h : Bd H kvs bd) : kvs.length = bd.length := by
  unfold Bd at h
  induction h with
  | nil => rfl
  | cons _ _ ih => rw [List.length_cons, List.length_cons, ih]
theorem inl_iff {a b : Int} : ((Sum.inl a : Key) = Sum.inl b) ↔ a = b := ⟨fun h => Sum.inl.inj h, fun h => by rw [h]⟩
theorem Bd.any {H : Hp} {kvs : List (Key × V)} {bd : Bd0} (h : Bd H kvs bd) (k : Int) : (kvs.any fun p => decide (p.1 = (Sum.inl k : Key))) = bd.any fun p => decide (p.1 = k) := by
  unfold Bd at h
  induction h with
  | nil => rfl
  | @cons p q _ _ a _ ih =>
    rw [List.any_cons, List.any_cons, ih, a.1]
    congr 1
    exact decide_eq_decide.mpr inl_iff
theorem Bd.mapP {H : Hp} {kvs : List (Key × V)} {bd : Bd0} (h : Bd H kvs bd) {k : Int} {x : Actn} {v : V} (hx : ActV H x v) :
    Bd H (kvs.map fun p => if p.1 = (Sum.inl k : Key) then (p.1, v) else p) (bd.map fun p => if p.1 = k then (p.1, x) else p) := by
  unfold Bd at h ⊢
  induction h with
  | nil => exact .nil
  | @cons p q _ _ a _ ih =>
    refine .cons ?_ ih
    show BdR H (if p.1 = (Sum.inl k : Key) then (p.1, v) else p) (if q.1 = k then (q.1, x) else q)
    by_cases e : q.1 = k
    · rw [if_pos e, if_pos (by rw [a.1, e])]
      exact ⟨a.1, hx⟩
    · rw [if_neg e, if_neg (fun z => e (inl_iff.mp (a.1.symm.trans z)))]
      exact a
theorem Bd.snoc {H : Hp} {kvs : List (Key × V)} {bd : Bd0} (h : Bd H kvs bd) {p : Key × V} {q : Int × Actn} (a : BdR H p q) : Bd H (kvs ++ [p]) (bd ++ [q]) := by
  unfold Bd at h ⊢
  induction h with
  | nil => exact .cons a .nil
  | cons b _ ih => exact .cons b ih
theorem Bd.put {H : Hp} {kvs : List (Key × V)} {bd : Bd0} (h : Bd H kvs bd) {k : Int} {x : Actn} {v : V} (hx : ActV H x v) : Bd H (putK kvs (Sum.inl k) v) (putB bd k x) := by
  unfold putK putB
  rw [h.any k]
  split
  · exact h.mapP hx
  · exact h.snoc ⟨rfl, hx⟩
theorem Bd.drop {H : Hp} {kvs : List (Key × V)} {bd : Bd0} (h : Bd H kvs bd) (k : Int) : Bd H (dropK kvs (Sum.inl k)) (dropB bd k) := by
  unfold Bd dropK dropB at *
  induction h with
  | nil => exact .nil
  | @cons p q _ _ a _ ih =>
    by_cases e : q.1 = k
    · rw [List.filter_cons_of_neg (by simp [a.1, e]), List.filter_cons_of_neg (by simp [e])]
      exact ih
    · have e' : ¬ p.1 = (Sum.inl k : Key) := fun z => e (inl_iff.mp (a.1.symm.trans z))
      rw [List.filter_cons_of_pos (by simp [e']), List.filter_cons_of_pos (by simp [e])]
      exact .cons a ih
theorem Bd.get {H : Hp} {kvs : List (Key × V)} {bd : Bd0} (h : Bd H kvs bd) (k : Int) : (valV kvs (Sum.inl k) = none ∧ getB bd k = none) ∨ ∃ v x, valV kvs (Sum.inl k) = some v ∧ getB bd k = some x ∧ ActV H x v := by
  unfold Bd at h
  induction h with
  | nil => exact .inl ⟨rfl, rfl⟩
  | @cons p q _ _ a _ ih =>
    by_cases e : q.1 = k
    · refine .inr ⟨p.2, q.2, valV_pos (by rw [a.1, e]), ?_, a.2⟩
      unfold getB
      rw [List.find?_cons_of_pos (by simp [e])]
      rfl
    · have e' : ¬ p.1 = (Sum.inl k : Key) := fun z => e (inl_iff.mp (a.1.symm.trans z))
      rw [valV_neg e']
      have g : ∀ r : Bd0, getB (q :: r) k = getB r k := fun r => by
        unfold getB
        rw [List.find?_cons_of_neg (by simp [e])]
      rw [g]
      exact ih
theorem Bd.dp {K : PySem.W.Frag} {H : Hp} {kvs : List (Key × V)} {bd : Bd0} (h : Bd H kvs bd) : DpAll K H (kvs.map (·.2)) (bd.map fun q => actD q.2) := by
  unfold Bd at h
  induction h with
  | nil => exact .nil
  | cons a _ ih => exact .cons a.2.dp ih
theorem putB_len (bd : Bd0) (k : Int) (x : Actn) : (putB bd k x).length ≤ bd.length + 1 := by
  unfold putB
  split
  · rw [List.length_map]; omega
  · rw [List.length_append]; exact Nat.le_refl _
theorem dropB_len (bd : Bd0) (k : Int) : (dropB bd k).length ≤ bd.length := List.length_filter_le ..
theorem putB_mem {bd : Bd0} {k : Int} {x : Actn} {p : Int × Actn} (h : p ∈ putB bd k x) : p ∈ bd ∨ p = (k, x) := by
  unfold putB at h
  split at h
  · obtain ⟨q, hq, e⟩ := List.mem_map.mp h
    by_cases z : q.1 = k
    · rw [if_pos z] at e; rw [← e, z]; exact .inr rfl
    · rw [if_neg z] at e; rw [← e]; exact .inl hq
  · rcases List.mem_append.mp h with q | q
    · exact .inl q
    · exact .inr (List.mem_singleton.mp q)
theorem dropB_mem {bd : Bd0} {k : Int} {p : Int × Actn} (h : p ∈ dropB bd k) : p ∈ bd := (List.mem_filter.mp h).1
theorem getB_mem {bd : Bd0} {k : Int} {x : Actn} (h : getB bd k = some x) : ∃ p ∈ bd, p.1 = k ∧ p.2 = x := by
  unfold getB at h
  cases e : bd.find? fun p => decide (p.1 = k) with
  | none => rw [e] at h; cases h
  | some p =>
    rw [e] at h
    exact ⟨p, List.mem_of_find?_eq_some e, of_decide_eq_true (List.find?_some (p := fun p : Int × Actn => decide (p.1 = k)) e), Option.some.inj h⟩
/-- what a key may be bound to -/
def BdOk (n : Int) : Actn → Prop
  | .code c => CodeOk c
  | .lay w j => w = ("layer" : String) ∧ 1 ≤ j ∧ j ≤ n - 1
  | _ => False
theorem BdOk.act {n : Int} {x : Actn} (h : BdOk n x) (i : Int) : ActOk n i x := by
  cases x with
  | code c => exact h
  | lay w j => exact ⟨by rw [h.1]; decide +kernel, h.2.1, h.2.2⟩
  | none => exact h.elim
  | thr => exact h.elim
  | dualC _ _ _ _ => exact h.elim
  | dualL _ _ _ _ => exact h.elim
def BdsOk (n : Int) (bd : Bd0) : Prop := ∀ p ∈ bd, BdOk n p.2

/-! ### the state -/
structure Sm where
  lk : List Bool
  on : Int
  bd : Bd0
def isLay (i : Int) : Actn → Bool
  | .lay w j => decide (w = (("layer" : String) : Str)) && decide (j = i)
  | _ => false
def onL (s : Sm) (i : Nat) : Bool := decide (i = 0) || s.lk.getD i false || decide (s.on = i) || s.bd.any fun p => isLay i p.2
def isThr : Actn → Bool
  | .thr => true
  | _ => false
def actAt (L : List (List Actn)) (i k : Nat) : Actn := ((L.getD i []).getD k .none)
def filt (L : List (List Actn)) (s : Sm) (k : Nat) : List Nat := (List.range L.length).filter fun i => !isThr (actAt L i k) && onL s i
def takenL (L : List (List Actn)) (s : Sm) (k : Nat) : Nat := (filt L s k).getLast?.getD 0
def isDl : Actn → Bool
  | .dualC .. => true
  | .dualL .. => true
  | _ => false
def timeOf : Actn → Int
  | .dualC _ _ t _ => t
  | .dualL _ _ t _ => t
  | _ => 0
def ruleOf : Actn → Str
  | .dualC _ _ _ r => r
  | .dualL _ _ _ r => r
  | _ => Str.empty
def tapOf : Actn → Actn
  | .dualC c _ _ _ => .code c
  | .dualL c _ _ _ => .code c
  | x => x
def holdOf : Actn → Actn
  | .dualC _ d _ _ => .code d
  | .dualL _ j _ _ => .lay "layer" j
  | x => x
def press (s : Sm) (k : Int) (x : Actn) : Sm :=
  match x with
  | .code c => { s with on := 0, bd := putB s.bd k (.code c) }
  | .lay w j => if w = ("layer" : String) then { s with on := 0, bd := putB s.bd k (.lay w j) } else if w = ("lock" : String) then { s with on := 0, lk := s.lk.set j.toNat (!s.lk.getD j.toNat false) } else { s with on := j }
  | _ => { s with on := 0 }
def release (s : Sm) (k : Int) : Sm := { s with bd := dropB s.bd k }
def init (n : Nat) : Sm := ⟨List.replicate n false, 0, []⟩

/-! ### deciding events -/
def decEv (own : Int) (rule : Str) : List Int → List Ev → Option Nat
  | _, [] => none
  | inner, e :: r =>
    if e.k = own ∨ (rule = ("other" : String) ∧ e.d = true) then some 0
    else if e.d = true then (decEv own rule (inner ++ [e.k]) r).map (· + 1)
    else if rule = ("within" : String) ∧ e.k ∈ inner then some 0
    else (decEv own rule inner r).map (· + 1)
def decM (es : List Ev) (at_ : Nat) (rule : Str) : Option Nat := (decEv ((es.getD at_ ⟨0, 0, false⟩).k) rule [] (es.drop (at_ + 1))).map (· + (at_ + 1))
def evAt (es : List Ev) (i : Nat) : Ev := es.getD i ⟨0, 0, false⟩
def sureM (es : List Ev) (at_ : Nat) (x : Actn) : Option Nat :=
  match decM es at_ (ruleOf x) with
  | none => none
  | some n => if (evAt es at_).t + timeOf x ≤ (evAt es n).t then none else some n
def tapM (es : List Ev) (at_ : Nat) (sure : Option Nat) : Bool :=
  match sure with
  | none => false
  | some n => decide ((evAt es n).k = (evAt es at_).k)
def kindM (es : List Ev) (at_ : Nat) (x : Actn) : Str := if isDl x then (if tapM es at_ (sureM es at_ x) then "tap" else "hold") else "plain"
def whatM (x : Actn) (kind : Str) : Actn := if kind = ("plain" : String) then x else if kind = ("tap" : String) then tapOf x else holdOf x
/-- what is told of an event: of an up, or of a down -/
inductive Td where
  | up
  | dn (lay : Nat) (kind : Str) (what : Actn) (sure : Option Nat)
def stepS (L : List (List Actn)) (es : List Ev) (i : Nat) (s : Sm) : Sm :=
  if (evAt es i).d then
    let x := actAt L (takenL L s (evAt es i).k.toNat) (evAt es i).k.toNat
    press s (evAt es i).k (whatM x (kindM es i x))
  else release s (evAt es i).k
def stepT (L : List (List Actn)) (es : List Ev) (i : Nat) (s : Sm) : Td :=
  if (evAt es i).d then
    let l := takenL L s (evAt es i).k.toNat
    let x := actAt L l (evAt es i).k.toNat
    .dn l (kindM es i x) (whatM x (kindM es i x)) (if isDl x then sureM es i x else none)
  else .up
def runS (L : List (List Actn)) (es : List Ev) : Nat → Sm
  | 0 => init L.length
  | n + 1 => stepS L es n (runS L es n)
def runT (L : List (List Actn)) (es : List Ev) (i : Nat) : Td := stepT L es i (runS L es i)
end Pl

set_option Elab.async false
set_option linter.all false
set_option maxRecDepth 100000
set_option maxHeartbeats 4000000
namespace K86
open PySem PySem.Spec PyProof.Rows L2 Gd Rm La Cb
def topS (i : Nat) : Stmt := PySem.Challenge.pw_holdtap_k86_whole_records_cut_and_joined.main.body.getD i (.Pass ⟨0, 0, 0, 0⟩)
abbrev s__wall : Stmt := topS 0
abbrev n__wall : List Str := ["k"]
theorem sc__wall : FnScope n__wall ["k"] (defScope s__wall) := ⟨rfl, rfl, rfl, by decide +kernel, rfl, by decide +kernel, by decide +kernel⟩
-- 0 k
abbrev s_is_an_integer : Stmt := topS 9
abbrev n_is_an_integer : List Str := ["value"]
theorem sc_is_an_integer : FnScope n_is_an_integer ["value"] (defScope s_is_an_integer) := ⟨rfl, rfl, rfl, by decide +kernel, rfl, by decide +kernel, by decide +kernel⟩
-- 0 value
abbrev s_is_between : Stmt := topS 10
abbrev n_is_between : List Str := ["value", "low", "high"]
theorem sc_is_between : FnScope n_is_between ["value", "low", "high"] (defScope s_is_between) := ⟨rfl, rfl, rfl, by decide +kernel, rfl, by decide +kernel, by decide +kernel⟩
-- 0 value, 1 low, 2 high
abbrev s_is_whole : Stmt := topS 14
abbrev n_is_whole : List Str := ["record"]
theorem sc_is_whole : FnScope n_is_whole ["record"] (defScope s_is_whole) := ⟨rfl, rfl, rfl, by decide +kernel, rfl, by decide +kernel, by decide +kernel⟩
-- 0 record
abbrev s_order_of : Stmt := topS 15
abbrev n_order_of : List Str := ["record", "tick", "key", "way"]
theorem sc_order_of : FnScope n_order_of ["record"] (defScope s_order_of) := ⟨rfl, rfl, rfl, by decide +kernel, rfl, by decide +kernel, by decide +kernel⟩
-- 0 record, 1 tick*, 2 key*, 3 way*
abbrev s_lengths : Stmt := topS 16
abbrev n_lengths : List Str := ["record", "found", "downs", "index", "tick", "key", "way", "down"]
theorem sc_lengths : FnScope n_lengths ["record"] (defScope s_lengths) := ⟨rfl, rfl, rfl, by decide +kernel, rfl, by decide +kernel, by decide +kernel⟩
-- 0 record, 1 found, 2 downs, 3 index, 4 tick, 5 key, 6 way, 7 down
abbrev s_ended : Stmt := topS 17
abbrev n_ended : List Str := ["record", "keys", "tick", "key"]
theorem sc_ended : FnScope n_ended ["record"] (defScope s_ended) := ⟨rfl, rfl, rfl, by decide +kernel, rfl, by decide +kernel, by decide +kernel⟩
-- 0 record, 1 keys, 2 tick*, 3 key*
abbrev s_with_ticks : Stmt := topS 18
abbrev n_with_ticks : List Str := ["order", "ticks", "tick", "key", "way"]
theorem sc_with_ticks : FnScope n_with_ticks ["order", "ticks"] (defScope s_with_ticks) := ⟨rfl, rfl, rfl, by decide +kernel, rfl, by decide +kernel, by decide +kernel⟩
-- 0 order, 1 ticks, 2 tick*, 3 key*, 4 way*
abbrev s_held_keys : Stmt := topS 19
abbrev n_held_keys : List Str := ["record", "held", "tick", "key", "way"]
theorem sc_held_keys : FnScope n_held_keys ["record"] (defScope s_held_keys) := ⟨rfl, rfl, rfl, by decide +kernel, rfl, by decide +kernel, by decide +kernel⟩
-- 0 record, 1 held*, 2 tick, 3 key, 4 way
abbrev s_check_record : Stmt := topS 20
abbrev n_check_record : List Str := ["value", "many", "held", "index", "event"]
theorem sc_check_record : FnScope n_check_record ["value", "many"] (defScope s_check_record) := ⟨rfl, rfl, rfl, by decide +kernel, rfl, by decide +kernel, by decide +kernel⟩
-- 0 value, 1 many, 2 held, 3 index, 4 event
abbrev s_check_order : Stmt := topS 21
abbrev n_check_order : List Str := ["value", "many", "held", "index", "step"]
theorem sc_check_order : FnScope n_check_order ["value", "many"] (defScope s_check_order) := ⟨rfl, rfl, rfl, by decide +kernel, rfl, by decide +kernel, by decide +kernel⟩
-- 0 value, 1 many, 2 held, 3 index, 4 step
abbrev s_is_short_list : Stmt := topS 22
abbrev n_is_short_list : List Str := ["value"]
theorem sc_is_short_list : FnScope n_is_short_list ["value"] (defScope s_is_short_list) := ⟨rfl, rfl, rfl, by decide +kernel, rfl, by decide +kernel, by decide +kernel⟩
-- 0 value
abbrev s_is_event : Stmt := topS 23
abbrev n_is_event : List Str := ["value", "tick", "key", "way"]
theorem sc_is_event : FnScope n_is_event ["value"] (defScope s_is_event) := ⟨rfl, rfl, rfl, by decide +kernel, rfl, by decide +kernel, by decide +kernel⟩
-- 0 value, 1 tick, 2 key, 3 way
abbrev s_is_step : Stmt := topS 24
abbrev n_is_step : List Str := ["value", "key", "way"]
theorem sc_is_step : FnScope n_is_step ["value"] (defScope s_is_step) := ⟨rfl, rfl, rfl, by decide +kernel, rfl, by decide +kernel, by decide +kernel⟩
-- 0 value, 1 key, 2 way
abbrev s_is_below : Stmt := topS 25
abbrev n_is_below : List Str := ["key", "many"]
theorem sc_is_below : FnScope n_is_below ["key", "many"] (defScope s_is_below) := ⟨rfl, rfl, rfl, by decide +kernel, rfl, by decide +kernel, by decide +kernel⟩
-- 0 key, 1 many
abbrev s_can_follow : Stmt := topS 26
abbrev n_can_follow : List Str := ["event", "last", "held"]
theorem sc_can_follow : FnScope n_can_follow ["event", "last", "held"] (defScope s_can_follow) := ⟨rfl, rfl, rfl, by decide +kernel, rfl, by decide +kernel, by decide +kernel⟩
-- 0 event, 1 last, 2 held
abbrev s_takes_turn : Stmt := topS 27
abbrev n_takes_turn : List Str := ["held", "key", "way", "goes_down"]
theorem sc_takes_turn : FnScope n_takes_turn ["held", "key", "way"] (defScope s_takes_turn) := ⟨rfl, rfl, rfl, by decide +kernel, rfl, by decide +kernel, by decide +kernel⟩
-- 0 held, 1 key, 2 way, 3 goes_down
abbrev s_are_ticks : Stmt := topS 28
abbrev n_are_ticks : List Str := ["value", "many", "at", "tick"]
theorem sc_are_ticks : FnScope n_are_ticks ["value", "many"] (defScope s_are_ticks) := ⟨rfl, rfl, rfl, by decide +kernel, rfl, by decide +kernel, by decide +kernel⟩
-- 0 value*, 1 many, 2 at*, 3 tick*
abbrev s_come_all : Stmt := topS 30
abbrev n_come_all : List Str := ["machine", "events", "out", "event"]
theorem sc_come_all : FnScope n_come_all ["machine", "events"] (defScope s_come_all) := ⟨rfl, rfl, rfl, by decide +kernel, rfl, by decide +kernel, by decide +kernel⟩
-- 0 machine, 1 events, 2 out, 3 event
abbrev s_run_out : Stmt := topS 31
abbrev n_run_out : List Str := ["machine", "out", "due"]
theorem sc_run_out : FnScope n_run_out ["machine"] (defScope s_run_out) := ⟨rfl, rfl, rfl, by decide +kernel, rfl, by decide +kernel, by decide +kernel⟩
-- 0 machine, 1 out, 2 due
abbrev s_check_layout : Stmt := topS 40
abbrev n_check_layout : List Str := ["value", "layer", "actions", "key", "action"]
theorem sc_check_layout : FnScope n_check_layout ["value"] (defScope s_check_layout) := ⟨rfl, rfl, rfl, by decide +kernel, rfl, by decide +kernel, by decide +kernel⟩
-- 0 value, 1 layer, 2 actions, 3 key, 4 action
abbrev s_has_layout_form : Stmt := topS 41
abbrev n_has_layout_form : List Str := ["value", "many", "actions"]
theorem sc_has_layout_form : FnScope n_has_layout_form ["value"] (defScope s_has_layout_form) := ⟨rfl, rfl, rfl, by decide +kernel, rfl, by decide +kernel, by decide +kernel⟩
-- 0 value, 1 many*, 2 actions*
abbrev s_can_stand : Stmt := topS 42
abbrev n_can_stand : List Str := ["action", "layer", "layer_count"]
theorem sc_can_stand : FnScope n_can_stand ["action", "layer", "layer_count"] (defScope s_can_stand) := ⟨rfl, rfl, rfl, by decide +kernel, rfl, by decide +kernel, by decide +kernel⟩
-- 0 action, 1 layer, 2 layer_count
abbrev s_is_code_action : Stmt := topS 43
abbrev n_is_code_action : List Str := ["action", "word", "code"]
theorem sc_is_code_action : FnScope n_is_code_action ["action"] (defScope s_is_code_action) := ⟨rfl, rfl, rfl, by decide +kernel, rfl, by decide +kernel, by decide +kernel⟩
-- 0 action, 1 word, 2 code
abbrev s_is_layer_action : Stmt := topS 44
abbrev n_is_layer_action : List Str := ["action", "words", "layer_count", "word", "layer"]
theorem sc_is_layer_action : FnScope n_is_layer_action ["action", "words", "layer_count"] (defScope s_is_layer_action) := ⟨rfl, rfl, rfl, by decide +kernel, rfl, by decide +kernel, by decide +kernel⟩
-- 0 action, 1 words, 2 layer_count, 3 word, 4 layer
abbrev s_is_dual_action : Stmt := topS 45
abbrev n_is_dual_action : List Str := ["action", "layer_count", "word", "tap", "hold", "time", "rule"]
theorem sc_is_dual_action : FnScope n_is_dual_action ["action", "layer_count"] (defScope s_is_dual_action) := ⟨rfl, rfl, rfl, by decide +kernel, rfl, by decide +kernel, by decide +kernel⟩
-- 0 action, 1 layer_count, 2 word, 3 tap, 4 hold, 5 time, 6 rule
abbrev s_is_hold : Stmt := topS 46
abbrev n_is_hold : List Str := ["value", "layer_count"]
theorem sc_is_hold : FnScope n_is_hold ["value", "layer_count"] (defScope s_is_hold) := ⟨rfl, rfl, rfl, by decide +kernel, rfl, by decide +kernel, by decide +kernel⟩
-- 0 value, 1 layer_count
abbrev s_is_code : Stmt := topS 47
abbrev n_is_code : List Str := ["value", "sign"]
theorem sc_is_code : FnScope n_is_code ["value"] (defScope s_is_code) := ⟨rfl, rfl, rfl, by decide +kernel, rfl, by decide +kernel, by decide +kernel⟩
-- 0 value, 1 sign*
abbrev s_is_dual : Stmt := topS 48
abbrev n_is_dual : List Str := ["action"]
theorem sc_is_dual : FnScope n_is_dual ["action"] (defScope s_is_dual) := ⟨rfl, rfl, rfl, by decide +kernel, rfl, by decide +kernel, by decide +kernel⟩
-- 0 action
abbrev s_deciding_event : Stmt := topS 52
abbrev n_deciding_event : List Str := ["record", "at", "rule", "own", "inner", "number", "tick", "key", "way"]
theorem sc_deciding_event : FnScope n_deciding_event ["record", "at", "rule"] (defScope s_deciding_event) := ⟨rfl, rfl, rfl, by decide +kernel, rfl, by decide +kernel, by decide +kernel⟩
-- 0 record, 1 at, 2 rule, 3 own, 4 inner, 5 number, 6 tick, 7 key, 8 way
abbrev s_sure_event : Stmt := topS 53
abbrev n_sure_event : List Str := ["record", "at", "dual", "number"]
theorem sc_sure_event : FnScope n_sure_event ["record", "at", "dual"] (defScope s_sure_event) := ⟨rfl, rfl, rfl, by decide +kernel, rfl, by decide +kernel, by decide +kernel⟩
-- 0 record, 1 at, 2 dual, 3 number
abbrev s_dual_kind : Stmt := topS 54
abbrev n_dual_kind : List Str := ["record", "at", "sure"]
theorem sc_dual_kind : FnScope n_dual_kind ["record", "at", "sure"] (defScope s_dual_kind) := ⟨rfl, rfl, rfl, by decide +kernel, rfl, by decide +kernel, by decide +kernel⟩
-- 0 record, 1 at, 2 sure
abbrev s_what_is_done : Stmt := topS 55
abbrev n_what_is_done : List Str := ["action", "kind"]
theorem sc_what_is_done : FnScope n_what_is_done ["action", "kind"] (defScope s_what_is_done) := ⟨rfl, rfl, rfl, by decide +kernel, rfl, by decide +kernel, by decide +kernel⟩
-- 0 action, 1 kind
abbrev s_play : Stmt := topS 56
abbrev n_play : List Str := ["layout", "record", "player", "told", "at", "tick", "key", "way", "layer", "action", "sure", "kind", "what"]
theorem sc_play : FnScope n_play ["layout", "record"] (defScope s_play) := ⟨rfl, rfl, rfl, by decide +kernel, rfl, by decide +kernel, by decide +kernel⟩
-- 0 layout, 1 record, 2 player, 3 told, 4 at, 5 tick, 6 key, 7 way, 8 layer, 9 action, 10 sure, 11 kind, 12 what
abbrev s_played : Stmt := topS 58
abbrev n_played : List Str := ["layout", "record", "_", "told", "meaning", "sure", "output"]
theorem sc_played : FnScope n_played ["layout", "record"] (defScope s_played) := ⟨rfl, rfl, rfl, by decide +kernel, rfl, by decide +kernel, by decide +kernel⟩
-- 0 layout, 1 record, 2 _, 3 told, 4 meaning*, 5 sure*, 6 output*
abbrev s_layers_on : Stmt := topS 59
abbrev n_layers_on : List Str := ["layout", "record", "player", "_"]
theorem sc_layers_on : FnScope n_layers_on ["layout", "record"] (defScope s_layers_on) := ⟨rfl, rfl, rfl, by decide +kernel, rfl, by decide +kernel, by decide +kernel⟩
-- 0 layout, 1 record, 2 player, 3 _
abbrev s_check_playable : Stmt := topS 60
abbrev n_check_playable : List Str := ["layout", "record"]
theorem sc_check_playable : FnScope n_check_playable ["layout", "record"] (defScope s_check_playable) := ⟨rfl, rfl, rfl, by decide +kernel, rfl, by decide +kernel, by decide +kernel⟩
-- 0 layout, 1 record
abbrev s_outputs : Stmt := topS 64
abbrev n_outputs : List Str := ["layout", "record", "row"]
theorem sc_outputs : FnScope n_outputs ["layout", "record"] (defScope s_outputs) := ⟨rfl, rfl, rfl, by decide +kernel, rfl, by decide +kernel, by decide +kernel⟩
-- 0 layout, 1 record, 2 row
abbrev s_format_record : Stmt := topS 68
abbrev n_format_record : List Str := ["record", "event"]
theorem sc_format_record : FnScope n_format_record ["record"] (defScope s_format_record) := ⟨rfl, rfl, rfl, by decide +kernel, rfl, by decide +kernel, by decide +kernel⟩
-- 0 record, 1 event*
abbrev s_parse_record : Stmt := topS 69
abbrev n_parse_record : List Str := ["text", "record", "held", "at", "word", "event", "last"]
theorem sc_parse_record : FnScope n_parse_record ["text"] (defScope s_parse_record) := ⟨rfl, rfl, rfl, by decide +kernel, rfl, by decide +kernel, by decide +kernel⟩
-- 0 text, 1 record, 2 held, 3 at, 4 word, 5 event, 6 last
abbrev s_event_text : Stmt := topS 70
abbrev n_event_text : List Str := ["event", "tick", "key", "way"]
theorem sc_event_text : FnScope n_event_text ["event"] (defScope s_event_text) := ⟨rfl, rfl, rfl, by decide +kernel, rfl, by decide +kernel, by decide +kernel⟩
-- 0 event, 1 tick, 2 key, 3 way
abbrev s_way_sign : Stmt := topS 71
abbrev n_way_sign : List Str := ["way"]
theorem sc_way_sign : FnScope n_way_sign ["way"] (defScope s_way_sign) := ⟨rfl, rfl, rfl, by decide +kernel, rfl, by decide +kernel, by decide +kernel⟩
-- 0 way
abbrev s_event_of : Stmt := topS 72
abbrev n_event_of : List Str := ["word", "way", "key", "_", "tick"]
theorem sc_event_of : FnScope n_event_of ["word"] (defScope s_event_of) := ⟨rfl, rfl, rfl, by decide +kernel, rfl, by decide +kernel, by decide +kernel⟩
-- 0 word, 1 way, 2 key, 3 _, 4 tick
abbrev s_is_number : Stmt := topS 73
abbrev n_is_number : List Str := ["text", "sign"]
theorem sc_is_number : FnScope n_is_number ["text"] (defScope s_is_number) := ⟨rfl, rfl, rfl, by decide +kernel, rfl, by decide +kernel, by decide +kernel⟩
-- 0 text, 1 sign*
abbrev s_is_signed_number : Stmt := topS 74
abbrev n_is_signed_number : List Str := ["text"]
theorem sc_is_signed_number : FnScope n_is_signed_number ["text"] (defScope s_is_signed_number) := ⟨rfl, rfl, rfl, by decide +kernel, rfl, by decide +kernel, by decide +kernel⟩
-- 0 text
abbrev s__law_reel : Stmt := topS 76
abbrev n__law_reel : List Str := ["_law_script", "_law_index", "_law_mixed", "_law_cell"]
theorem sc__law_reel : FnScope n__law_reel ["_law_script", "_law_index"] (defScope s__law_reel) := ⟨rfl, rfl, rfl, by decide +kernel, rfl, by decide +kernel, by decide +kernel⟩
-- 0 _law_script, 1 _law_index, 2 _law_mixed, 3 _law_cell
abbrev s__law_spin : Stmt := topS 77
abbrev n__law_spin : List Str := ["_law_reel_here", "_law_size", "_law_digit", "_law_wide"]
theorem sc__law_spin : FnScope n__law_spin ["_law_reel_here", "_law_size"] (defScope s__law_spin) := ⟨rfl, rfl, rfl, by decide +kernel, rfl, by decide +kernel, by decide +kernel⟩
-- 0 _law_reel_here, 1 _law_size, 2 _law_digit, 3 _law_wide
abbrev s__law_code : Stmt := topS 78
abbrev n__law_code : List Str := ["_law_reel_here", "_law_some", "_law_way", "_law_many", "_law_letters", "_law_turn"]
theorem sc__law_code : FnScope n__law_code ["_law_reel_here"] (defScope s__law_code) := ⟨rfl, rfl, rfl, by decide +kernel, rfl, by decide +kernel, by decide +kernel⟩
-- 0 _law_reel_here*, 1 _law_some, 2 _law_way, 3 _law_many, 4 _law_letters*, 5 _law_turn*
abbrev s__law_action : Stmt := topS 79
abbrev n__law_action : List Str := ["_law_reel_here", "_law_layer", "_law_layers", "_law_longest", "_law_way", "_law_hold_here", "_law_time_here"]
theorem sc__law_action : FnScope n__law_action ["_law_reel_here", "_law_layer", "_law_layers", "_law_longest"] (defScope s__law_action) := ⟨rfl, rfl, rfl, by decide +kernel, rfl, by decide +kernel, by decide +kernel⟩
-- 0 _law_reel_here, 1 _law_layer, 2 _law_layers, 3 _law_longest, 4 _law_way, 5 _law_hold_here, 6 _law_time_here
abbrev s__law_layout : Stmt := topS 80
abbrev n__law_layout : List Str := ["_law_reel_here", "_law_layers", "_law_keys", "_law_longest", "_law_found", "_law_layer", "_law_key"]
theorem sc__law_layout : FnScope n__law_layout ["_law_reel_here", "_law_layers", "_law_keys", "_law_longest"] (defScope s__law_layout) := ⟨rfl, rfl, rfl, by decide +kernel, rfl, by decide +kernel, by decide +kernel⟩
-- 0 _law_reel_here*, 1 _law_layers*, 2 _law_keys, 3 _law_longest*, 4 _law_found, 5 _law_layer*, 6 _law_key*
abbrev s__law_record : Stmt := topS 81
abbrev n__law_record : List Str := ["_law_reel_here", "_law_keys", "_law_size", "_law_gaps", "_law_found", "_law_down", "_law_tick", "_law_turn", "_law_key"]
theorem sc__law_record : FnScope n__law_record ["_law_reel_here", "_law_keys", "_law_size", "_law_gaps"] (defScope s__law_record) := ⟨rfl, rfl, rfl, by decide +kernel, rfl, by decide +kernel, by decide +kernel⟩
-- 0 _law_reel_here, 1 _law_keys, 2 _law_size, 3 _law_gaps, 4 _law_found, 5 _law_down, 6 _law_tick, 7 _law_turn, 8 _law_key
abbrev s__law_joined_right : Stmt := topS 82
abbrev n__law_joined_right : List Str := ["_law_layout_here", "_law_one", "_law_two", "_law_start", "_law_both", "_law_told", "_law_came", "_law_text", "_law_tick", "_law_key", "_law_way", "_law_record_here"]
theorem sc__law_joined_right : FnScope n__law_joined_right ["_law_layout_here", "_law_one", "_law_two"] (defScope s__law_joined_right) := ⟨rfl, rfl, rfl, by decide +kernel, rfl, by decide +kernel, by decide +kernel⟩
-- 0 _law_layout_here, 1 _law_one, 2 _law_two, 3 _law_start*, 4 _law_both, 5 _law_told, 6 _law_came, 7 _law_text, 8 _law_tick*, 9 _law_key*, 10 _law_way*, 11 _law_record_here*
abbrev s__law_cuts_right : Stmt := topS 83
abbrev n__law_cuts_right : List Str := ["_law_layout_here", "_law_record_here", "_law_told", "_law_came", "_law_cut", "_law_beginning", "_law_some", "_law_event"]
theorem sc__law_cuts_right : FnScope n__law_cuts_right ["_law_layout_here", "_law_record_here"] (defScope s__law_cuts_right) := ⟨rfl, rfl, rfl, by decide +kernel, rfl, by decide +kernel, by decide +kernel⟩
-- 0 _law_layout_here, 1 _law_record_here, 2 _law_told, 3 _law_came, 4 _law_cut, 5 _law_beginning, 6 _law_some, 7 _law_event*
abbrev s__law_ended_right : Stmt := topS 84
abbrev n__law_ended_right : List Str := ["_law_layout_here", "_law_record_here", "_law_last", "_law_came", "_law_later", "_law_row"]
theorem sc__law_ended_right : FnScope n__law_ended_right ["_law_layout_here", "_law_record_here"] (defScope s__law_ended_right) := ⟨rfl, rfl, rfl, by decide +kernel, rfl, by decide +kernel, by decide +kernel⟩
-- 0 _law_layout_here, 1 _law_record_here, 2 _law_last, 3 _law_came, 4 _law_later, 5 _law_row*
abbrev s_law : Stmt := topS 85
abbrev n_law : List Str := ["_law_script", "_law_index", "_law_reel_here", "_law_turn", "_law_layers", "_law_keys", "_law_layout_here", "_law_gaps", "_law_pair", "_law_part", "_law_record_here", "_law_one", "_law_two"]
theorem sc_law : FnScope n_law ["_law_script"] (defScope s_law) := ⟨rfl, rfl, rfl, by decide +kernel, rfl, by decide +kernel, by decide +kernel⟩
-- 0 _law_script, 1 _law_index, 2 _law_reel_here, 3 _law_turn, 4 _law_layers, 5 _law_keys, 6 _law_layout_here, 7 _law_gaps, 8 _law_pair, 9 _law_part, 10 _law_record_here, 11 _law_one, 12 _law_two
abbrev s_Player_init : Stmt := inClass (topS 51) 0
abbrev n_Player_init : List Str := ["self", "layout"]
theorem sc_Player_init : FnScope n_Player_init ["self", "layout"] (defScope s_Player_init) := ⟨rfl, rfl, rfl, by decide +kernel, rfl, by decide +kernel, by decide +kernel⟩
-- 0 self, 1 layout
abbrev s_twin : Stmt := inClass (topS 62) 1
abbrev n_twin : List Str := ["self"]
theorem sc_twin : FnScope n_twin ["self"] (defScope s_twin) := ⟨rfl, rfl, rfl, by decide +kernel, rfl, by decide +kernel, by decide +kernel⟩
-- 0 self
abbrev s_is_on : Stmt := inClass (topS 51) 2
abbrev n_is_on : List Str := ["self", "layer"]
theorem sc_is_on : FnScope n_is_on ["self", "layer"] (defScope s_is_on) := ⟨rfl, rfl, rfl, by decide +kernel, rfl, by decide +kernel, by decide +kernel⟩
-- 0 self, 1 layer
abbrev s_on_layers : Stmt := inClass (topS 51) 3
abbrev n_on_layers : List Str := ["self", "layer"]
theorem sc_on_layers : FnScope n_on_layers ["self"] (defScope s_on_layers) := ⟨rfl, rfl, rfl, by decide +kernel, rfl, by decide +kernel, by decide +kernel⟩
-- 0 self*, 1 layer*
abbrev s_down_codes : Stmt := inClass (topS 51) 4
abbrev n_down_codes : List Str := ["self"]
theorem sc_down_codes : FnScope n_down_codes ["self"] (defScope s_down_codes) := ⟨rfl, rfl, rfl, by decide +kernel, rfl, by decide +kernel, by decide +kernel⟩
-- 0 self
abbrev s_taken : Stmt := inClass (topS 51) 5
abbrev n_taken : List Str := ["self", "key", "layer", "at", "actions"]
theorem sc_taken : FnScope n_taken ["self", "key"] (defScope s_taken) := ⟨rfl, rfl, rfl, by decide +kernel, rfl, by decide +kernel, by decide +kernel⟩
-- 0 self*, 1 key*, 2 layer, 3 at*, 4 actions*
abbrev s_press : Stmt := inClass (topS 51) 6
abbrev n_press : List Str := ["self", "key", "what", "word", "about"]
theorem sc_press : FnScope n_press ["self", "key", "what"] (defScope s_press) := ⟨rfl, rfl, rfl, by decide +kernel, rfl, by decide +kernel, by decide +kernel⟩
-- 0 self, 1 key, 2 what, 3 word, 4 about
abbrev s_release : Stmt := inClass (topS 51) 7
abbrev n_release : List Str := ["self", "key", "word", "about"]
theorem sc_release : FnScope n_release ["self", "key"] (defScope s_release) := ⟨rfl, rfl, rfl, by decide +kernel, rfl, by decide +kernel, by decide +kernel⟩
-- 0 self, 1 key, 2 word, 3 about
abbrev s_Row_init : Stmt := inClass (topS 62) 0
abbrev n_Row_init : List Str := ["self", "layout"]
theorem sc_Row_init : FnScope n_Row_init ["self", "layout"] (defScope s_Row_init) := ⟨rfl, rfl, rfl, by decide +kernel, rfl, by decide +kernel, by decide +kernel⟩
-- 0 self, 1 layout
abbrev s_due : Stmt := inClass (topS 62) 2
abbrev n_due : List Str := ["self", "tick", "key", "way", "layer", "dual"]
theorem sc_due : FnScope n_due ["self"] (defScope s_due) := ⟨rfl, rfl, rfl, by decide +kernel, rfl, by decide +kernel, by decide +kernel⟩
-- 0 self, 1 tick, 2 key, 3 way, 4 layer, 5 dual
abbrev s_clock : Stmt := inClass (topS 62) 3
abbrev n_clock : List Str := ["self", "tick", "out", "due"]
theorem sc_clock : FnScope n_clock ["self", "tick"] (defScope s_clock) := ⟨rfl, rfl, rfl, by decide +kernel, rfl, by decide +kernel, by decide +kernel⟩
-- 0 self, 1 tick, 2 out, 3 due
abbrev s_come : Stmt := inClass (topS 62) 4
abbrev n_come : List Str := ["self", "event"]
theorem sc_come : FnScope n_come ["self", "event"] (defScope s_come) := ⟨rfl, rfl, rfl, by decide +kernel, rfl, by decide +kernel, by decide +kernel⟩
-- 0 self, 1 event
abbrev s_let_out : Stmt := inClass (topS 62) 5
abbrev n_let_out : List Str := ["self", "now", "out", "tick", "key", "way", "output", "what"]
theorem sc_let_out : FnScope n_let_out ["self", "now"] (defScope s_let_out) := ⟨rfl, rfl, rfl, by decide +kernel, rfl, by decide +kernel, by decide +kernel⟩
-- 0 self, 1 now, 2 out, 3 tick, 4 key, 5 way, 6 output, 7 what
abbrev s_front_means : Stmt := inClass (topS 62) 6
abbrev n_front_means : List Str := ["self", "now", "tick", "key", "way", "layer", "action", "sure"]
theorem sc_front_means : FnScope n_front_means ["self", "now"] (defScope s_front_means) := ⟨rfl, rfl, rfl, by decide +kernel, rfl, by decide +kernel, by decide +kernel⟩
-- 0 self, 1 now, 2 tick, 3 key, 4 way, 5 layer, 6 action, 7 sure

/-! ### the reel -/
def Reel (H : Hp) (r : Addr) (n : Nat) : Prop := ∃ x y z : Int, H r = some (.lst [.int x, .int y, .int z]) ∧ 0 ≤ x ∧ 0 ≤ y ∧ y < 10 ^ 42 ∧ 0 ≤ z ∧ z ≤ (n : Int)
theorem Reel.mono {H : Hp} {r : Addr} {n m : Nat} (h : Reel H r n) (l : n ≤ m) : Reel H r m := by
  obtain ⟨x, y, z, a, b, c, d, e, f⟩ := h
  exact ⟨x, y, z, a, b, c, d, e, by omega⟩
theorem Reel.same {H H' : Hp} {r : Addr} {n : Nat} (h : Reel H r n) (l : Same H H') : Reel H' r n := by
  obtain ⟨x, y, z, a, b⟩ := h
  exact ⟨x, y, z, l _ _ a, b⟩
theorem Reel.upd {H : Hp} {r b : Addr} {n : Nat} {o : HO} (h : Reel H r n) (ne : b ≠ r) : Reel (upd H b o) r n := by
  obtain ⟨x, y, z, g, g'⟩ := h
  exact ⟨x, y, z, by rw [upd_ne ne.symm]; exact g, g'⟩
theorem Reel.new {H : Hp} {r b : Addr} {n : Nat} (h : Reel H r n) (nb : H b = none) : b ≠ r := by
  obtain ⟨_, _, _, hr, _⟩ := h
  exact (ne_of_none hr nb).symm
theorem Reel.free {H H1 : Hp} {r b : Addr} {n : Nat} (o : Off r H H1) (h : Reel H1 r n) (nb : H1 b = none) : H b = none := by
  obtain ⟨_, _, _, hr, _⟩ := h
  exact o.free hr nb
theorem Reel.lst {α : Type} {f : α → List V} {H H' : Hp} {r c : Addr} {n : Nat} {es : List α} (h : Reel H r n) (hl : Lst f H c es) (ne : c ≠ r) (o : Off r H H') : Lst f H' c es := by
  obtain ⟨_, _, _, hr, _⟩ := h
  exact hl.off hr ne o
theorem Reel.tk {H H' : Hp} {r : Addr} {n : Nat} (h : Reel H r n) (o : Off r H H') : Tk H H' := fun b xs e => o _ _ e (by
  obtain ⟨x, y, z, hr, _⟩ := h
  exact ne_of e hr (by intro q; cases q))
/-- the draws so far are fewer than this -/
abbrev most : Nat := 1000000000
def spSpin : Sp := fun vs H Q _ => ∃ (r : Addr) (m : Int) (n : Nat), vs = [.ref r, .int m] ∧ 0 < m ∧ m < 10 ^ 40 ∧ n < most ∧ Reel H r n ∧
  ∀ d H', 0 ≤ d → d < m → Reel H' r (n + 1) → Off r H H' → Q (.int d) H'
structure Bt (mg : Str → Option Value) : Prop where
  m_len : mg "len" = none
  m_abs : mg "abs" = none
  m_max : mg "max" = none
  m_min : mg "min" = none
  m_sum : mg "sum" = none
  m_repr : mg "repr" = none
  m_isinstance : mg "isinstance" = none
  m_all : mg "all" = none
  m_list : mg "list" = none
  m_tuple : mg "tuple" = none
  m_int : mg "int" = none
  m_bool : mg "bool" = none
  m_str : mg "str" = none
  m_range : mg "range" = none
  m_enumerate : mg "enumerate" = none
  m_sorted : mg "sorted" = none
  m_zip : mg "zip" = none
  m_set : mg "set" = none
section
variable {P : Program} {w : World} {K : PySem.W.Frag} {mg : Str → Option Value} {base : Heap}
theorem p43 : (10 : Int) ^ (43 : Int).toNat + 57 = 10 ^ 43 + 57 := rfl
theorem ok__law_spin (a : At K mg "_law_spin" s__law_spin ["_law_reel_here", "_law_size"]) : Cl P w K mg base 1 "_law_spin" spSpin := by
  refine clG a sc__law_spin (fun vs H Q E h => ?_) (fun f cdv A outer s H vs Q hg hr h => ?_)
  · obtain ⟨r, m, n, rfl, _⟩ := h
    rfl
  · obtain ⟨r, m, n, rfl, hm, hm2, hn0, ⟨x, y, z, hR, hx, hy, hy2, hz, hz2⟩, q⟩ := h
    have hn : n < 1000000000 := hn0
    refine ⟨_, (pss_cons (ps_if (pt_cmpR op_gt (pe_ix ix_list (pv 0) pe_int (fun _ _ => rfl)) pe_int (nomark _)) (pss_cons (ps_set (i := 2) sc__law_spin.nd rfl (Or.inl rfl) (pe_op op_mod (pe_ix ix_list (pv 0) pe_int (fun _ _ => rfl)) (pv 1)))
      (pss_cons (ps_asg (pe_op op_fdivW (pe_ix ix_list (pv 0) pe_int (fun _ _ => rfl)) (pv 1)) (pg_sub (pv 0) pe_int set_list))
      (pss_one (ps_ret (pv 2))))) pss_nil)
      (pss_cons (ps_asg (pe_op op_add (pe_ix ix_list (pv 0) pe_int (fun _ _ => rfl)) pe_int) (pg_sub (pv 0) pe_int set_list))
      (pss_cons (ps_set (i := 3) sc__law_spin.nd rfl (Or.inl rfl) (pe_op op_mod (pe_op op_powW (pe_op op_add (pe_ix ix_list (pv 0) pe_int (fun _ _ => rfl)) (pe_op op_mulW pe_int (pe_ix ix_list (pv 0) pe_int (fun _ _ => rfl)))) pe_int) (pe_op op_add (pe_op op_powW pe_int pe_int) pe_int)))
      (pss_cons (ps_set (i := 3) sc__law_spin.nd rfl (Or.inl rfl) (pe_op op_mod (pe_op op_powW (pe_op op_add (pv 3) (pe_op op_mulW pe_int (pe_ix ix_list (pv 0) pe_int (fun _ _ => rfl)))) pe_int) (pe_op op_add (pe_op op_powW pe_int pe_int) pe_int)))
      (pss_one (ps_ret (pe_op op_mod (pe_op op_fdivW (pv 3) pe_int) (pv 1)))))))), ?_⟩
    refine ⟨_, rfl, r, _, 0, _, rfl, rfl, SqL.of hR, atI_nat (j := 0) rfl, ?_⟩
    refine ⟨_, _, rfl, rfl, _, rfl, ite2 (fun e => ?_) (fun e => ?_)⟩
    · -- a digit of the great number
      have e0 : 0 < x := of_decide_eq_true e
      refine ⟨_, rfl, r, _, 0, _, rfl, rfl, SqL.of hR, atI_nat (j := 0) rfl, _, rfl, _, _, rfl, rfl, hm, ?_⟩
      refine ⟨_, rfl, r, _, 0, _, rfl, rfl, SqL.of hR, atI_nat (j := 0) rfl, _, rfl, _, _, rfl, rfl, wide_div (b := 140) hm (by omega) (by decide) (by decide), ?_⟩
      refine ⟨_, rfl, r, _, 0, 0, rfl, rfl, hR, rfl, ?_⟩
      refine ⟨_, rfl, q _ _ (Int.emod_nonneg _ (by omega)) (Int.emod_lt_of_pos _ hm) ⟨x / m, y, z, upd_same, Int.ediv_nonneg hx (by omega), hy, hy2, hz, by omega⟩ off_upd⟩
    · refine ⟨_, rfl, r, _, 2, _, rfl, rfl, SqL.of hR, atI_nat (j := 2) rfl, _, _, rfl, rfl, ?_⟩
      refine ⟨_, rfl, r, _, 2, 2, rfl, rfl, hR, rfl, ?_⟩
      have hR1 : upd H r (.lst [.int x, .int y, .int (z + 1)]) r = some (.lst [.int x, .int y, .int (z + 1)]) := upd_same
      refine ⟨_, rfl, r, _, 1, _, rfl, rfl, SqL.of hR1, atI_nat (j := 1) rfl, ?_⟩
      refine ⟨_, rfl, r, _, 2, _, rfl, rfl, SqL.of hR1, atI_nat (j := 2) rfl, ?_⟩
      have b1 : (z + 1).natAbs < 2 ^ 40 := by omega
      have b2 : (49979687 * (z + 1)).natAbs < 2 ^ 80 := by omega
      refine ⟨_, _, rfl, rfl, wide_mul (a := 40) (b := 40) (by decide) b1 (by decide) (by decide) (by decide), ?_⟩
      refine ⟨_, _, rfl, rfl, ?_⟩
      have b3 : (y + 49979687 * (z + 1)).natAbs < 2 ^ 150 := by omega
      refine ⟨_, _, rfl, rfl, powW (n := 150) (k := 3) b3 (by decide), ?_⟩
      refine ⟨_, _, rfl, rfl, powW (n := 40) (k := 43) (by decide) (by decide), ?_⟩
      refine ⟨_, _, rfl, rfl, _, _, rfl, rfl, (show (0 : Int) < 10 ^ 43 + 57 by decide), ?_⟩
      have c1 : 0 ≤ (y + 49979687 * (z + 1)) ^ 3 % (10 ^ 43 + 57) := Int.emod_nonneg _ (by decide)
      have c2 : (y + 49979687 * (z + 1)) ^ 3 % (10 ^ 43 + 57) < 10 ^ 43 + 57 := Int.emod_lt_of_pos _ (by decide)
      generalize hu : (y + 49979687 * (z + 1)) ^ 3 % (10 ^ 43 + 57) = u at c1 c2
      refine ⟨.int u, congrArg (fun v => some (some (V.int v))) hu, ?_⟩
      refine ⟨_, rfl, r, _, 2, _, rfl, rfl, SqL.of hR1, atI_nat (j := 2) rfl, ?_⟩
      have b4 : (22801763 * (z + 1)).natAbs < 2 ^ 80 := by omega
      refine ⟨_, _, rfl, rfl, wide_mul (a := 40) (b := 40) (by decide) b1 (by decide) (by decide) (by decide), ?_⟩
      have b5 : (u + 22801763 * (z + 1)).natAbs < 2 ^ 150 := by omega
      refine ⟨_, _, rfl, rfl, _, _, rfl, rfl, powW (n := 150) (k := 5) b5 (by decide), ?_⟩
      refine ⟨_, _, rfl, rfl, powW (n := 40) (k := 40) (by decide) (by decide), ?_⟩
      refine ⟨_, _, rfl, rfl, _, _, rfl, rfl, (show (0 : Int) < 10 ^ 40 + 121 by decide), ?_⟩
      refine ⟨_, rfl, _, _, rfl, rfl, wide_div (b := 40) (by decide) (by decide) (by decide) (by decide), ?_⟩
      refine ⟨_, rfl, _, _, rfl, rfl, hm, ?_⟩
      exact q _ _ (Int.emod_nonneg _ (by omega)) (Int.emod_lt_of_pos _ hm) ⟨x, y, z + 1, upd_same, hx, hy, hy2, by omega, by omega⟩ off_upd
def spReel (K : PySem.W.Frag) : Sp := fun vs H Q _ => ∃ (s : Addr) (ns : List Int) (i : Nat), vs = [.ref s, .int (i : Int)] ∧ SqL K H s (ns.map V.int) ∧ ns.length ≤ 63 ∧ i < 100 ∧
  ∀ r H', Same H H' → H r = none → Reel H' r 0 → Q (.ref r) H'
theorem ok__law_reel (bt : Bt mg) (a : At K mg "_law_reel" s__law_reel ["_law_script", "_law_index"]) : Cl P w K mg base 1 "_law_reel" (spReel K) := by
  refine clG a sc__law_reel (fun vs H Q E h => ?_) (fun f cdv A outer s H vs Q hg hr h => ?_)
  · obtain ⟨r, m, n, rfl, _⟩ := h
    rfl
  · obtain ⟨sc, ns, i, rfl, hS, hl, hi, q⟩ := h
    refine ⟨_, (pss_cons (ps_set (i := 2) sc__law_reel.nd rfl (Or.inl rfl) (pe_op op_add pe_int (pe_op op_mulW pe_int (pv 1))))
      (pss_cons (ps_for PassesOwn.never rfl (pi_list (pv 0)) (pg_name (i := 3) sc__law_reel.nd rfl (Or.inl rfl)) (pss_one (ps_set (i := 2) sc__law_reel.nd rfl (Or.inl rfl) (pe_op op_mod (pe_op op_add (pe_op op_mulW (pv 2) pe_int) (pe_op op_mod (pv 3) (pe_op op_add (pe_op op_powW pe_int pe_int) pe_int))) (pe_op op_add (pe_op op_powW pe_int pe_int) pe_int)))))
      (pss_cons (ps_set (i := 3) sc__law_reel.nd rfl (Or.inl rfl) (pe_ifExp (pt_cmpR op_lt (pv 1) (pe_callB call_len_seq (by rfl) bt.m_len (by decide +kernel) (pa_cons (pv 0) pa_nil)) (nomark _)) (pe_callB call_abs (by rfl) bt.m_abs (by decide +kernel) (pa_cons (pe_ix ix_list (pv 0) (pv 1) (fun _ _ => rfl)) pa_nil)) pe_int))
      (pss_one (ps_ret (pe_lst (pa_cons (pe_callB (call_max2 rfl) (by rfl) bt.m_max (by decide +kernel) (pa_cons pe_int (pa_cons (pe_op op_sub (pv 3) (pe_op op_powW pe_int pe_int)) pa_nil))) (pa_cons (pv 2) (pa_cons pe_int pa_nil))))))))), ?_⟩
    -- mixed = 60013 + 53 * index
    refine ⟨_, rfl, _, _, rfl, rfl, wide_mul (a := 40) (b := 40) (by decide) (by omega) (by decide) (by decide) (by decide), _, _, rfl, rfl, ?_⟩
    refine ⟨_, rfl, sc, rfl, ⟨_, hS⟩, for_it (walk_list (xs := ns.map V.int)) (fun _ σ H' => H' = H ∧ ∃ m y3, σ = [some (.ref sc), some (.int (i : Int)), some (.int m), y3] ∧ 0 ≤ m ∧ m < 10 ^ 42)
      ⟨rfl, _, _, rfl, by omega, by omega⟩ (fun _ _ H' _ p => by obtain ⟨rfl, _⟩ := p; exact hS) (fun j x σ H1 H2 hj p y => ?_) (fun σ H1 p => ?_)⟩
    · obtain ⟨rfl, m, y3, rfl, m0, m1⟩ := p
      obtain ⟨rfl, hx⟩ := y
      obtain ⟨c, hc, rfl⟩ : ∃ c, ns[j]? = some c ∧ V.int c = x := by
        rw [List.getElem?_map] at hx
        cases e : ns[j]? with
        | none => rw [e] at hx; cases hx
        | some c => rw [e] at hx; exact ⟨c, rfl, Option.some.inj hx⟩
      have b1 : m.natAbs < 2 ^ 140 := by omega
      refine ⟨_, rfl, _, _, rfl, rfl, wide_mul (a := 140) (b := 40) b1 (by decide) (by decide) (by decide) (by decide), ?_⟩
      refine ⟨_, rfl, _, _, rfl, rfl, powW (n := 40) (k := 43) (by decide) (by decide), _, _, rfl, rfl, ?_⟩
      refine ⟨_, _, rfl, rfl, (show (0 : Int) < 10 ^ 43 + 57 by decide), _, _, rfl, rfl, _, _, rfl, rfl, powW (n := 40) (k := 41) (by decide) (by decide), ?_⟩
      refine ⟨_, _, rfl, rfl, _, _, rfl, rfl, (show (0 : Int) < 10 ^ 41 + 37 by decide), ?_⟩
      have c1 := Int.emod_nonneg (m * 8675311 + c % (10 ^ 43 + 57)) (b := 10 ^ 41 + 37) (by decide)
      have c2 := Int.emod_lt_of_pos (m * 8675311 + c % (10 ^ 43 + 57)) (b := 10 ^ 41 + 37) (by decide)
      refine ⟨rfl, _, _, rfl, c1, ?_⟩
      exact Int.lt_trans c2 (by decide)
    · obtain ⟨rfl, m, y3, rfl, m0, m1⟩ := p
      refine ⟨_, rfl, .ref sc, rfl, sc, _, rfl, .inl hS, _, _, rfl, rfl, _, rfl, ite2 (fun e => ?_) (fun e => ?_)⟩
      · have e0 : (i : Int) < ((ns.map V.int).length : Nat) := of_decide_eq_true e
        rw [List.length_map] at e0
        have hlt : i < ns.length := by omega
        have g : (ns.map V.int)[i]? = some (.int ns[i]) := by
          rw [List.getElem?_map, List.getElem?_eq_getElem hlt]; rfl
        refine ⟨_, rfl, _, rfl, sc, _, (i : Int), _, rfl, rfl, hS, atI_nat g, _, rfl, ?_⟩
        refine ⟨_, rfl, _, _, rfl, rfl, powW (n := 40) (k := 18) (by decide) (by decide), _, _, rfl, rfl, _, _, rfl, .int m, rfl, (by show 3 ≤ sizeLine; decide), fun p np => ?_⟩
        exact q p _ (same_upd np) np ⟨_, m, 0, upd_same, by split <;> omega, m0, m1, by decide, by decide⟩
      · refine ⟨_, rfl, _, _, rfl, rfl, powW (n := 40) (k := 18) (by decide) (by decide), _, _, rfl, rfl, _, _, rfl, .int m, rfl, (by show 3 ≤ sizeLine; decide), fun p np => ?_⟩
        exact q p _ (same_upd np) np ⟨_, m, 0, upd_same, by split <;> omega, m0, m1, by decide, by decide⟩
end
end K86

set_option Elab.async false
set_option linter.all false
set_option maxRecDepth 100000
set_option maxHeartbeats 4000000
namespace K86
open PySem PySem.Spec PyProof.Rows L2 Gd Rm La Cb
def rLenB (K : PySem.W.Frag) : List V → Hp → VK → Prop := fun xs H Q => ∃ p ys, xs = [.ref p] ∧ (SqL K H p ys ∨ SqT K H p ys) ∧ Q (.int ys.length) H
def rListOf (K : PySem.W.Frag) : List V → Hp → VK → Prop := fun xs H Q => ∃ p ys, xs = [.ref p] ∧ (SqL K H p ys ∨ SqT K H p ys) ∧ ∀ l, H l = none → Q (.ref l) (upd H l (.lst ys))
theorem ixN_nat {n j : Nat} (hj : j < n) : ixN n (j : Int) = some j := by unfold ixN; rw [if_pos (by omega), if_pos (by omega), Int.toNat_natCast]
theorem get_map_ref {as : List Addr} {i : Nat} {b : Addr} (h : as[i]? = some b) : (as.map V.ref)[i]? = some (.ref b) := by rw [List.getElem?_map, h]; rfl
theorem get_map_int {ns : List Int} {i : Nat} {b : Int} (h : ns[i]? = some b) : (ns.map V.int)[i]? = some (.int b) := by rw [List.getElem?_map, h]; rfl
theorem cutTake {xs : List V} {k : Nat} : cutV xs none (some (k : Int)) = xs.take k := by
  unfold cutV
  rw [HT.sIx_none, HT.sIx_nat, List.drop_zero, Nat.sub_zero]
  rcases Nat.le_total k xs.length with h | h
  · rw [Nat.min_eq_left h]
  · rw [Nat.min_eq_right h, List.take_of_length_le (Nat.le_refl _), List.take_of_length_le h]
theorem cutDrop {xs : List V} {k : Nat} (h1 : k ≤ xs.length) : cutV xs (some (k : Int)) none = xs.drop k := by
  unfold cutV
  rw [HT.sIx_none, HT.sIx_nat, Nat.min_eq_left h1]
  exact List.take_of_length_le (by rw [List.length_drop]; omega)
theorem allTrue (n : Nat) : (List.replicate n true).all id = true := by simp
theorem small400 {n : Nat} (h : n ≤ 1000) : n ≤ sizeLine := Nat.le_of_lt (small1000 h)
section
variable {P : Program} {w : World} {K : PySem.W.Frag} {mg : Str → Option Value} {base : Heap}
def spInt : Sp := fun vs H Q _ => ∃ i : Int, vs = [.int i] ∧ Q (.bl true) H
theorem ok_is_an_integer (bt : Bt mg) (a : At K mg "is_an_integer" s_is_an_integer ["value"]) : Cl P w K mg base 1 "is_an_integer" spInt := by
  refine clG a sc_is_an_integer (fun vs H Q E h => ?_) (fun f cdv A outer s H vs Q hg hr h => ?_)
  · obtain ⟨i, rfl, _⟩ := h
    rfl
  · obtain ⟨i, rfl, q⟩ := h
    refine ⟨_, (pss_one (ps_ret (pe_and (pe_callB call_isi (by rfl) bt.m_isinstance (by decide +kernel) (pa_cons (pv 0) (pa_cons (pe_bltn (v := .ty "int") (by rfl) bt.m_int (by decide +kernel) rfl) pa_nil))) (pe_one (pe_not (pe_callB call_isi (by rfl) bt.m_isinstance (by decide +kernel) (pa_cons (pv 0) (pa_cons (pe_bltn (v := .ty "bool") (by rfl) bt.m_bool (by decide +kernel) rfl) pa_nil)))))))), ?_⟩
    refine ⟨_, rfl, _, _, _, _, true, rfl, .ty "int", .base (.int i), kit_ty (by decide +kernel), _, rfl, iteT ?_⟩
    exact ⟨_, rfl, _, _, _, _, false, rfl, .ty "bool", .base (.int i), kit_ty (by decide +kernel), _, rfl, q⟩
def spBet : Sp := fun vs H Q _ => ∃ i l u : Int, vs = [.int i, .int l, .int u] ∧ l ≤ i ∧ i ≤ u ∧ Q (.bl true) H
theorem ok_is_between (bt : Bt mg) (a : At K mg "is_between" s_is_between ["value", "low", "high"]) (c_is_an_integer : Cl P w K mg base 1 "is_an_integer" spInt) : Cl P w K mg base 2 "is_between" spBet := by
  refine clG a sc_is_between (fun vs H Q E h => ?_) (fun f cdv A outer s H vs Q hg hr h => ?_)
  · obtain ⟨i, l, u, rfl, _⟩ := h
    rfl
  · obtain ⟨i, l, u, rfl, h1, h2, q⟩ := h
    refine ⟨_, (pss_one (ps_ret (pe_and (pe_cl c_is_an_integer hg hr (by decide) (by rfl) (pa_cons (pv 0) pa_nil)) (pe_one (pe_chain op_le op_le (pv 1) (pv 0) (pv 2)))))), ?_⟩
    refine ⟨_, rfl, _, rfl, _, rfl, iteT ?_⟩
    refine ⟨_, rfl, _, rfl, _, _, rfl, rfl, true, congrArg V.bl (decide_eq_true h1), iteT ⟨_, rfl, _, _, rfl, rfl, ?_⟩⟩
    show Q (.bl (decide (i ≤ u))) H
    rw [decide_eq_true h2]
    exact q
def spCode : Sp := fun vs H Q _ => ∃ c : Str, vs = [.str c] ∧ CodeOk c ∧ ∀ H', Same H H' → Q (.bl true) H'
theorem ok_is_code (bt : Bt mg) {tk1 tk2 : Tok} (m_MOST_SIGNS : mg "MOST_SIGNS" = some (.int 8 tk1)) (m_CODE_SIGNS : mg "CODE_SIGNS" = some (.str "abcdefghijklmnopqrstuvwxyz0123456789" tk2)) (a : At K mg "is_code" s_is_code ["value"]) : Cl P w K mg base 1 "is_code" spCode := by
  refine clG a sc_is_code (fun vs H Q E h => ?_) (fun f cdv A outer s H vs Q hg hr h => ?_)
  · obtain ⟨i, rfl, _⟩ := h
    rfl
  · obtain ⟨c, rfl, hc, q⟩ := h
    refine ⟨_, (pss_cons (ps_if (PW.pt (pw_or (pt_not (pt_val (pe_callB call_isi (by rfl) bt.m_isinstance (by decide +kernel) (pa_cons (pv 0) (pa_cons (pe_bltn (v := .ty "str") (by rfl) bt.m_str (by decide +kernel) rfl) pa_nil))))) (pw_or1 (pt_not (pt_chain op_le op_le pe_int (pe_callB call_len_str (by rfl) bt.m_len (by decide +kernel) (pa_cons (pv 0) pa_nil)) (pe_glob (v := .int 8) (by rfl) m_MOST_SIGNS ⟨_, rfl⟩)))))) (pss_one (ps_ret pe_bl)) pss_nil)
      (pss_one (ps_ret (pe_callB (cr_all rfl) (by rfl) bt.m_all (by decide +kernel) (pa_cons (pe_lc (own := [("sign", 1)]) (g := (gName 1)) (by rfl) sc_is_code.nd (pi_str (pv 0)) (blkOk_by (N := n_is_code) (sc := defScope s_is_code) (by decide +kernel)) (fun _ _ _ _ _ => (pg_name (i := 1) sc_is_code.nd rfl (Or.inl rfl))) (fun _ _ _ _ _ => pts_nil) (fun _ _ _ _ _ => (pe_cmpR op_in_sign (pv 1) (pe_glob (v := .str "abcdefghijklmnopqrstuvwxyz0123456789") (by rfl) m_CODE_SIGNS ⟨_, rfl⟩) rfl))) pa_nil))))), ?_⟩
    have e1 : (c.length : Int) = (c.cps.size : Int) := rfl
    have h1 := hc.1
    have h8 := hc.2.1
    refine ⟨_, rfl, _, _, _, _, true, rfl, .ty "str", .base (.str _), kit_ty (by decide +kernel), _, rfl, iteF ?_⟩
    refine ⟨_, rfl, c, rfl, (by rw [sizeLine_eq]; have : c.length = c.cps.size := rfl; omega), _, _, rfl, rfl, true, congrArg V.bl (decide_eq_true (by omega)), iteT ⟨_, _, rfl, rfl, true, congrArg V.bl (decide_eq_true (by omega)), ?_⟩⟩
    refine iteF ⟨_, rfl, c, rfl, fun L nL => lc_it (walk_str (z := c)) (fun i H' => H' = upd H L (.lst ((List.replicate i true).map V.bl))) rfl (fun _ _ _ _ => True.intro) (fun i x H2 H3 hi p y => ?_) (fun H2 p => ?_)⟩
    · obtain ⟨rfl, d, hd, rfl⟩ := y
      subst p
      have hm : d ∈ signs.cps.toList := hc.2.2 d (by rw [Array.mem_toList_iff]; exact Array.mem_of_getElem? hd)
      refine ⟨rfl, ⟨_, rfl, d, signs, rfl, rfl, _, upd_same, ?_, ?_⟩⟩
      · rw [List.length_map, List.length_replicate]; exact small1000 (by omega)
      · show upd (upd H L _) L (.lst (_ ++ [V.bl (decide (d ∈ signs.cps.toList))])) = _
        rw [decide_eq_true hm, upd_upd, List.replicate_succ', List.map_append]; rfl
    · subst p
      refine ⟨L, _, rfl, SqL.of upd_same, ?_⟩
      rw [allTrue]
      exact q _ (same_upd nL)
def spCA : Sp := fun vs H Q _ => ∃ (a : Addr) (w : Str) (y : V), vs = [.ref a] ∧ H a = some (.tup [.str w, y]) ∧ ((w = ("code" : String) ∧ ∃ c, y = .str c ∧ CodeOk c ∧ ∀ H', Same H H' → Q (.bl true) H') ∨ (w ≠ (("code" : String) : Str) ∧ Q (.bl false) H))
theorem ok_is_code_action (bt : Bt mg) (a : At K mg "is_code_action" s_is_code_action ["action"]) (c_is_code : Cl P w K mg base 1 "is_code" spCode) : Cl P w K mg base 2 "is_code_action" spCA := by
  refine clG a sc_is_code_action (fun vs H Q E h => ?_) (fun f cdv A outer s H vs Q hg hr h => ?_)
  · obtain ⟨a, w, y, rfl, _⟩ := h
    rfl
  · obtain ⟨a, w, y, rfl, ha, h⟩ := h
    refine ⟨_, (pss_cons (ps_asg (pv 0) (pg_tup rfl (pgs_cons (pg_name (i := 1) sc_is_code_action.nd rfl (Or.inl rfl)) (pgs_cons (pg_name (i := 2) sc_is_code_action.nd rfl (Or.inl rfl)) pgs_nil))))
      (pss_one (ps_ret (pe_and (pe_callB call_isi (by rfl) bt.m_isinstance (by decide +kernel) (pa_cons (pv 1) (pa_cons (pe_bltn (v := .ty "str") (by rfl) bt.m_str (by decide +kernel) rfl) pa_nil))) (pe_and (pe_cmpR op_eq (pv 1) pe_str (nomark _)) (pe_one (pe_cl c_is_code hg hr (by decide) (by rfl) (pa_cons (pv 2) pa_nil)))))))), ?_⟩
    refine ⟨_, rfl, a, _, rfl, SqT.of ha, rfl, _, _, rfl, _, _, rfl, rfl, ?_⟩
    refine ⟨_, rfl, _, _, _, _, true, rfl, .ty "str", .base (.str _), kit_ty (by decide +kernel), _, rfl, iteT ?_⟩
    rcases h with ⟨rfl, c, rfl, hc, q⟩ | ⟨hn, q⟩
    · exact ⟨_, rfl, rfl, true, rfl, iteT ⟨_, rfl, c, rfl, hc, q⟩⟩
    · refine ⟨_, rfl, rfl, false, ?_, iteF q⟩
      exact congrArg V.bl (decide_eq_false fun z => hn (V.str.inj z))
def spLA (K : PySem.W.Frag) : Sp := fun vs H Q _ => ∃ (a g : Addr) (w : Str) (ws : List Str) (j n : Int), vs = [.ref a, .ref g, .int n] ∧ H a = some (.tup [.str w, .int j]) ∧ SqT K H g (ws.map V.str) ∧ w ∈ ws ∧ 1 ≤ j ∧ j ≤ n - 1 ∧ Q (.bl true) H
theorem flat_strs : ∀ ns : List Str, (ns.map V.str).all flatV = true
  | [] => rfl
  | n :: ns => by
    show (flatV (.str n) && (ns.map V.str).all flatV) = true
    rw [flat_strs ns]
    rfl
theorem ok_is_layer_action (bt : Bt mg) (a : At K mg "is_layer_action" s_is_layer_action ["action", "words", "layer_count"]) (c_is_between : Cl P w K mg base 2 "is_between" spBet) : Cl P w K mg base 3 "is_layer_action" (spLA K) := by
  refine clG a sc_is_layer_action (fun vs H Q E h => ?_) (fun f cdv A outer s H vs Q hg hr h => ?_)
  · obtain ⟨a, g, w, ws, j, n, rfl, _⟩ := h
    rfl
  · obtain ⟨a, g, w, ws, j, n, rfl, ha, hw, hm, h1, h2, q⟩ := h
    refine ⟨_, (pss_cons (ps_asg (pv 0) (pg_tup rfl (pgs_cons (pg_name (i := 3) sc_is_layer_action.nd rfl (Or.inl rfl)) (pgs_cons (pg_name (i := 4) sc_is_layer_action.nd rfl (Or.inl rfl)) pgs_nil))))
      (pss_one (ps_ret (pe_and (pe_callB call_isi (by rfl) bt.m_isinstance (by decide +kernel) (pa_cons (pv 3) (pa_cons (pe_bltn (v := .ty "str") (by rfl) bt.m_str (by decide +kernel) rfl) pa_nil))) (pe_and (pe_cmpR op_in_seq (pv 3) (pv 1) (by rfl)) (pe_one (pe_cl c_is_between hg hr (by decide) (by rfl) (pa_cons (pv 4) (pa_cons pe_int (pa_cons (pe_op op_sub (pv 2) pe_int) pa_nil)))))))))), ?_⟩
    refine ⟨_, rfl, a, _, rfl, SqT.of ha, rfl, _, _, rfl, _, _, rfl, rfl, ?_⟩
    refine ⟨_, rfl, _, _, _, _, true, rfl, .ty "str", .base (.str _), kit_ty (by decide +kernel), _, rfl, iteT ?_⟩
    refine ⟨_, rfl, _, rfl, g, _, rfl, .inr hw, rfl, flat_strs ws, true, ?_, iteT ?_⟩
    · show V.bl (inV (.str w) (ws.map V.str)) = _
      rw [inv_str, decide_eq_true hm]
    · exact ⟨_, rfl, _, rfl, _, _, rfl, rfl, j, 1, n - 1, rfl, h1, h2, q⟩
def spHold : Sp := fun vs H Q _ => ∃ (a : Addr) (n : Int), vs = [.ref a, .int n] ∧ ((∃ c, H a = some (.tup [.str "code", .str c]) ∧ CodeOk c) ∨ (∃ j, H a = some (.tup [.str "layer", .int j]) ∧ 1 ≤ j ∧ j ≤ n - 1)) ∧ ∀ H', Same H H' → Q (.bl true) H'
theorem ok_is_hold (bt : Bt mg) (a : At K mg "is_hold" s_is_hold ["value", "layer_count"]) (c_is_code_action : Cl P w K mg base 2 "is_code_action" spCA) (c_is_layer_action : Cl P w K mg base 3 "is_layer_action" (spLA K)) : Cl P w K mg base 4 "is_hold" spHold := by
  refine clG a sc_is_hold (fun vs H Q E h => ?_) (fun f cdv A outer s H vs Q hg hr h => ?_)
  · obtain ⟨a, n, rfl, _⟩ := h
    rfl
  · obtain ⟨a, n, rfl, h, q⟩ := h
    refine ⟨_, (pss_cons (ps_if (PW.pt (pw_or (pt_not (pt_val (pe_callB call_isi (by rfl) bt.m_isinstance (by decide +kernel) (pa_cons (pv 0) (pa_cons (pe_bltn (v := .ty "tuple") (by rfl) bt.m_tuple (by decide +kernel) rfl) pa_nil))))) (pw_or1 (pt_cmpR op_ne (pe_callB call_len_seq (by rfl) bt.m_len (by decide +kernel) (pa_cons (pv 0) pa_nil)) pe_int (nomark _))))) (pss_one (ps_ret pe_bl)) pss_nil)
      (pss_one (ps_ret (pe_or (pe_cl c_is_code_action hg hr (by decide) (by rfl) (pa_cons (pv 0) pa_nil)) (pe_one (pe_cl c_is_layer_action hg hr (by decide) (by rfl) (pa_cons (pv 0) (pa_cons (pe_tup (pa_cons pe_str pa_nil)) (pa_cons (pv 1) pa_nil))))))))), ?_⟩
    rcases h with ⟨c, ha, hc⟩ | ⟨j, ha, h1, h2⟩
    · refine ⟨_, rfl, _, _, _, _, true, rfl, .ty "tuple", .base (.tup ha), kit_ty (by decide +kernel), _, rfl, iteF ?_⟩
      refine ⟨_, rfl, a, _, rfl, .inr (SqT.of ha), rfl, _, rfl, iteF ?_⟩
      exact ⟨_, rfl, a, _, _, rfl, ha, .inl ⟨rfl, c, rfl, hc, fun H' s' => ⟨true, rfl, iteT (q H' s')⟩⟩⟩
    · refine ⟨_, rfl, _, _, _, _, true, rfl, .ty "tuple", .base (.tup ha), kit_ty (by decide +kernel), _, rfl, iteF ?_⟩
      refine ⟨_, rfl, a, _, rfl, .inr (SqT.of ha), rfl, _, rfl, iteF ?_⟩
      refine ⟨_, rfl, a, _, _, rfl, ha, .inr ⟨by decide +kernel, false, rfl, iteF ?_⟩⟩
      refine ⟨_, rfl, (by show 1 ≤ sizeLine; decide), fun p np => ?_⟩
      exact ⟨_, rfl, a, p, _, ["layer"], j, n, rfl, (same_upd np) _ _ ha, SqT.of upd_same, List.mem_singleton.mpr rfl, h1, h2, q _ (same_upd np)⟩
end
end K86

set_option Elab.async false
set_option linter.all false
set_option maxRecDepth 100000
set_option maxHeartbeats 4000000
namespace K86
open PySem PySem.Spec PyProof.Rows L2 Gd Rm La Cb
section
variable {P : Program} {w : World} {K : PySem.W.Frag} {mg : Str → Option Value} {base : Heap}
def spDA : Sp := fun vs H Q _ => ∃ (a b : Addr) (c r : Str) (t n : Int), vs = [.ref a, .int n] ∧ H a = some (.tup [.str "dual", .str c, .ref b, .int t, .str r]) ∧ CodeOk c ∧ ((∃ d, H b = some (.tup [.str "code", .str d]) ∧ CodeOk d) ∨ (∃ j, H b = some (.tup [.str "layer", .int j]) ∧ 1 ≤ j ∧ j ≤ n - 1)) ∧
  1 ≤ t ∧ t ≤ 1000000000 ∧ r ∈ rules ∧ ∀ H', Same H H' → Q (.bl true) H'
theorem ok_is_dual_action (bt : Bt mg) {tk : Tok} {g_RULES : Addr} (m_GREATEST_TIME : mg "GREATEST_TIME" = some (.int 1000000000 tk)) (m_RULES : mg "RULES" = some (.ref g_RULES)) (t_RULES : ∀ H, SqT K H g_RULES (rules.map V.str)) (a : At K mg "is_dual_action" s_is_dual_action ["action", "layer_count"])
    (c_is_code : Cl P w K mg base 1 "is_code" spCode) (c_is_hold : Cl P w K mg base 4 "is_hold" spHold) (c_is_between : Cl P w K mg base 2 "is_between" spBet) : Cl P w K mg base 5 "is_dual_action" spDA := by
  refine clG a sc_is_dual_action (fun vs H Q E h => ?_) (fun f cdv A outer s H vs Q hg hr h => ?_)
  · obtain ⟨a, b, c, r, t, n, rfl, _⟩ := h
    rfl
  · obtain ⟨a, b, c, r, t, n, rfl, ha, hc, hb, h1, h2, hr', q⟩ := h
    refine ⟨_, (pss_cons (ps_asg (pv 0) (pg_tup rfl (pgs_cons (pg_name (i := 2) sc_is_dual_action.nd rfl (Or.inl rfl)) (pgs_cons (pg_name (i := 3) sc_is_dual_action.nd rfl (Or.inl rfl)) (pgs_cons (pg_name (i := 4) sc_is_dual_action.nd rfl (Or.inl rfl)) (pgs_cons (pg_name (i := 5) sc_is_dual_action.nd rfl (Or.inl rfl)) (pgs_cons (pg_name (i := 6) sc_is_dual_action.nd rfl (Or.inl rfl)) pgs_nil)))))))
      (pss_cons (ps_if (PW.pt (pw_or (pt_not (pt_val (pe_callB call_isi (by rfl) bt.m_isinstance (by decide +kernel) (pa_cons (pv 2) (pa_cons (pe_bltn (v := .ty "str") (by rfl) bt.m_str (by decide +kernel) rfl) pa_nil))))) (pw_or1 (pt_cmpR op_ne (pv 2) pe_str (nomark _))))) (pss_one (ps_ret pe_bl)) pss_nil)
      (pss_cons (ps_if (PW.pt (pw_or (pt_not (pt_val (pe_cl c_is_code hg hr (by decide) (by rfl) (pa_cons (pv 3) pa_nil)))) (pw_or1 (pt_not (pt_val (pe_cl c_is_hold hg hr (by decide) (by rfl) (pa_cons (pv 4) (pa_cons (pv 1) pa_nil)))))))) (pss_one (ps_ret pe_bl)) pss_nil)
      (pss_one (ps_ret (pe_and (pe_cl c_is_between hg hr (by decide) (by rfl) (pa_cons (pv 5) (pa_cons pe_int (pa_cons (pe_glob (v := .int 1000000000) (by rfl) m_GREATEST_TIME ⟨_, rfl⟩) pa_nil)))) (pe_and (pe_callB call_isi (by rfl) bt.m_isinstance (by decide +kernel) (pa_cons (pv 6) (pa_cons (pe_bltn (v := .ty "str") (by rfl) bt.m_str (by decide +kernel) rfl) pa_nil))) (pe_one (pe_cmpR op_in_seq (pv 6) (pe_glob (v := .ref g_RULES) (by rfl) m_RULES rfl) (by rfl)))))))))), ?_⟩
    refine ⟨_, rfl, a, _, rfl, SqT.of ha, rfl, _, _, rfl, _, _, rfl, _, _, rfl, _, _, rfl, _, _, rfl, rfl, ?_⟩
    refine ⟨_, rfl, _, _, _, _, true, rfl, .ty "str", .base (.str _), kit_ty (by decide +kernel), _, rfl, iteF ?_⟩
    refine ⟨_, rfl, rfl, _, rfl, iteF ?_⟩
    refine ⟨_, rfl, c, rfl, hc, fun H1 s1 => ⟨_, rfl, iteF ?_⟩⟩
    refine ⟨_, rfl, _, rfl, b, n, rfl, ?_, fun H2 s2 => ⟨_, rfl, iteF ?_⟩⟩
    · rcases hb with ⟨d, e, k⟩ | ⟨j, e, k⟩
      · exact .inl ⟨d, s1 _ _ e, k⟩
      · exact .inr ⟨j, s1 _ _ e, k⟩
    · refine ⟨_, rfl, t, 1, 1000000000, rfl, h1, h2, true, rfl, iteT ?_⟩
      refine ⟨_, rfl, _, _, _, _, true, rfl, .ty "str", .base (.str _), kit_ty (by decide +kernel), _, rfl, iteT ?_⟩
      refine ⟨_, rfl, g_RULES, _, rfl, .inr (t_RULES _), rfl, flat_strs _, ?_⟩
      show Q (.bl (inV (.str r) (rules.map V.str))) H2
      rw [inv_str, decide_eq_true hr']
      exact q _ (s1.trans s2)
def spStand : Sp := fun vs H Q _ => ∃ (v : V) (i n : Int) (x : Actn), vs = [v, .int i, .int n] ∧ ActV H x v ∧ ActOk n i x ∧ ∀ H', Same H H' → Q (.bl true) H'
theorem ok_can_stand (bt : Bt mg) {g_LAYER_WORDS : Addr} (m_LAYER_WORDS : mg "LAYER_WORDS" = some (.ref g_LAYER_WORDS)) (t_LAYER_WORDS : ∀ H, SqT K H g_LAYER_WORDS (layWords.map V.str)) (a : At K mg "can_stand" s_can_stand ["action", "layer", "layer_count"])
    (c_is_code_action : Cl P w K mg base 2 "is_code_action" spCA) (c_is_layer_action : Cl P w K mg base 3 "is_layer_action" (spLA K)) (c_is_dual_action : Cl P w K mg base 5 "is_dual_action" spDA) : Cl P w K mg base 6 "can_stand" spStand := by
  refine clG a sc_can_stand (fun vs H Q E h => ?_) (fun f cdv A outer s H vs Q hg hr h => ?_)
  · obtain ⟨v, i, n, x, rfl, _⟩ := h
    rfl
  · obtain ⟨v, i, n, x, rfl, hv, hx, q⟩ := h
    refine ⟨_, (pss_cons (ps_if (pt_val (pe_callB call_isi (by rfl) bt.m_isinstance (by decide +kernel) (pa_cons (pv 0) (pa_cons (pe_bltn (v := .ty "str") (by rfl) bt.m_str (by decide +kernel) rfl) pa_nil)))) (pss_one (ps_ret (pe_or (pe_cmpR (op_eqD hr.units) (pv 0) pe_str (nomark _)) (pe_one (pe_and (pe_cmpR (op_eqD hr.units) (pv 0) pe_str (nomark _)) (pe_one (pe_cmpR op_gt (pv 1) pe_int (nomark _)))))))) pss_nil)
      (pss_cons (ps_if (pt_not (pt_val (pe_callB call_isi (by rfl) bt.m_isinstance (by decide +kernel) (pa_cons (pv 0) (pa_cons (pe_bltn (v := .ty "tuple") (by rfl) bt.m_tuple (by decide +kernel) rfl) pa_nil))))) (pss_one (ps_ret pe_bl)) pss_nil)
      (pss_cons (ps_if (pt_cmpR op_eq (pe_callB call_len_seq (by rfl) bt.m_len (by decide +kernel) (pa_cons (pv 0) pa_nil)) pe_int (nomark _)) (pss_one (ps_ret (pe_or (pe_cl c_is_code_action hg hr (by decide) (by rfl) (pa_cons (pv 0) pa_nil)) (pe_one (pe_cl c_is_layer_action hg hr (by decide) (by rfl) (pa_cons (pv 0) (pa_cons (pe_glob (v := .ref g_LAYER_WORDS) (by rfl) m_LAYER_WORDS rfl) (pa_cons (pv 2) pa_nil)))))))) pss_nil)
      (pss_one (ps_ret (pe_and (pe_cmpR op_eq (pe_callB call_len_seq (by rfl) bt.m_len (by decide +kernel) (pa_cons (pv 0) pa_nil)) pe_int (nomark _)) (pe_one (pe_cl c_is_dual_action hg hr (by decide) (by rfl) (pa_cons (pv 0) (pa_cons (pv 2) pa_nil)))))))))), ?_⟩
    cases x with
    | none =>
      cases hv
      refine ⟨_, rfl, _, _, _, _, true, rfl, .ty "str", .base (.str _), kit_ty (by decide +kernel), _, rfl, iteT ?_⟩
      exact ⟨_, rfl, _, _, .str _, .str _, by decide +kernel, by decide +kernel, true, congrArg V.bl (by decide +kernel), iteT (q _ (Same.refl _))⟩
    | thr =>
      cases hv
      have h0 : 0 < i := hx
      refine ⟨_, rfl, _, _, _, _, true, rfl, .ty "str", .base (.str _), kit_ty (by decide +kernel), _, rfl, iteT ?_⟩
      refine ⟨_, rfl, _, _, .str _, .str _, by decide +kernel, by decide +kernel, false, congrArg V.bl (by decide +kernel), iteF ?_⟩
      refine ⟨_, rfl, _, _, .str _, .str _, by decide +kernel, by decide +kernel, true, congrArg V.bl (by decide +kernel), iteT ⟨_, rfl, _, _, rfl, rfl, ?_⟩⟩
      show Q (.bl (decide (0 < i))) H
      rw [decide_eq_true h0]
      exact q _ (Same.refl _)
    | code c =>
      obtain ⟨a, rfl, ha⟩ := hv
      refine ⟨_, rfl, _, _, _, _, false, rfl, .ty "str", .base (.tup ha), kit_ty (by decide +kernel), _, rfl, iteF ?_⟩
      refine ⟨_, rfl, _, _, _, _, true, rfl, .ty "tuple", .base (.tup ha), kit_ty (by decide +kernel), _, rfl, iteF ?_⟩
      refine ⟨_, rfl, a, _, rfl, .inr (SqT.of ha), rfl, _, rfl, iteT ?_⟩
      exact ⟨_, rfl, a, _, _, rfl, ha, .inl ⟨rfl, c, rfl, hx, fun H' s' => ⟨true, rfl, iteT (q H' s')⟩⟩⟩
    | lay w j =>
      obtain ⟨a, rfl, ha⟩ := hv
      obtain ⟨x1, x2, x3⟩ := hx
      refine ⟨_, rfl, _, _, _, _, false, rfl, .ty "str", .base (.tup ha), kit_ty (by decide +kernel), _, rfl, iteF ?_⟩
      refine ⟨_, rfl, _, _, _, _, true, rfl, .ty "tuple", .base (.tup ha), kit_ty (by decide +kernel), _, rfl, iteF ?_⟩
      refine ⟨_, rfl, a, _, rfl, .inr (SqT.of ha), rfl, _, rfl, iteT ?_⟩
      have hn : w ≠ (("code" : String) : Str) := by
        rintro rfl
        revert x1
        decide +kernel
      exact ⟨_, rfl, a, _, _, rfl, ha, .inr ⟨hn, false, rfl, iteF ⟨_, rfl, _, rfl, a, g_LAYER_WORDS, w, layWords, j, n, rfl, ha, t_LAYER_WORDS _, x1, x2, x3, q _ (Same.refl _)⟩⟩⟩
    | dualC c d t r =>
      obtain ⟨a, b, rfl, ha, hb⟩ := hv
      obtain ⟨x1, x2, ⟨x3, x4⟩, x5⟩ := hx
      refine ⟨_, rfl, _, _, _, _, false, rfl, .ty "str", .base (.tup ha), kit_ty (by decide +kernel), _, rfl, iteF ?_⟩
      refine ⟨_, rfl, _, _, _, _, true, rfl, .ty "tuple", .base (.tup ha), kit_ty (by decide +kernel), _, rfl, iteF ?_⟩
      refine ⟨_, rfl, a, _, rfl, .inr (SqT.of ha), rfl, _, rfl, iteF ?_⟩
      refine ⟨_, rfl, a, _, rfl, .inr (SqT.of ha), rfl, true, rfl, iteT ?_⟩
      exact ⟨_, rfl, _, rfl, a, b, c, r, t, n, rfl, ha, x1, .inl ⟨d, hb, x2⟩, x3, x4, x5, q⟩
    | dualL c j t r =>
      obtain ⟨a, b, rfl, ha, hb⟩ := hv
      obtain ⟨x1, ⟨x2, x2'⟩, ⟨x3, x4⟩, x5⟩ := hx
      refine ⟨_, rfl, _, _, _, _, false, rfl, .ty "str", .base (.tup ha), kit_ty (by decide +kernel), _, rfl, iteF ?_⟩
      refine ⟨_, rfl, _, _, _, _, true, rfl, .ty "tuple", .base (.tup ha), kit_ty (by decide +kernel), _, rfl, iteF ?_⟩
      refine ⟨_, rfl, a, _, rfl, .inr (SqT.of ha), rfl, _, rfl, iteF ?_⟩
      refine ⟨_, rfl, a, _, rfl, .inr (SqT.of ha), rfl, true, rfl, iteT ?_⟩
      exact ⟨_, rfl, _, rfl, a, b, c, r, t, n, rfl, ha, x1, .inr ⟨j, hb, x2, x2'⟩, x3, x4, x5, q⟩
def spForm : Sp := fun vs H Q _ => ∃ (c : Addr) (L : List (List Actn)) (m : Nat), vs = [.ref c] ∧ Lay H c L ∧ LayOk L m ∧ ∀ H', Same H H' → Q (.bl true) H'
theorem ok_has_layout_form (bt : Bt mg) {tk1 tk2 : Tok} (m_MOST_LAYERS : mg "MOST_LAYERS" = some (.int 6 tk1)) (m_MOST_KEYS : mg "MOST_KEYS" = some (.int 16 tk2)) (a : At K mg "has_layout_form" s_has_layout_form ["value"]) : Cl P w K mg base 1 "has_layout_form" spForm := by
  refine clG a sc_has_layout_form (fun vs H Q E h => ?_) (fun f cdv A outer s H vs Q hg hr h => ?_)
  · obtain ⟨c, L, m, rfl, _⟩ := h
    rfl
  · obtain ⟨c, L, m, rfl, hL, hO, q⟩ := h
    refine ⟨_, (pss_cons (ps_if (PW.pt (pw_or (pt_not (pt_val (pe_callB call_isi (by rfl) bt.m_isinstance (by decide +kernel) (pa_cons (pv 0) (pa_cons (pe_bltn (v := .ty "list") (by rfl) bt.m_list (by decide +kernel) rfl) pa_nil))))) (pw_or1 (pt_not (pt_chain op_le op_le pe_int (pe_callB call_len_seq (by rfl) bt.m_len (by decide +kernel) (pa_cons (pv 0) pa_nil)) (pe_glob (v := .int 6) (by rfl) m_MOST_LAYERS ⟨_, rfl⟩)))))) (pss_one (ps_ret pe_bl)) pss_nil)
      (pss_cons (ps_if (pt_not (pt_val (pe_callB (cr_all rfl) (by rfl) bt.m_all (by decide +kernel) (pa_cons (pe_lc (own := [("actions", 2)]) (g := (gName 2)) (by rfl) sc_has_layout_form.nd (pi_list (pv 0)) (blkOk_by (N := n_has_layout_form) (sc := defScope s_has_layout_form) (by decide +kernel)) (fun _ _ _ _ _ => (pg_name (i := 2) sc_has_layout_form.nd rfl (Or.inl rfl))) (fun _ _ _ _ _ => pts_nil) (fun _ _ _ _ _ => (pe_callB (r := rIsi K) call_isi (by rfl) bt.m_isinstance (by decide +kernel) (pa_cons (pv 2) (pa_cons (pe_bltn (v := .ty "list") (by rfl) bt.m_list (by decide +kernel) rfl) pa_nil))))) pa_nil)))) (pss_one (ps_ret pe_bl)) pss_nil)
      (pss_cons (ps_set (i := 1) sc_has_layout_form.nd rfl (Or.inr rfl) (pe_callB call_len_seq (by rfl) bt.m_len (by decide +kernel) (pa_cons (pe_ix ix_list (pv 0) pe_int (fun _ _ => rfl)) pa_nil)))
      (pss_one (ps_ret (pe_and (pe_chain op_le op_le pe_int (pv 1) (pe_glob (v := .int 16) (by rfl) m_MOST_KEYS ⟨_, rfl⟩)) (pe_one (pe_callB (cr_all rfl) (by rfl) bt.m_all (by decide +kernel) (pa_cons (pe_lc (own := [("actions", 2)]) (g := (gName 2)) (by rfl) sc_has_layout_form.nd (pi_list (pv 0)) (blkOk_by (N := n_has_layout_form) (sc := defScope s_has_layout_form) (by decide +kernel)) (fun _ _ _ _ _ => (pg_name (i := 2) sc_has_layout_form.nd rfl (Or.inl rfl))) (fun _ _ _ _ _ => pts_nil) (fun _ _ _ _ _ => (pe_cmpR op_eq (pe_callB (r := rLenB K) call_len_seq (by rfl) bt.m_len (by decide +kernel) (pa_cons (pv 2) pa_nil)) (pv 1) (nomark _)))) pa_nil))))))))), ?_⟩
    obtain ⟨rs, hc, hR⟩ := hL
    have hlen : (rs.map V.ref).length = L.length := by rw [List.length_map]; exact hR.1
    have n1 := hO.n1
    have n6 := hO.n6
    refine ⟨_, rfl, _, _, _, _, true, rfl, .ty "list", .base (.lst hc), kit_ty (by decide +kernel), _, rfl, iteF ?_⟩
    refine ⟨_, rfl, c, _, rfl, .inl (SqL.of hc), _, _, rfl, rfl, true, congrArg V.bl (decide_eq_true (by omega)), iteT ⟨_, _, rfl, rfl, true, congrArg V.bl (decide_eq_true (by omega)), iteF ?_⟩⟩
    refine ⟨_, rfl, c, rfl, ⟨_, SqL.of hc⟩, fun M nM => lc_it (walk_list (xs := rs.map V.ref)) (fun i H' => H' = upd H M (.lst ((List.replicate i true).map V.bl))) rfl
      (fun i H' _ p => by subst p; exact SqL.of ((same_upd nM) _ _ hc)) (fun i x H2 H3 hi p y => ?_) (fun H2 p => ?_)⟩
    · obtain ⟨rfl, hx⟩ := y
      subst p
      have hi' : i < L.length := by omega
      obtain ⟨r, hr1, hr2⟩ := hR.at_ hi'
      have ex : V.ref r = x := Option.some.inj ((get_map_ref hr1).symm.trans hx)
      subst ex
      obtain ⟨vs, hv, _⟩ := hr2
      refine ⟨rfl, ⟨_, rfl, _, _, _, _, true, rfl, .ty "list", .base (.lst ((same_upd nM) _ _ hv)), kit_ty (by decide +kernel), _, upd_same, ?_, ?_⟩⟩
      · rw [List.length_map, List.length_replicate]; exact small1000 (by omega)
      · rw [upd_upd, List.replicate_succ', List.map_append]; rfl
    · subst p
      refine ⟨M, _, rfl, SqL.of upd_same, _, rfl, ?_⟩
      rw [allTrue]
      have s1 : Same H (upd H M (.lst ((List.replicate (rs.map V.ref).length true).map V.bl))) := same_upd nM
      generalize upd H M (.lst ((List.replicate (rs.map V.ref).length true).map V.bl)) = H1 at s1
      have hc1 := s1 _ _ hc
      have hR1 := hR.same s1
      obtain ⟨r0, e0, vs0, hv0, ha0⟩ := hR1.at_ (i := 0) (by omega)
      have hm0 : vs0.length = m := by rw [ha0.1]; exact hO.len _ (List.getElem_mem _)
      have m1 := hO.m1
      have m16 := hO.m16
      refine iteF ⟨_, rfl, c, _, 0, .ref r0, rfl, rfl, SqL.of hc1, atI_nat (j := 0) (get_map_ref e0), ?_⟩
      refine ⟨r0, _, rfl, .inl (SqL.of hv0), ?_⟩
      rw [hm0]
      refine ⟨_, rfl, _, _, rfl, rfl, true, congrArg V.bl (decide_eq_true (by omega)), iteT ⟨_, _, rfl, rfl, true, congrArg V.bl (decide_eq_true (by omega)), iteT ?_⟩⟩
      refine ⟨_, rfl, c, rfl, ⟨_, SqL.of hc1⟩, fun N nN => lc_it (walk_list (xs := rs.map V.ref)) (fun i H' => H' = upd H1 N (.lst ((List.replicate i true).map V.bl))) rfl
        (fun i H' _ p => by subst p; exact SqL.of ((same_upd nN) _ _ hc1)) (fun i x H2 H3 hi p y => ?_) (fun H2 p => ?_)⟩
      · obtain ⟨rfl, hx⟩ := y
        subst p
        have hi' : i < L.length := by omega
        obtain ⟨r, hr1, vs, hv, ha⟩ := hR1.at_ hi'
        have ex : V.ref r = x := Option.some.inj ((get_map_ref hr1).symm.trans hx)
        subst ex
        have hm : vs.length = m := by rw [ha.1]; exact hO.len _ (List.getElem_mem _)
        refine ⟨rfl, ⟨_, rfl, r, _, rfl, .inl (SqL.of ((same_upd nN) _ _ hv)), _, rfl, rfl, _, upd_same, ?_, ?_⟩⟩
        · rw [List.length_map, List.length_replicate]; exact small1000 (by omega)
        · rw [hm, decide_eq_true rfl, upd_upd, List.replicate_succ', List.map_append]; rfl
      · subst p
        refine ⟨N, _, rfl, SqL.of upd_same, ?_⟩
        rw [allTrue]
        exact q _ (s1.trans (same_upd nN))
def spCheckL : Sp := fun vs H Q _ => ∃ (c : Addr) (L : List (List Actn)) (m : Nat), vs = [.ref c] ∧ Lay H c L ∧ LayOk L m ∧ ∀ H', Same H H' → Q .non H'
theorem ok_check_layout (bt : Bt mg) (a : At K mg "check_layout" s_check_layout ["value"]) (c_has_layout_form : Cl P w K mg base 1 "has_layout_form" spForm) (c_can_stand : Cl P w K mg base 6 "can_stand" spStand) : Cl P w K mg base 7 "check_layout" spCheckL := by
  refine clG a sc_check_layout (fun vs H Q E h => ?_) (fun f cdv A outer s H vs Q hg hr h => ?_)
  · obtain ⟨c, L, m, rfl, _⟩ := h
    rfl
  · obtain ⟨c, L, m, rfl, hL, hO, q⟩ := h
    refine ⟨_, (pss_cons (ps_if (pt_not (pt_val (pe_cl c_has_layout_form hg hr (by decide) (by rfl) (pa_cons (pv 0) pa_nil)))) pss_never pss_nil)
      (pss_one (ps_for PassesOwn.never rfl (pi_enum (by rfl) bt.m_enumerate (pa_cons (pv 0) pa_nil)) (pg_tup rfl (pgs_cons (pg_name (i := 1) sc_check_layout.nd rfl (Or.inl rfl)) (pgs_cons (pg_name (i := 2) sc_check_layout.nd rfl (Or.inl rfl)) pgs_nil))) (pss_one (ps_for PassesOwn.never rfl (pi_enum (by rfl) bt.m_enumerate (pa_cons (pv 2) pa_nil)) (pg_tup rfl (pgs_cons (pg_name (i := 3) sc_check_layout.nd rfl (Or.inl rfl)) (pgs_cons (pg_name (i := 4) sc_check_layout.nd rfl (Or.inl rfl)) pgs_nil))) (pss_one (ps_if (pt_not (pt_val (pe_cl c_can_stand hg hr (by decide) (by rfl) (pa_cons (pv 4) (pa_cons (pv 1) (pa_cons (pe_callB call_len_seq (by rfl) bt.m_len (by decide +kernel) (pa_cons (pv 0) pa_nil)) pa_nil)))))) pss_never pss_nil))))))), ?_⟩
    refine ⟨_, rfl, c, L, m, rfl, hL, hO, fun H1 s1 => ⟨_, rfl, iteF ?_⟩⟩
    obtain ⟨rs, hc, hR⟩ := hL.same s1
    have hlen : (rs.map V.ref).length = L.length := by rw [List.length_map]; exact hR.1
    refine ⟨_, rfl, c, _, rfl, SqL.of hc, for_it (walk_enum (xs := rs.map V.ref)) (fun i σ H' => Same H1 H' ∧ ∃ y1 y2 y3 y4, σ = [some (.ref c), y1, y2, y3, y4]) ⟨Same.refl _, _, _, _, _, rfl⟩ (fun _ _ H' _ p => SqL.of (p.1 _ _ hc)) (fun i x σ H2 H3 hi p y => ?_) (fun σ H2 p => ?_)⟩
    · obtain ⟨s2, y1, y2, y3, y4, rfl⟩ := p
      obtain ⟨T, u, v, rfl, nT, rfl, e1, e2⟩ := y
      have hi' : i < L.length := by omega
      obtain ⟨r, hr1, vs, hv, ha⟩ := hR.at_ hi'
      have e2' : v = .ref r := Option.some.inj ((show (rs.map V.ref)[i]? = some v from e2).symm.trans (get_map_ref hr1))
      subst e2'
      have e1' : u = .int (i : Nat) := (Option.some.inj e1).symm
      subst e1'
      have s3 : Same H1 (upd H2 T (.tup [.int (i : Nat), .ref r])) := s2.trans (same_upd nT)
      refine ⟨T, _, rfl, SqT.of upd_same, rfl, _, _, rfl, _, _, rfl, rfl, ?_⟩
      have hv3 := s3 _ _ hv
      have hvl := ha.1
      generalize upd H2 T (.tup [.int (i : Nat), .ref r]) = H4 at s3 hv3
      refine ⟨_, rfl, r, _, rfl, SqL.of hv3, for_it (walk_enum (xs := vs)) (fun j σ H' => Same H4 H' ∧ ∃ y3 y4, σ = [some (.ref c), some (.int (i : Nat)), some (.ref r), y3, y4]) ⟨Same.refl _, _, _, rfl⟩ (fun _ _ H' _ p => SqL.of (p.1 _ _ hv3)) (fun j x σ H5 H6 hj p y => ?_) (fun σ H5 p => ?_)⟩
      · obtain ⟨s5, y3, y4, rfl⟩ := p
        obtain ⟨T2, u2, v2, rfl, nT2, rfl, e3, e4⟩ := y
        have hj' : j < L[i].length := by omega
        obtain ⟨v', hv', hav⟩ := ha.at_ hj'
        have e4' : v2 = v' := Option.some.inj ((show vs[j]? = some v2 from e4).symm.trans hv')
        subst e4'
        have e3' : u2 = .int (j : Nat) := (Option.some.inj e3).symm
        subst e3'
        have s6 : Same H1 (upd H5 T2 (.tup [.int (j : Nat), v2])) := (s3.trans s5).trans (same_upd nT2)
        refine ⟨T2, _, rfl, SqT.of upd_same, rfl, _, _, rfl, _, _, rfl, rfl, ?_⟩
        refine ⟨_, rfl, _, rfl, _, rfl, c, _, rfl, .inl (SqL.of (s6 _ _ hc)), v2, i, L.length, L[i][j], ?_, hav.keep (Tk.of s6), hO.ok i _ (List.getElem?_eq_getElem hi') _ (List.getElem_mem _), fun H7 s7 => ⟨_, rfl, iteF ⟨(s5.trans (same_upd nT2)).trans s7, _, _, rfl⟩⟩⟩
        rw [hlen]
        rfl
      · obtain ⟨s5, y3, y4, rfl⟩ := p
        exact ⟨s3.trans s5, _, _, _, _, rfl⟩
    · exact q _ (s1.trans p.1)
end
end K86

set_option Elab.async false
set_option linter.all false
set_option maxRecDepth 100000
set_option maxHeartbeats 4000000
namespace K86
open PySem PySem.Spec PyProof.Rows L2 Gd Rm La Cb
section
variable {P : Program} {w : World} {K : PySem.W.Frag} {mg : Str → Option Value} {base : Heap}
theorem down_or_up (d : Bool) : inV (.str (wayS d)) [.str "down", .str "up"] = true := by cases d <;> decide +kernel
def spStep : Sp := fun vs H Q _ => ∃ (a : Addr) (e : Ev), vs = [.ref a] ∧ H a = some (.tup (stV e)) ∧ 0 ≤ e.k ∧ ∀ H', Same H H' → Q (.bl true) H'
theorem ok_is_step (bt : Bt mg) (a : At K mg "is_step" s_is_step ["value"]) (c_is_an_integer : Cl P w K mg base 1 "is_an_integer" spInt) : Cl P w K mg base 2 "is_step" spStep := by
  refine clG a sc_is_step (fun vs H Q E h => ?_) (fun f cdv A outer s H vs Q hg hr h => ?_)
  · obtain ⟨a, e, rfl, _⟩ := h
    rfl
  · obtain ⟨a, e, rfl, ha, h0, q⟩ := h
    refine ⟨_, (pss_cons (ps_if (PW.pt (pw_or (pt_not (pt_val (pe_callB call_isi (by rfl) bt.m_isinstance (by decide +kernel) (pa_cons (pv 0) (pa_cons (pe_bltn (v := .ty "tuple") (by rfl) bt.m_tuple (by decide +kernel) rfl) pa_nil))))) (pw_or1 (pt_cmpR op_ne (pe_callB call_len_seq (by rfl) bt.m_len (by decide +kernel) (pa_cons (pv 0) pa_nil)) pe_int (nomark _))))) (pss_one (ps_ret pe_bl)) pss_nil)
      (pss_cons (ps_asg (pv 0) (pg_tup rfl (pgs_cons (pg_name (i := 1) sc_is_step.nd rfl (Or.inl rfl)) (pgs_cons (pg_name (i := 2) sc_is_step.nd rfl (Or.inl rfl)) pgs_nil))))
      (pss_one (ps_ret (pe_and (pe_cl c_is_an_integer hg hr (by decide) (by rfl) (pa_cons (pv 1) pa_nil)) (pe_and (pe_cmpR op_ge (pv 1) pe_int (nomark _)) (pe_and (pe_callB call_isi (by rfl) bt.m_isinstance (by decide +kernel) (pa_cons (pv 2) (pa_cons (pe_bltn (v := .ty "str") (by rfl) bt.m_str (by decide +kernel) rfl) pa_nil))) (pe_one (pe_cmpR op_in_seq (pv 2) (pe_tup (pa_cons pe_str (pa_cons pe_str pa_nil))) (by rfl)))))))))), ?_⟩
    refine ⟨_, rfl, _, _, _, _, true, rfl, .ty "tuple", .base (.tup ha), kit_ty (by decide +kernel), _, rfl, iteF ?_⟩
    refine ⟨_, rfl, a, _, rfl, .inr (SqT.of ha), rfl, _, rfl, iteF ?_⟩
    refine ⟨_, rfl, a, _, rfl, SqT.of ha, rfl, _, _, rfl, _, _, rfl, rfl, ?_⟩
    refine ⟨_, rfl, _, rfl, _, rfl, iteT ?_⟩
    refine ⟨_, rfl, _, _, rfl, rfl, true, congrArg V.bl (decide_eq_true h0), iteT ?_⟩
    refine ⟨_, rfl, _, _, _, _, true, rfl, .ty "str", .base (.str _), kit_ty (by decide +kernel), _, rfl, iteT ?_⟩
    refine ⟨_, rfl, (by show 2 ≤ sizeLine; decide), fun p np => ?_⟩
    refine ⟨p, _, rfl, .inr (SqT.of upd_same), rfl, rfl, ?_⟩
    have hd := down_or_up e.d
    show Q (.bl (inV (.str (wayS e.d)) [.str "down", .str "up"])) _
    rw [hd]
    exact q _ (same_upd np)
def spEvent : Sp := fun vs H Q _ => ∃ (a : Addr) (e : Ev), vs = [.ref a] ∧ H a = some (.tup (evV e)) ∧ 0 ≤ e.k ∧ ∀ H', Same H H' → Q (.bl true) H'
theorem ok_is_event (bt : Bt mg) (a : At K mg "is_event" s_is_event ["value"]) (c_is_an_integer : Cl P w K mg base 1 "is_an_integer" spInt) (c_is_step : Cl P w K mg base 2 "is_step" spStep) : Cl P w K mg base 3 "is_event" spEvent := by
  refine clG a sc_is_event (fun vs H Q E h => ?_) (fun f cdv A outer s H vs Q hg hr h => ?_)
  · obtain ⟨a, e, rfl, _⟩ := h
    rfl
  · obtain ⟨a, e, rfl, ha, h0, q⟩ := h
    refine ⟨_, (pss_cons (ps_if (PW.pt (pw_or (pt_not (pt_val (pe_callB call_isi (by rfl) bt.m_isinstance (by decide +kernel) (pa_cons (pv 0) (pa_cons (pe_bltn (v := .ty "tuple") (by rfl) bt.m_tuple (by decide +kernel) rfl) pa_nil))))) (pw_or1 (pt_cmpR op_ne (pe_callB call_len_seq (by rfl) bt.m_len (by decide +kernel) (pa_cons (pv 0) pa_nil)) pe_int (nomark _))))) (pss_one (ps_ret pe_bl)) pss_nil)
      (pss_cons (ps_asg (pv 0) (pg_tup rfl (pgs_cons (pg_name (i := 1) sc_is_event.nd rfl (Or.inl rfl)) (pgs_cons (pg_name (i := 2) sc_is_event.nd rfl (Or.inl rfl)) (pgs_cons (pg_name (i := 3) sc_is_event.nd rfl (Or.inl rfl)) pgs_nil)))))
      (pss_one (ps_ret (pe_and (pe_cl c_is_an_integer hg hr (by decide) (by rfl) (pa_cons (pv 1) pa_nil)) (pe_one (pe_cl c_is_step hg hr (by decide) (by rfl) (pa_cons (pe_tup (pa_cons (pv 2) (pa_cons (pv 3) pa_nil))) pa_nil)))))))), ?_⟩
    refine ⟨_, rfl, _, _, _, _, true, rfl, .ty "tuple", .base (.tup ha), kit_ty (by decide +kernel), _, rfl, iteF ?_⟩
    refine ⟨_, rfl, a, _, rfl, .inr (SqT.of ha), rfl, _, rfl, iteF ?_⟩
    refine ⟨_, rfl, a, _, rfl, SqT.of ha, rfl, _, _, rfl, _, _, rfl, _, _, rfl, rfl, ?_⟩
    refine ⟨_, rfl, _, rfl, _, rfl, iteT ?_⟩
    refine ⟨_, rfl, _, rfl, (by show 2 ≤ sizeLine; decide), fun p np => ?_⟩
    exact ⟨p, e, rfl, upd_same, h0, fun H' s' => q H' ((same_upd np).trans s')⟩
def spShort : Sp := fun vs H Q _ => ∃ (a : Addr) (xs : List V), vs = [.ref a] ∧ H a = some (.lst xs) ∧ xs.length ≤ 400 ∧ Q (.bl true) H
theorem ok_is_short_list (bt : Bt mg) (tk : Tok) (m_MOST_EVENTS : mg "MOST_EVENTS" = some (.int 400 tk)) (a : At K mg "is_short_list" s_is_short_list ["value"]) : Cl P w K mg base 1 "is_short_list" spShort := by
  refine clG a sc_is_short_list (fun vs H Q E h => ?_) (fun f cdv A outer s H vs Q hg hr h => ?_)
  · obtain ⟨a, xs, rfl, _⟩ := h
    rfl
  · obtain ⟨a, xs, rfl, ha, hl, q⟩ := h
    refine ⟨_, (pss_one (ps_ret (pe_and (pe_callB call_isi (by rfl) bt.m_isinstance (by decide +kernel) (pa_cons (pv 0) (pa_cons (pe_bltn (v := .ty "list") (by rfl) bt.m_list (by decide +kernel) rfl) pa_nil))) (pe_one (pe_cmpR op_le (pe_callB call_len_seq (by rfl) bt.m_len (by decide +kernel) (pa_cons (pv 0) pa_nil)) (pe_glob (v := .int 400) (by rfl) m_MOST_EVENTS ⟨_, rfl⟩) (nomark _)))))), ?_⟩
    refine ⟨_, rfl, _, _, _, _, true, rfl, .ty "list", .base (.lst ha), kit_ty (by decide +kernel), _, rfl, iteT ?_⟩
    refine ⟨_, rfl, a, _, rfl, .inl (SqL.of ha), _, _, rfl, rfl, ?_⟩
    show Q (.bl (decide ((xs.length : Int) ≤ 400))) H
    rw [decide_eq_true (show (xs.length : Int) ≤ 400 by omega)]
    exact q
def spTurn : Sp := fun vs H Q _ => ∃ (d : Addr) (kvs : List (Key × V)) (k : Int) (b : Bool), vs = [.ref d, .int k, .str (wayS b)] ∧ H d = some (.dK kvs) ∧ kvs.length < sizeLine ∧
  (valV kvs (Sum.inl k)).getD (.bl false) = .bl (!b) ∧ Q (.bl true) (upd H d (.dK (putK kvs (Sum.inl k) (.bl b))))
theorem ok_takes_turn (a : At K mg "takes_turn" s_takes_turn ["held", "key", "way"]) : Cl P w K mg base 1 "takes_turn" spTurn := by
  refine clG a sc_takes_turn (fun vs H Q E h => ?_) (fun f cdv A outer s H vs Q hg hr h => ?_)
  · obtain ⟨d, kvs, k, b, rfl, _⟩ := h
    rfl
  · obtain ⟨d, kvs, k, b, rfl, hd, hl, hv, q⟩ := h
    refine ⟨_, (pss_cons (ps_set (i := 3) sc_takes_turn.nd rfl (Or.inl rfl) (pe_cmpR op_eq (pv 2) pe_str (nomark _)))
      (pss_cons (ps_if (pt_cmpR op_eq (pe_dget2 (hu_of hr) (pv 0) (pv 1) pe_bl ⟨rfl, rfl, rfl, rfl⟩) (pv 3) (nomark _)) (pss_one (ps_ret pe_bl)) pss_nil)
      (pss_cons (ps_dput (hu_of hr) (pv 0) (pv 1) (pv 3) rfl)
      (pss_one (ps_ret pe_bl))))), ?_⟩
    refine ⟨_, rfl, rfl, ?_⟩
    refine ⟨_, rfl, d, rfl, .inl ⟨kvs, .inl hd⟩, _, rfl, _, DGet.k (k := Sum.inl k) hd, ?_⟩
    rw [wayS_down, hv]
    refine ⟨_, rfl, rfl, _, rfl, ?_⟩
    rw [decide_eq_false (fun z => by have := V.bl.inj z; cases b <;> cases this)]
    refine iteF ?_
    exact ⟨_, rfl, _, rfl, _, rfl, d, _, rfl, DPut.k (k := Sum.inl k) hd hl, q⟩
def spBelow : Sp := fun vs H Q _ => ∃ k m : Int, vs = [.int k, .int m] ∧ k < m ∧ Q (.bl true) H
theorem ok_is_below (a : At K mg "is_below" s_is_below ["key", "many"]) : Cl P w K mg base 1 "is_below" spBelow := by
  refine clG a sc_is_below (fun vs H Q E h => ?_) (fun f cdv A outer s H vs Q hg hr h => ?_)
  · obtain ⟨k, m, rfl, _⟩ := h
    rfl
  · obtain ⟨k, m, rfl, hk, q⟩ := h
    refine ⟨_, (pss_one (ps_ret (pe_or (pe_cmpR op_isN (pv 1) pe_non (nomark _)) (pe_one (pe_cmpR op_lt (pv 0) (pv 1) (nomark _)))))), ?_⟩
    refine ⟨_, rfl, rfl, _, rfl, iteF ⟨_, rfl, _, rfl, _, _, rfl, rfl, ?_⟩⟩
    show Q (.bl (decide (k < m))) H
    rw [decide_eq_true hk]
    exact q
def spFollow : Sp := fun vs H Q _ => ∃ (b d : Addr) (e : Ev) (l : V) (kvs : List (Key × V)), vs = [.ref b, l, .ref d] ∧ H b = some (.tup (evV e)) ∧
  (l = .non ∨ ∃ (b' : Addr) (e' : Ev), l = .ref b' ∧ H b' = some (.tup (evV e')) ∧ e'.t ≤ e.t) ∧ H d = some (.dK kvs) ∧ kvs.length < sizeLine ∧
  (valV kvs (Sum.inl e.k)).getD (.bl false) = .bl (!e.d) ∧ Q (.bl true) (upd H d (.dK (putK kvs (Sum.inl e.k) (.bl e.d))))
theorem ok_can_follow (a : At K mg "can_follow" s_can_follow ["event", "last", "held"]) (c_takes_turn : Cl P w K mg base 1 "takes_turn" spTurn) : Cl P w K mg base 2 "can_follow" spFollow := by
  refine clG a sc_can_follow (fun vs H Q E h => ?_) (fun f cdv A outer s H vs Q hg hr h => ?_)
  · obtain ⟨b, d, e, l, kvs, rfl, _⟩ := h
    rfl
  · obtain ⟨b, d, e, l, kvs, rfl, hb, hl, hd, hz, hv, q⟩ := h
    refine ⟨_, (pss_cons (ps_if (PW.pt (pw_and (pt_cmpR op_notN (pv 1) pe_non (nomark _)) (pw_and1 (pt_cmpR op_lt (pe_ix ix_tup (pv 0) pe_int (fun _ _ => rfl)) (pe_ix ix_tup (pv 1) pe_int (fun _ _ => rfl)) (nomark _))))) (pss_one (ps_ret pe_bl)) pss_nil)
      (pss_one (ps_ret (pe_cl c_takes_turn hg hr (by decide) (by rfl) (pa_cons (pv 2) (pa_cons (pe_ix ix_tup (pv 0) pe_int (fun _ _ => rfl)) (pa_cons (pe_ix ix_tup (pv 0) pe_int (fun _ _ => rfl)) pa_nil))))))), ?_⟩
    rcases hl with rfl | ⟨b', e', rfl, hb', hle⟩
    · refine ⟨_, rfl, rfl, _, rfl, iteF ?_⟩
      refine ⟨_, rfl, _, rfl, b, _, _, _, rfl, rfl, SqT.of hb, atI_nat (j := 1) rfl, _, rfl, b, _, _, _, rfl, rfl, SqT.of hb, atI_nat (j := 2) rfl, ?_⟩
      exact ⟨d, kvs, e.k, e.d, rfl, hd, hz, hv, q⟩
    · refine ⟨_, rfl, rfl, _, rfl, iteT ?_⟩
      refine ⟨_, rfl, b, _, _, _, rfl, rfl, SqT.of hb, atI_nat (j := 0) rfl, _, rfl, b', _, _, _, rfl, rfl, SqT.of hb', atI_nat (j := 0) rfl, _, _, rfl, rfl, _, rfl, ite2 (fun z => ?_) (fun z => ?_)⟩
      · have z0 : e.t < e'.t := of_decide_eq_true z
        omega
      · refine ⟨_, rfl, _, rfl, b, _, _, _, rfl, rfl, SqT.of hb, atI_nat (j := 1) rfl, _, rfl, b, _, _, _, rfl, rfl, SqT.of hb, atI_nat (j := 2) rfl, ?_⟩
        exact ⟨d, kvs, e.k, e.d, rfl, hd, hz, hv, q⟩
def spCheck : Sp := fun vs H Q _ => ∃ (c : Addr) (m : Int) (es : List Ev), vs = [.ref c, .int m] ∧ Lst evV H c es ∧ Valid es ∧ es.length ≤ 400 ∧ (∀ e ∈ es, e.k < m) ∧ ∀ H', Same H H' → Q .non H'
theorem ok_check_record (bt : Bt mg) (a : AtX K mg "check_record" s_check_record ["value", "many"] []) (c_is_short_list : Cl P w K mg base 1 "is_short_list" spShort) (c_is_event : Cl P w K mg base 3 "is_event" spEvent) (c_can_follow : Cl P w K mg base 2 "can_follow" spFollow) (c_is_below : Cl P w K mg base 1 "is_below" spBelow) :
    Cl P w K mg base 4 "check_record" spCheck := by
  refine clX a sc_check_record (fun vs H Q E h => ?_) (fun f cdv A outer s H vs Q hg hr h => ?_)
  · obtain ⟨a, m, e, rfl, _⟩ := h
    rfl
  · obtain ⟨c, m, es, rfl, hL, hV, hl, hkm, q⟩ := h
    refine ⟨_, (pss_cons (ps_if (pt_not (pt_val (pe_cl c_is_short_list hg hr (by decide) (by rfl) (pa_cons (pv 0) pa_nil)))) pss_never pss_nil)
      (pss_cons (ps_set (i := 2) sc_check_record.nd rfl (Or.inl rfl) pe_dnewK)
      (pss_one (ps_for PassesOwn.never rfl (pi_enum (by rfl) bt.m_enumerate (pa_cons (pv 0) pa_nil)) (pg_tup rfl (pgs_cons (pg_name (i := 3) sc_check_record.nd rfl (Or.inl rfl)) (pgs_cons (pg_name (i := 4) sc_check_record.nd rfl (Or.inl rfl)) pgs_nil))) (pss_cons (ps_if (PW.pt (pw_or (pt_not (pt_val (pe_cl c_is_event hg hr (by decide) (by rfl) (pa_cons (pv 4) pa_nil)))) (pw_or1 (pt_not (pt_val (pe_cl c_is_below hg hr (by decide) (by rfl) (pa_cons (pe_ix ix_tup (pv 4) pe_int (fun _ _ => rfl)) (pa_cons (pv 1) pa_nil)))))))) pss_never pss_nil)
      (pss_one (ps_if (pt_not (pt_val (pe_cl c_can_follow hg hr (by decide) (by rfl) (pa_cons (pv 4) (pa_cons (pe_ifExp (pt_cmpR op_gt (pv 3) pe_int (nomark _)) (pe_ix ix_list (pv 0) (pe_op op_sub (pv 3) pe_int) (fun _ _ => rfl)) pe_non) (pa_cons (pv 2) pa_nil)))))) pss_never pss_nil))))))), ?_⟩
    obtain ⟨as, hc, hT⟩ := hL
    have hlen : (as.map V.ref).length = es.length := by rw [List.length_map]; exact hT.1
    refine ⟨_, rfl, c, _, rfl, hc, by omega, _, rfl, iteF ?_⟩
    intro d nd
    refine ⟨_, rfl, c, _, rfl, SqL.of ((same_upd nd) _ _ hc), for_it (walk_enum (xs := as.map V.ref))
      (fun i σ H' => Same H H' ∧ ∃ kvs y2 y3, σ = [some (.ref c), some (.int m), some (.ref d), y2, y3] ∧ H' d = some (.dK kvs) ∧ kvs.length ≤ i ∧ HeldK kvs (heldB (es.take i)))
      ⟨same_upd nd, _, _, _, rfl, upd_same, Nat.le_refl _, HeldK.nil⟩ (fun _ _ H' _ p => SqL.of (p.1 _ _ hc)) (fun i x σ H1 H2 hi p y => ?_) (fun σ H1 p => ?_)⟩
    · obtain ⟨s1, kvs, y2, y3, rfl, hd, hkl, hk⟩ := p
      obtain ⟨T, u, v, rfl, nT, rfl, e1, e2⟩ := y
      have hi' : i < es.length := by omega
      obtain ⟨b, hb, hbt⟩ := hT.at_ hi'
      have he : es[i]? = some es[i] := List.getElem?_eq_getElem hi'
      obtain ⟨v1, v2, v3⟩ := hV i _ he
      have e2' : v = .ref b := by
        have e2 : (as.map V.ref)[i]? = some v := e2
        rw [List.getElem?_map, hb] at e2
        exact (Option.some.inj e2).symm
      subst e2'
      have e1' : u = .int (i : Nat) := (Option.some.inj e1).symm
      subst e1'
      have s2 : Same H (upd H1 T (.tup [.int (i : Nat), .ref b])) := s1.trans (same_upd nT)
      have hb2 := s2 _ _ hbt
      refine ⟨T, _, rfl, SqT.of upd_same, rfl, _, _, rfl, _, _, rfl, rfl, ?_⟩
      refine ⟨_, rfl, b, _, rfl, hb2, v1, fun H3 s3 => ?_⟩
      have s4 := s2.trans s3
      have hb4 := s4 _ _ hbt
      refine ⟨_, rfl, iteF ?_⟩
      have hkk := hkm _ (List.getElem_mem hi')
      refine ⟨_, rfl, b, _, _, _, rfl, rfl, SqT.of hb4, atI_nat (j := 1) rfl, _, rfl, es[i].k, m, rfl, hkk, _, rfl, iteF ?_⟩
      have hd4 : H3 d = some (.dK kvs) := s3 _ _ ((same_upd nT) _ _ hd)
      have fin : Same H (upd H3 d (.dK (putK kvs (Sum.inl es[i].k) (.bl es[i].d)))) ∧ ∃ kvs' y2 y3, [some (V.ref c), some (V.int m), some (V.ref d), some (V.int (i : Nat)), some (V.ref b)] = [some (V.ref c), some (V.int m), some (V.ref d), y2, y3] ∧
          upd H3 d (.dK (putK kvs (Sum.inl es[i].k) (.bl es[i].d))) d = some (.dK kvs') ∧ kvs'.length ≤ i + 1 ∧ HeldK kvs' (heldB (es.take (i + 1))) := by
        refine ⟨Same.off s4 nd off_upd, _, _, _, rfl, upd_same, ?_, ?_⟩
        · have := put_len kvs (Sum.inl es[i].k) (.bl es[i].d); omega
        · rw [List.take_add_one, he]
          exact hk.put
      have hv : (valV kvs (Sum.inl es[i].k)).getD (.bl false) = .bl (!es[i].d) := by rw [hk.at_, v2]
      have hz : kvs.length < sizeLine := small1000 (by omega)
      refine ⟨_, rfl, _, rfl, _, _, rfl, rfl, _, rfl, ite2 (fun e => ?_) (fun e => ?_)⟩
      · have e0 : (0 : Int) < (i : Nat) := of_decide_eq_true e
        obtain ⟨b', hb', hbt'⟩ := hT.at_ (i := i - 1) (by omega)
        have hle := v3 (i - 1) _ (by omega) (List.getElem?_eq_getElem (by omega))
        have g : (as.map V.ref)[i - 1]? = some (.ref b') := by rw [List.getElem?_map, hb']; rfl
        refine ⟨_, rfl, _, rfl, _, _, rfl, rfl, c, _, _, .ref b', rfl, rfl, SqL.of (s4 _ _ hc), at_of (j := i - 1) (by omega) g, _, rfl, ?_⟩
        exact ⟨b, d, es[i], .ref b', kvs, rfl, hb4, .inr ⟨b', _, rfl, s4 _ _ hbt', hle⟩, hd4, hz, hv, _, rfl, iteF fin⟩
      · exact ⟨_, rfl, b, d, es[i], .non, kvs, rfl, hb4, .inl rfl, hd4, hz, hv, _, rfl, iteF fin⟩
    · exact q _ p.1
end
end K86

set_option Elab.async false
set_option linter.all false
set_option maxRecDepth 100000
set_option maxHeartbeats 8000000
namespace K86
open PySem PySem.Spec PyProof.Rows L2 Gd Rm La Cb
theorem signs_len : signs.cps.toList.length = 36 := by decide +kernel
theorem getS {d : Int} (h0 : 0 ≤ d) (h1 : d < 36) : ∃ c, atI signs.cps.toList d = some c ∧ c ∈ signs.cps.toList := by
  have hl := signs_len
  obtain ⟨k, rfl⟩ : ∃ k : Nat, d = (k : Int) := ⟨d.toNat, by omega⟩
  have hd : k < signs.cps.toList.length := by omega
  exact ⟨signs.cps.toList[k], atI_nat (List.getElem?_eq_getElem hd), List.getElem_mem hd⟩
def codes14 : List Str := ["a", "b", "x", "1", "esc", "none", "through", "press", "tap", "hold", "code", "layer", "q9", "zzzzzzzz"]
def codes8 : List Str := ["00000000", "0", "lock", "once", "dual", "release", "down", "up"]
theorem codes_ok : ∀ c ∈ codes14 ++ codes8, CodeOk c := by decide +kernel
theorem codes_len : (codes14 ++ codes8).length = 22 := rfl
theorem getC {d : Int} (h0 : 0 ≤ d) (h1 : d < 22) : ∃ c, atI (codes14.map V.str ++ codes8.map V.str) d = some (.str c) ∧ CodeOk c := by
  have hl := codes_len
  have hd : d.toNat < (codes14 ++ codes8).length := by omega
  refine ⟨(codes14 ++ codes8)[d.toNat], ?_, codes_ok _ (List.getElem_mem hd)⟩
  rw [← List.map_append]
  refine at_of (j := d.toNat) (by omega) ?_
  rw [List.getElem?_map, List.getElem?_eq_getElem hd]
  rfl
theorem getW {ws : List Str} {d : Int} (h0 : 0 ≤ d) (h1 : d < (ws.length : Int)) : ∃ c, atI (ws.map V.str) d = some (.str c) ∧ c ∈ ws := by
  have hd : d.toNat < ws.length := by omega
  refine ⟨ws[d.toNat], ?_, List.getElem_mem hd⟩
  refine at_of (j := d.toNat) (by omega) ?_
  rw [List.getElem?_map, List.getElem?_eq_getElem hd]
  rfl
theorem sum_one : ∀ cs : List Nat, ((cs.map fun c => (⟨#[c]⟩ : Str)).map fun x => x.length).sum = cs.length
  | [] => rfl
  | c :: r => by
    have ih := sum_one r
    rw [List.map_cons, List.map_cons, List.sum_cons, ih, List.length_cons]
    show 1 + r.length = _
    omega
section
variable {P : Program} {w : World} {K : PySem.W.Frag} {mg : Str → Option Value} {base : Heap}
def spLCode : Sp := fun vs H Q _ => ∃ (r : Addr) (n : Nat), vs = [.ref r] ∧ Reel H r n ∧ n + 100 < most ∧
  ∀ (H' : Hp) (c : Str), Off r H H' → Reel H' r (n + 20) → CodeOk c → Q (.str c) H'
theorem ok__law_code (bt : Bt mg) (a : At K mg "_law_code" s__law_code ["_law_reel_here"]) (c__law_spin : Cl P w K mg base 1 "_law_spin" spSpin) : Cl P w K mg base 2 "_law_code" spLCode := by
  refine clG a sc__law_code (fun vs H Q E h => ?_) (fun f cdv A outer s H vs Q hg hr h => ?_)
  · obtain ⟨r, n, rfl, _⟩ := h
    rfl
  · obtain ⟨r, n, rfl, hR, hn, q⟩ := h
    have hn : n + 100 < 1000000000 := hn
    refine ⟨_, (pss_cons (ps_set (i := 1) sc__law_code.nd rfl (Or.inl rfl) (pe_lst (pa_cons pe_str (pa_cons pe_str (pa_cons pe_str (pa_cons pe_str (pa_cons pe_str (pa_cons pe_str (pa_cons pe_str (pa_cons pe_str (pa_cons pe_str (pa_cons pe_str (pa_cons pe_str (pa_cons pe_str (pa_cons pe_str (pa_cons pe_str pa_nil))))))))))))))))
      (pss_cons (ps_set (i := 1) sc__law_code.nd rfl (Or.inl rfl) (pe_op op_cat (pv 1) (pe_lst (pa_cons pe_str (pa_cons pe_str (pa_cons pe_str (pa_cons pe_str (pa_cons pe_str (pa_cons pe_str (pa_cons pe_str (pa_cons pe_str pa_nil)))))))))))
      (pss_cons (ps_set (i := 2) sc__law_code.nd rfl (Or.inl rfl) (pe_cl c__law_spin hg hr (by decide) (by rfl) (pa_cons (pv 0) (pa_cons pe_int pa_nil))))
      (pss_cons (ps_if (pt_cmpR op_lt (pv 2) pe_int (nomark _)) (pss_one (ps_ret (pe_ix ix_list (pv 1) (pv 2) (fun _ _ => rfl)))) pss_nil)
      (pss_cons (ps_asg (pe_tup (pa_cons (pe_op op_add pe_int (pe_cl c__law_spin hg hr (by decide) (by rfl) (pa_cons (pv 0) (pa_cons pe_int pa_nil)))) (pa_cons pe_str pa_nil))) (pg_tup rfl (pgs_cons (pg_name (i := 3) sc__law_code.nd rfl (Or.inl rfl)) (pgs_cons (pg_name (i := 4) sc__law_code.nd rfl (Or.inr rfl)) pgs_nil))))
      (pss_one (ps_ret (pe_bm PySem.F.plainAttrs_str PySem.F.slot_str_join PySem.F.type_str_join mt_join pe_str (pa_cons (pe_lc (own := [("_law_turn", 5)]) (g := (gName 5)) (by rfl) sc__law_code.nd (pi_range1 (by rfl) bt.m_range (pa_cons (pv 3) pa_nil)) (blkOk_by (N := n__law_code) (sc := defScope s__law_code) (by decide +kernel)) (fun _ _ _ _ _ => (pg_name (i := 5) sc__law_code.nd rfl (Or.inl rfl))) (fun _ _ _ _ _ => pts_nil) (fun _ _ _ _ _ => (pe_ix ix_str (pv 4) (pe_cl c__law_spin hg hr (by decide) (by rfl) (pa_cons (pv 0) (pa_cons pe_int pa_nil))) (fun _ _ => rfl)))) pa_nil))))))))), ?_⟩
    refine ⟨(by show 14 ≤ sizeLine; decide), fun S nS => ⟨_, rfl, (by show 8 ≤ sizeLine; decide), fun T nT => ⟨S, T, _, _, rfl, rfl, (same_upd nT) _ _ upd_same, upd_same, (by show 14 + 8 ≤ sizeLine; decide), fun U nU => ?_⟩⟩⟩
    have s1 : Same H (upd (upd (upd H S (.lst (codes14.map V.str))) T (.lst (codes8.map V.str))) U (.lst (codes14.map V.str ++ codes8.map V.str))) := ((same_upd nS).trans (same_upd nT)).trans (same_upd nU)
    have hU : upd (upd (upd H S (.lst (codes14.map V.str))) T (.lst (codes8.map V.str))) U (.lst (codes14.map V.str ++ codes8.map V.str)) U = some (.lst (codes14.map V.str ++ codes8.map V.str)) := upd_same
    have hN : H U = none := ((same_upd nS).trans (same_upd nT)).free nU
    refine (fun (G : ∀ H1, Same H H1 → H1 U = some (.lst (codes14.map V.str ++ codes8.map V.str)) → _) => G _ s1 hU) (fun H1 s1 hU => ?_)
    have R1 := hR.same s1
    have Ur : U ≠ r := by
      obtain ⟨_, _, _, hr2, _⟩ := id hR
      exact (ne_of_none hr2 hN).symm
    refine ⟨_, rfl, r, 27, n, rfl, by decide, by decide, by show _ < 1000000000; omega, R1, fun d H2 d0 d1 R2 o2 => ?_⟩
    have hU2 := o2 _ _ hU Ur
    have oH2 : Off r H H2 := (Off.of s1).trans o2
    refine ⟨_, rfl, _, _, rfl, rfl, _, rfl, ite2 (fun e => ?_) (fun e => ?_)⟩
    · have e0 : d < 22 := of_decide_eq_true e
      obtain ⟨c, hc, ok⟩ := getC d0 e0
      exact ⟨_, rfl, _, rfl, U, _, d, .str c, rfl, rfl, SqL.of hU2, hc, q _ c oH2 (R2.mono (by omega)) ok⟩
    · refine ⟨_, rfl, r, 8, n + 1, rfl, by decide, by decide, by show _ < 1000000000; omega, R2, fun m H3 m0 m1 R3 o3 => ⟨_, _, rfl, rfl, (by show 2 ≤ sizeLine; decide), fun p np => ⟨p, _, rfl, SqT.of upd_same, rfl, _, _, rfl, _, _, rfl, rfl, ?_⟩⟩⟩
      have R4 : Reel (upd H3 p (.tup [.int (1 + m), .str signs])) r (n + 2) := R3.same (same_upd np)
      have o4 : Off r H (upd H3 p (.tup [.int (1 + m), .str signs])) := (oH2.trans o3).sameTrans (same_upd np)
      refine (fun (G : ∀ H4, Reel H4 r (n + 2) → Off r H H4 → _) => G _ R4 o4) (fun H4 R4 o4 => ?_)
      refine ⟨rfl, _, rfl, 1 + m, rfl, by omega, by omega, fun M nM => lc_it walk_range (fun i H' => Off r H4 H' ∧ Reel H' r (n + 2 + i) ∧ ∃ cs : List Nat, H' M = some (.lst ((cs.map fun c => (⟨#[c]⟩ : Str)).map V.str)) ∧ cs.length = i ∧ ∀ c ∈ cs, c ∈ signs.cps.toList) ?_ (fun _ _ _ _ => True.intro) (fun i x H5 H6 hi p y => ?_) (fun H5 p => ?_)⟩
      · exact ⟨Off.of (same_upd nM), R4.same (same_upd nM), [], upd_same, rfl, fun c h => by simp at h⟩
      · obtain ⟨rfl, rfl⟩ := y
        obtain ⟨o5, R5, cs, hM, hl, hcs⟩ := p
        have Mr : M ≠ r := by
          obtain ⟨_, _, _, hr2, _⟩ := id R4
          exact (ne_of_none hr2 nM).symm
        have hi8 : i < 8 := by omega
        refine ⟨rfl, ⟨_, rfl, _, rfl, r, 36, n + 2 + i, rfl, by decide, by decide, by show _ < 1000000000; omega, R5, fun d' H7 d0' d1' R7 o7 => ?_⟩⟩
        obtain ⟨c, hc, hm⟩ := getS d0' d1'
        refine ⟨signs, d', c, rfl, rfl, (by decide +kernel), hc, _, o7 _ _ hM Mr, ?_, ?_⟩
        · rw [List.length_map, List.length_map]; exact small1000 (by omega)
        · refine ⟨(o5.trans o7).new nM, ?_, cs ++ [c], ?_, by rw [List.length_append, hl]; rfl, fun x hx => ?_⟩
          · obtain ⟨x, y, z, g, g'⟩ := R7
            exact ⟨x, y, z, by rw [upd_ne Mr.symm]; exact g, g'⟩
          · rw [upd_same, List.map_append, List.map_append]; rfl
          · rcases List.mem_append.mp hx with z | z
            · exact hcs x z
            · rw [List.mem_singleton.mp z]; exact hm
      · obtain ⟨o5, R5, cs, hM, hl, hcs⟩ := p
        refine ⟨"", M, cs.map fun c => ⟨#[c]⟩, rfl, rfl, .inl (SqL.of hM), ?_, ?_⟩
        · rw [sum_one, List.length_map]
          show _ + _ * 0 ≤ 16777216
          omega
        · refine q _ _ (o4.trans o5) (R5.mono (by omega)) (code_join (by omega) (by omega) hcs)
end
def holdOk (H : Hp) (n : Int) (b : Addr) : Prop := (∃ d, H b = some (.tup [.str "code", .str d]) ∧ CodeOk d) ∨ (∃ j, H b = some (.tup [.str "layer", .int j]) ∧ 1 ≤ j ∧ j ≤ n - 1)
theorem holdOk.keep {H H' : Hp} {n : Int} {b : Addr} (h : holdOk H n b) (t : Tk H H') : holdOk H' n b := by
  rcases h with ⟨d, a, c⟩ | ⟨j, a, c⟩
  · exact .inl ⟨d, t _ _ a, c⟩
  · exact .inr ⟨j, t _ _ a, c⟩
theorem small40 {n : Int} (h : n ≤ 1000000000) : n < 10 ^ 40 := Int.lt_of_le_of_lt h (by decide)
section
variable {P : Program} {w : World} {K : PySem.W.Frag} {mg : Str → Option Value} {base : Heap}
def spLAct : Sp := fun vs H Q _ => ∃ (r : Addr) (k : Nat) (i n g : Int), vs = [.ref r, .int i, .int n, .int g] ∧ Reel H r k ∧ k + 1000 < most ∧ 0 ≤ i ∧ 1 ≤ n ∧ n ≤ 1000 ∧ 1 ≤ g ∧ g ≤ 1000000000 ∧
  ∀ (H' : Hp) (v : V) (x : Actn), Off r H H' → Reel H' r (k + 100) → ActV H' x v → ActOk n i x → Q v H'
theorem ok__law_action (bt : Bt mg) (a : At K mg "_law_action" s__law_action ["_law_reel_here", "_law_layer", "_law_layers", "_law_longest"]) (c__law_spin : Cl P w K mg base 1 "_law_spin" spSpin) (c__law_code : Cl P w K mg base 2 "_law_code" spLCode) : Cl P w K mg base 3 "_law_action" spLAct := by
  refine clG a sc__law_action (fun vs H Q E h => ?_) (fun f cdv A outer s H vs Q hg hr h => ?_)
  · obtain ⟨r, k, i, n, g, rfl, _⟩ := h
    rfl
  · obtain ⟨r, k, i, n, g, rfl, hR, hk, hi, hn, hn2, hg1, hg2, q⟩ := h
    have hk : k + 1000 < 1000000000 := hk
    refine ⟨_, (pss_cons (ps_set (i := 4) sc__law_action.nd rfl (Or.inl rfl) (pe_cl c__law_spin hg hr (by decide) (by rfl) (pa_cons (pv 0) (pa_cons pe_int pa_nil))))
      (pss_cons (ps_if (pt_cmpR op_lt (pv 4) pe_int (nomark _)) (pss_one (ps_ret (pe_tup (pa_cons pe_str (pa_cons (pe_cl c__law_code hg hr (by decide) (by rfl) (pa_cons (pv 0) pa_nil)) pa_nil))))) pss_nil)
      (pss_cons (ps_if (pt_cmpR op_eq (pv 4) pe_int (nomark _)) (pss_one (ps_ret pe_str)) pss_nil)
      (C8.pss_cut (ps_if (PW.pt (pw_and (pt_cmpR op_lt (pv 4) pe_int (nomark _)) (pw_and1 (pt_cmpR op_gt (pv 1) pe_int (nomark _))))) (pss_one (ps_ret pe_str)) pss_nil)
      (C8.pss_cut (ps_if (PW.pt (pw_and (pt_cmpR op_lt (pv 4) pe_int (nomark _)) (pw_and1 (pt_cmpR op_gt (pv 2) pe_int (nomark _))))) (pss_one (ps_ret (pe_tup (pa_cons (pe_ix ix_list (pe_lst (pa_cons pe_str (pa_cons pe_str (pa_cons pe_str pa_nil)))) (pe_cl c__law_spin hg hr (by decide) (by rfl) (pa_cons (pv 0) (pa_cons pe_int pa_nil))) (fun _ _ => rfl)) (pa_cons (pe_op op_add pe_int (pe_cl c__law_spin hg hr (by decide) (by rfl) (pa_cons (pv 0) (pa_cons (pe_op op_sub (pv 2) pe_int) pa_nil)))) pa_nil))))) pss_nil)
      (pss_cons (ps_set (i := 5) sc__law_action.nd rfl (Or.inl rfl) (pe_tup (pa_cons pe_str (pa_cons (pe_cl c__law_code hg hr (by decide) (by rfl) (pa_cons (pv 0) pa_nil)) pa_nil))))
      (C8.pss_cut (ps_if (PW.pt (pw_and (pt_cmpR op_gt (pv 2) pe_int (nomark _)) (pw_and1 (pt_cmpR op_gt (pe_cl c__law_spin hg hr (by decide) (by rfl) (pa_cons (pv 0) (pa_cons pe_int pa_nil))) pe_int (nomark _))))) (pss_one (ps_set (i := 5) sc__law_action.nd rfl (Or.inl rfl) (pe_tup (pa_cons pe_str (pa_cons (pe_op op_add pe_int (pe_cl c__law_spin hg hr (by decide) (by rfl) (pa_cons (pv 0) (pa_cons (pe_op op_sub (pv 2) pe_int) pa_nil)))) pa_nil))))) pss_nil)
      (pss_cons (ps_set (i := 6) sc__law_action.nd rfl (Or.inl rfl) (pe_ix ix_list (pe_lst (pa_cons (pe_op op_add pe_int (pe_cl c__law_spin hg hr (by decide) (by rfl) (pa_cons (pv 0) (pa_cons (pe_callB (call_min2 rfl) (by rfl) bt.m_min (by decide +kernel) (pa_cons pe_int (pa_cons (pv 3) pa_nil))) pa_nil)))) (pa_cons (pe_op op_add pe_int (pe_cl c__law_spin hg hr (by decide) (by rfl) (pa_cons (pv 0) (pa_cons (pv 3) pa_nil)))) (pa_cons (pv 3) pa_nil)))) (pe_cl c__law_spin hg hr (by decide) (by rfl) (pa_cons (pv 0) (pa_cons pe_int pa_nil))) (fun _ _ => rfl)))
      (pss_one (ps_ret (pe_tup (pa_cons pe_str (pa_cons (pe_cl c__law_code hg hr (by decide) (by rfl) (pa_cons (pv 0) pa_nil)) (pa_cons (pv 5) (pa_cons (pv 6) (pa_cons (pe_ix ix_list (pe_lst (pa_cons pe_str (pa_cons pe_str (pa_cons pe_str pa_nil)))) (pe_cl c__law_spin hg hr (by decide) (by rfl) (pa_cons (pv 0) (pa_cons pe_int pa_nil))) (fun _ _ => rfl)) pa_nil)))))))))))))))), ?_⟩
    refine ⟨_, rfl, r, 12, k, rfl, by decide, by decide, by show _ < 1000000000; omega, hR, fun way H1 w0 w1 R1 o1 => ?_⟩
    refine ⟨_, rfl, _, _, rfl, rfl, _, rfl, ite2 (fun e => ?_) (fun e => ?_)⟩
    · refine ⟨_, rfl, r, k + 1, rfl, R1, by show _ < 1000000000; omega, fun H2 c o2 R2 ok => ⟨(by show 2 ≤ sizeLine; decide), fun p np => ?_⟩⟩
      exact q _ _ (.code c) ((o1.trans o2).sameTrans (same_upd np)) ((R2.same (same_upd np)).mono (by omega)) ⟨p, rfl, upd_same⟩ ok
    clear e
    refine ⟨_, rfl, rfl, _, rfl, ite2 (fun e => q _ _ .none o1 (R1.mono (by omega)) rfl True.intro) (fun e => ?_)⟩
    clear e
    refine ⟨fun σ' H' => σ' = [some (.ref r), some (.int i), some (.int n), some (.int g), some (.int way), none, none] ∧ H' = H1, ?_, ?_⟩
    · refine ⟨_, rfl, _, _, rfl, rfl, _, rfl, ite2 (fun e => ?_) (fun e => iteF ⟨rfl, rfl⟩)⟩
      refine ⟨_, rfl, _, _, rfl, rfl, _, rfl, ite2 (fun e => ?_) (fun e => ⟨rfl, rfl⟩)⟩
      have e0 : 0 < i := of_decide_eq_true e
      exact q _ _ .thr o1 (R1.mono (by omega)) rfl e0
    rintro σ' H1 ⟨rfl, rfl⟩
    refine ⟨fun σ' H' => σ' = [some (.ref r), some (.int i), some (.int n), some (.int g), some (.int way), none, none] ∧ H' = H1, ?_, ?_⟩
    · refine ⟨_, rfl, _, _, rfl, rfl, _, rfl, ite2 (fun e => ?_) (fun e => iteF ⟨rfl, rfl⟩)⟩
      refine ⟨_, rfl, _, _, rfl, rfl, _, rfl, ite2 (fun e => ?_) (fun e => ⟨rfl, rfl⟩)⟩
      have e0 : 1 < n := of_decide_eq_true e
      refine ⟨(by show 3 ≤ sizeLine; decide), fun M nM => ⟨_, rfl, r, 3, k + 1, rfl, by decide, by decide, by show _ < 1000000000; omega, R1.same (same_upd nM), fun d H2 d0 d1 R2 o2 => ?_⟩⟩
      have Mr : M ≠ r := by
        obtain ⟨_, _, _, hr2, _⟩ := id R1
        exact (ne_of_none hr2 nM).symm
      have hM := o2 _ _ (upd_same (H := H1) (a := M) (o := .lst (layWords.map V.str))) Mr
      obtain ⟨c, hc, hm⟩ := getW (ws := layWords) d0 d1
      refine ⟨M, _, d, .str c, rfl, rfl, SqL.of hM, hc, _, rfl, _, rfl, _, _, rfl, rfl, r, n - 1, k + 2, rfl, by omega, small40 (by omega), by show _ < 1000000000; omega, R2, fun j H3 j0 j1 R3 o3 => ⟨_, _, rfl, rfl, (by show 2 ≤ sizeLine; decide), fun p np => ?_⟩⟩
      exact q _ _ (.lay c (1 + j)) (((((o1.sameTrans (same_upd nM)).trans o2).trans o3)).sameTrans (same_upd np)) ((R3.same (same_upd np)).mono (by omega)) ⟨p, rfl, upd_same⟩ ⟨hm, by omega, by omega⟩
    rintro σ' H1 ⟨rfl, rfl⟩
    refine ⟨_, rfl, r, k + 1, rfl, R1, by show _ < 1000000000; omega, fun H2 c o2 R2 ok => ⟨(by show 2 ≤ sizeLine; decide), fun p np => ?_⟩⟩
    have h3 : holdOk (upd H2 p (.tup [.str "code", .str c])) n p := .inl ⟨c, upd_same, ok⟩
    have o3 : Off r H (upd H2 p (.tup [.str "code", .str c])) := (o1.trans o2).sameTrans (same_upd np)
    have R3 : Reel (upd H2 p (.tup [.str "code", .str c])) r (k + 1 + 20) := R2.same (same_upd np)
    refine (fun (G : ∀ H3, holdOk H3 n p → Off r H H3 → Reel H3 r (k + 1 + 20) → _) => G _ h3 o3 R3) (fun H3 h3 o3 R3 => ?_)
    refine ⟨fun σ' H' => ∃ b, σ' = [some (.ref r), some (.int i), some (.int n), some (.int g), some (.int way), some (.ref b), none] ∧ Off r H H' ∧ Reel H' r (k + 30) ∧ holdOk H' n b, ?_, ?_⟩
    · refine ⟨_, rfl, _, _, rfl, rfl, _, rfl, ite2 (fun e => ?_) (fun e => iteF ⟨p, rfl, o3, R3.mono (by omega), h3⟩)⟩
      have e0 : 1 < n := of_decide_eq_true e
      refine ⟨_, rfl, r, 3, k + 1 + 20, rfl, by decide, by decide, by show _ < 1000000000; omega, R3, fun d H4 d0 d1 R4 o4 => ⟨_, _, rfl, rfl, _, rfl, ite2 (fun e => ?_) (fun e => ⟨p, rfl, o3.trans o4, R4.mono (by omega), h3.keep (R3.tk o4)⟩)⟩⟩
      refine ⟨_, rfl, _, rfl, _, _, rfl, rfl, r, n - 1, k + 1 + 20 + 1, rfl, by omega, small40 (by omega), by show _ < 1000000000; omega, R4, fun j H5 j0 j1 R5 o5 => ⟨_, _, rfl, rfl, (by show 2 ≤ sizeLine; decide), fun p2 np2 => ?_⟩⟩
      exact ⟨p2, rfl, ((o3.trans o4).trans o5).sameTrans (same_upd np2), (R5.same (same_upd np2)).mono (by omega), .inr ⟨1 + j, upd_same, by omega, by omega⟩⟩
    rintro σ' H4 ⟨b, rfl, o4, R4, h4⟩
    have gm : ∀ x : Int, 0 < (if g < x then g else x) ∨ x ≤ 0 := fun x => by split <;> omega
    refine ⟨_, rfl, _, rfl, _, _, rfl, r, (if g < 4 then g else 4), k + 30, rfl, by split <;> omega, small40 (by split <;> omega), by show _ < 1000000000; omega, R4, fun t1 H5 a0 a1 R5 o5 => ⟨_, _, rfl, rfl, ?_⟩⟩
    refine ⟨_, rfl, _, rfl, r, g, k + 30 + 1, rfl, by omega, small40 hg2, by show _ < 1000000000; omega, R5, fun t2 H6 b0 b1 R6 o6 => ⟨_, _, rfl, rfl, _, rfl, (by show 3 ≤ sizeLine; decide), fun M nM => ?_⟩⟩
    refine ⟨_, rfl, r, 3, k + 30 + 1 + 1, rfl, by decide, by decide, by show _ < 1000000000; omega, R6.same (same_upd nM), fun d H7 d0 d1 R7 o7 => ?_⟩
    have Mr : M ≠ r := by
      obtain ⟨_, _, _, hr2, _⟩ := id R6
      exact (ne_of_none hr2 nM).symm
    have hM := o7 _ _ (upd_same (H := H6) (a := M) (o := .lst ([1 + t1, 1 + t2, g].map V.int))) Mr
    obtain ⟨t, ht, hm⟩ := getI (ns := [1 + t1, 1 + t2, g]) d0 d1
    have tb : 1 ≤ t ∧ t ≤ 1000000000 := by
      have hm' := List.mem_of_getElem? hm
      simp only [List.mem_cons, List.mem_nil_iff, or_false] at hm'
      have a1' : t1 < 4 := by
        revert a1
        split <;> omega
      have a2' : t1 < g := by
        revert a1
        split <;> omega
      omega
    refine ⟨M, _, d, .int t, rfl, rfl, SqL.of hM, ht, ?_⟩
    have o07 : Off r H H7 := (((o4.trans o5).trans o6).sameTrans (same_upd nM)).trans o7
    have h7 : holdOk H7 n b := (((h4.keep (R4.tk o5)).keep (R5.tk o6)).keep (Tk.of (same_upd nM))).keep ((R6.same (same_upd nM)).tk o7)
    refine ⟨_, rfl, r, k + 40, rfl, R7.mono (by omega), by show _ < 1000000000; omega, fun H8 c2 o8 R8 ok2 => ⟨_, rfl, _, rfl, (by show 3 ≤ sizeLine; decide), fun W nW => ?_⟩⟩
    refine ⟨_, rfl, r, 3, k + 40 + 20, rfl, by decide, by decide, by show _ < 1000000000; omega, R8.same (same_upd nW), fun d' H9 d0' d1' R9 o9 => ?_⟩
    have Wr : W ≠ r := by
      obtain ⟨_, _, _, hr2, _⟩ := id R8
      exact (ne_of_none hr2 nW).symm
    have hW := o9 _ _ (upd_same (H := H8) (a := W) (o := .lst (rules.map V.str))) Wr
    obtain ⟨u, hu, hmu⟩ := getW (ws := rules) d0' d1'
    refine ⟨W, _, d', .str u, rfl, rfl, SqL.of hW, hu, (by show 5 ≤ sizeLine; decide), fun z nz => ?_⟩
    have h9 : holdOk (upd H9 z (.tup [.str "dual", .str c2, .ref b, .int t, .str u])) n b := (((h7.keep (R7.tk o8)).keep (Tk.of (same_upd nW))).keep ((R8.same (same_upd nW)).tk o9)).keep (Tk.of (same_upd nz))
    have o10 : Off r H (upd H9 z (.tup [.str "dual", .str c2, .ref b, .int t, .str u])) := ((((o07.trans o8).sameTrans (same_upd nW)).trans o9)).sameTrans (same_upd nz)
    have R10 : Reel (upd H9 z (.tup [.str "dual", .str c2, .ref b, .int t, .str u])) r (k + 100) := (R9.same (same_upd nz)).mono (by omega)
    rcases h9 with ⟨y, hy, oky⟩ | ⟨y, hy, y1, y2⟩
    · exact q _ _ (.dualC c2 y t u) o10 R10 ⟨z, b, rfl, upd_same, hy⟩ ⟨ok2, oky, tb, hmu⟩
    · exact q _ _ (.dualL c2 y t u) o10 R10 ⟨z, b, rfl, upd_same, hy⟩ ⟨ok2, ⟨y1, y2⟩, tb, hmu⟩
end
end K86

set_option Elab.async false
set_option linter.all false
set_option maxRecDepth 100000
set_option maxHeartbeats 8000000
namespace K86
open PySem PySem.Spec PyProof.Rows L2 Gd Rm La Cb
theorem row_upd {H : Hp} {r p : Addr} {xs : List Actn} {ys zs : List V} (h : Row H r xs) (hp : H p = some (.lst ys)) (n : r ≠ p) : Row (upd H p (.lst zs)) r xs := by
  obtain ⟨vs, a, b⟩ := h
  exact ⟨vs, by rw [upd_ne n]; exact a, b.keep (tk_upd hp)⟩
theorem Rows.snoc {H : Hp} {rs : List Addr} {L : List (List Actn)} {r : Addr} {row : List Actn} (h : Rows H rs L) (hr : Row H r row) : Rows H (rs ++ [r]) (L ++ [row]) := by
  refine ⟨by rw [List.length_append, List.length_append, h.1]; rfl, fun i u y a b => ?_⟩
  have hl := h.1
  rcases Nat.lt_or_ge i rs.length with q | q
  · rw [List.getElem?_append_left q] at a
    rw [List.getElem?_append_left (by omega)] at b
    exact h.2 i u y a b
  · have hi : i = rs.length := by
      have := (List.getElem?_eq_some_iff.mp a).1
      rw [List.length_append] at this
      simp at this
      omega
    subst hi
    rw [List.getElem?_append_right (Nat.le_refl _), Nat.sub_self] at a
    rw [List.getElem?_append_right (by omega), show rs.length - L.length = 0 by omega] at b
    have e1 : r = u := Option.some.inj a
    have e2 : row = y := Option.some.inj b
    subst e1 e2
    exact hr
def FL (H0 : Hp) (D : Addr) (L : List (List Actn)) (H : Hp) : Prop := ∃ rs : List Addr, H D = some (.lst (rs.map V.ref)) ∧ Rows H rs L ∧ rs.Nodup ∧ ∀ r ∈ rs, H0 r = none ∧ r ≠ D
theorem FL.lay {H0 H : Hp} {D : Addr} {L : List (List Actn)} (h : FL H0 D L H) : Lay H D L := by
  obtain ⟨rs, a, b, _⟩ := h
  exact ⟨rs, a, b⟩
theorem row_off {H H' : Hp} {r p : Addr} {xs : List Actn} (h : Row H p xs) (n : p ≠ r) (o : Off r H H') (t : Tk H H') : Row H' p xs := by
  obtain ⟨vs, a, b⟩ := h
  exact ⟨vs, o _ _ a n, b.keep t⟩
theorem FL.more {H0 H1 H5 : Hp} {F M r : Addr} {L : List (List Actn)} {row : List Actn} {vs : List V} {oo : HO} (g : FL H0 F L H1) (nF : H0 F = none) (hr0 : H0 r = some oo) (fM : H0 M = none) (nM : H1 M = none) (o : Off r H1 H5) (t : Tk H1 H5)
    (hM : H5 M = some (.lst vs)) (ha : Acts H5 vs row) : ∃ acc : List V, H5 F = some (.lst acc) ∧ acc.length = L.length ∧ FL H0 F (L ++ [row]) (upd H5 F (.lst (acc ++ [.ref M]))) := by
  obtain ⟨rs, h, hR, nd, hn⟩ := g
  have Fr : F ≠ r := (ne_of_none hr0 nF).symm
  have FM : F ≠ M := ne_of_none h nM
  have h5 : H5 F = some (.lst (rs.map V.ref)) := o _ _ h Fr
  refine ⟨rs.map V.ref, h5, by rw [List.length_map]; exact hR.1, rs ++ [M], by rw [upd_same, List.map_append]; rfl, ?_, ?_, fun q hq => ?_⟩
  · refine Rows.snoc ⟨hR.1, fun i r' row' a b => row_upd (row_off (hR.2 i r' row' a b) ?_ o t) h5 (hn r' (List.mem_of_getElem? a)).2⟩ ⟨vs, by rw [upd_ne FM.symm]; exact hM, ha.keep (tk_upd h5)⟩
    exact (ne_of_none hr0 (hn r' (List.mem_of_getElem? a)).1).symm
  · refine List.nodup_append.mpr ⟨nd, List.nodup_cons.mpr ⟨by simp, List.nodup_nil⟩, fun a ha' b hb e => ?_⟩
    have hb : b = M := List.mem_singleton.mp hb
    subst hb
    subst e
    obtain ⟨i, hi⟩ := List.getElem?_of_mem ha'
    have hil := (List.getElem?_eq_some_iff.mp hi).1
    obtain ⟨vs', hv, _⟩ := hR.2 i a _ hi (List.getElem?_eq_getElem (by rw [← hR.1]; exact hil))
    rw [nM] at hv
    cases hv
  · rcases List.mem_append.mp hq with z | z
    · exact hn q z
    · rw [List.mem_singleton.mp z]; exact ⟨fM, FM.symm⟩
section
variable {P : Program} {w : World} {K : PySem.W.Frag} {mg : Str → Option Value} {base : Heap}
def spLLay : Sp := fun vs H Q _ => ∃ (r : Addr) (k n m : Nat) (g : Int), vs = [.ref r, .int (n : Int), .int (m : Int), .int g] ∧ Reel H r k ∧ k + 20000 < most ∧ 1 ≤ n ∧ n ≤ 6 ∧ 1 ≤ m ∧ m ≤ 16 ∧ 1 ≤ g ∧ g ≤ 1000000000 ∧
  ∀ (H' : Hp) (p : Addr) (L : List (List Actn)), Off r H H' → H p = none → Reel H' r (k + 10000) → FL H p L H' → LayOk L m → L.length = n → Q (.ref p) H'
theorem ok__law_layout (bt : Bt mg) (a : At K mg "_law_layout" s__law_layout ["_law_reel_here", "_law_layers", "_law_keys", "_law_longest"]) (c__law_action : Cl P w K mg base 3 "_law_action" spLAct) : Cl P w K mg base 4 "_law_layout" spLLay := by
  refine clG a sc__law_layout (fun vs H Q E h => ?_) (fun f cdv A outer s H vs Q hg hr h => ?_)
  · obtain ⟨r, k, n, m, g, rfl, _⟩ := h
    rfl
  · obtain ⟨r, k, n, m, g, rfl, hR, hk, n1, n6, m1, m16, g1, g2, q⟩ := h
    have hk : k + 20000 < 1000000000 := hk
    obtain ⟨_, _, _, hr0, _⟩ := id hR
    refine ⟨_, (pss_cons (ps_set (i := 4) sc__law_layout.nd rfl (Or.inl rfl) (pe_lst pa_nil))
      (pss_cons (ps_for PassesOwn.never rfl (pi_range1 (by rfl) bt.m_range (pa_cons (pv 1) pa_nil)) (pg_name (i := 5) sc__law_layout.nd rfl (Or.inr rfl)) (pss_one (ps_expr (pe_bm PySem.F.plainAttrs_list PySem.F.slot_list_append PySem.F.type_list_append mt_append (pv 4) (pa_cons (pe_lc (own := [("_law_key", 6)]) (g := (gName 6)) (by rfl) sc__law_layout.nd (pi_range1 (by rfl) bt.m_range (pa_cons (pv 2) pa_nil)) (blkOk_by (N := n__law_layout) (sc := defScope s__law_layout) (by decide +kernel)) (fun _ _ _ _ _ => (pg_name (i := 6) sc__law_layout.nd rfl (Or.inl rfl))) (fun _ _ _ _ _ => pts_nil) (fun _ _ _ _ _ => (pe_cl c__law_action hg hr (by decide) (by rfl) (pa_cons (pv 0) (pa_cons (pv 5) (pa_cons (pv 1) (pa_cons (pv 3) pa_nil))))))) pa_nil)))))
      (pss_one (ps_ret (pv 4))))), ?_⟩
    refine ⟨Nat.zero_le _, fun F nF => ?_⟩
    have fl0 : FL H F [] (upd H F (.lst [])) := ⟨[], upd_same, ⟨rfl, fun i r row h _ => by simp at h⟩, List.nodup_nil, fun r h => by simp at h⟩
    have Fr : F ≠ r := (ne_of_none hr0 nF).symm
    refine ⟨_, rfl, (n : Int), rfl, by omega, by omega, for_it walk_range (fun i σ H' => (∃ y5 y6, σ = [some (.ref r), some (.int (n : Int)), some (.int (m : Int)), some (.int g), some (.ref F), y5, y6]) ∧ Off r H H' ∧ Reel H' r (k + 1600 * i) ∧ ∃ L, FL H F L H' ∧ L.length = i ∧ (∀ row ∈ L, row.length = m) ∧ ∀ (i' : Nat) row, L[i']? = some row → ∀ x ∈ row, ActOk n i' x)
      ⟨⟨_, _, rfl⟩, Off.of (same_upd nF), hR.same (same_upd nF), [], fl0, rfl, fun row h => by simp at h, fun i' row h => by simp at h⟩ (fun _ _ _ _ _ => True.intro) (fun i x σ Hx H1 hi p y => ?_) (fun σ H1 p => ?_)⟩
    · obtain ⟨⟨y5, y6, rfl⟩, o1, R1, L, fl, hL, hlen, hok⟩ := p
      obtain ⟨rfl, hx⟩ := y
      have hx : x = .int (0 + (i : Int)) := hx
      have e0 : (0 : Int) + (i : Int) = (i : Int) := Int.zero_add _
      rw [e0] at hx
      subst hx
      have hi6 : i < 6 := by omega
      obtain ⟨rs, hF, _⟩ := id fl
      refine ⟨_, rfl, .inl ⟨rfl, _, SqL.of hF⟩, _, rfl, (m : Int), rfl, by omega, by omega, fun M nM => lc_it walk_range (fun j H' => Off r H1 H' ∧ Reel H' r (k + 1600 * i + 100 * j) ∧ ∃ vs xs, H' M = some (.lst vs) ∧ Acts H' vs xs ∧ xs.length = j ∧ ∀ x ∈ xs, ActOk n i x) ?_ (fun _ _ _ _ => True.intro) (fun j x Hx H2 hj p y => ?_) (fun H2 p => ?_)⟩
      · exact ⟨Off.of (same_upd nM), R1.same (same_upd nM), [], [], upd_same, Acts.nil, rfl, fun x h => by simp at h⟩
      · obtain ⟨o2, R2, vs, xs, hM, hA, hxl, hxo⟩ := p
        obtain ⟨rfl, rfl⟩ := y
        obtain ⟨_, _, _, hr1, _⟩ := id R1
        have Mr : M ≠ r := (ne_of_none hr1 nM).symm
        have hj16 : j < 16 := by omega
        refine ⟨rfl, ⟨_, rfl, _, rfl, _, rfl, _, rfl, r, k + 1600 * i + 100 * j, i, n, g, rfl, R2, by show _ < 1000000000; omega, by omega, by omega, by omega, g1, g2, fun H3 v x o3 R3 hv ok => ?_⟩⟩
        have hM3 := o3 _ _ hM Mr
        have hvl := hA.1
        refine ⟨vs, hM3, small1000 (by omega), (o2.trans o3).new nM, ?_, vs ++ [v], xs ++ [x], upd_same, ?_, by rw [List.length_append, hxl]; rfl, fun z hz => ?_⟩
        · obtain ⟨x, y, z, g, g'⟩ := R3
          exact ⟨x, y, z, by rw [upd_ne Mr.symm]; exact g, by have := g'; omega⟩
        · exact ((hA.keep (R2.tk o3)).snoc hv).keep (tk_upd hM3)
        · rcases List.mem_append.mp hz with q | q
          · exact hxo z q
          · rw [List.mem_singleton.mp q]; exact ok
      · obtain ⟨o2, R2, vs, xs, hM, hA, hxl, hxo⟩ := p
        obtain ⟨_, _, _, hr1, _⟩ := id R1
        obtain ⟨acc, hF2, hal, fl2⟩ := fl.more nF hr0 (o1.free hr1 nM) nM o2 (R1.tk o2) hM hA
        refine ⟨F, acc, .ref M, rfl, rfl, hF2, small1000 (by omega), ⟨_, _, rfl⟩, (o1.trans o2).new nF, ?_, L ++ [xs], fl2, by rw [List.length_append, hL]; rfl, fun row hrow => ?_, fun i' row hrow => ?_⟩
        · obtain ⟨x, y, z, g, g'⟩ := R2
          exact ⟨x, y, z, by rw [upd_ne Fr.symm]; exact g, by have := g'; omega⟩
        · rcases List.mem_append.mp hrow with z | z
          · exact hlen row z
          · rw [List.mem_singleton.mp z, hxl]; omega
        · rcases Nat.lt_or_ge i' L.length with z | z
          · rw [List.getElem?_append_left z] at hrow
            exact hok i' row hrow
          · have hi' : i' = L.length := by
              have := (List.getElem?_eq_some_iff.mp hrow).1
              rw [List.length_append] at this
              simp at this
              omega
            subst hi'
            rw [List.getElem?_append_right (Nat.le_refl _), Nat.sub_self] at hrow
            have e : xs = row := Option.some.inj hrow
            subst e
            rw [hL]
            exact hxo
    · obtain ⟨⟨y5, y6, rfl⟩, o1, R1, L, fl, hL, hlen, hok⟩ := p
      have hL : L.length = n := by omega
      refine ⟨_, rfl, q _ F L o1 nF (R1.mono (by omega)) fl ⟨by omega, by omega, m1, m16, hlen, ?_⟩ hL⟩
      rw [hL]
      exact hok
end
end K86

set_option Elab.async false
set_option linter.all false
set_option maxRecDepth 100000
set_option maxHeartbeats 8000000
namespace K86
open PySem PySem.Spec PyProof.Rows L2 Gd Rm La Cb Pl
theorem lk_ne {f g : Str} {v : V} {r : List (Str × V)} (h : f ≠ g) : ((g, v) :: r).lookup f = r.lookup f := by
  rw [List.lookup_cons, beq_false_of_ne h]
theorem lk_eq {f : Str} {v : V} {r : List (Str × V)} : ((f, v) :: r).lookup f = some v := by
  rw [List.lookup_cons, beq_self_eq_true]
theorem pf_ne {f g : Str} {x v : V} {r : List (Str × V)} (h : g ≠ f) : putF f v ((g, x) :: r) = (g, x) :: putF f v r := if_neg h
theorem pf_eq {f : Str} {x v : V} {r : List (Str × V)} : putF f v ((f, x) :: r) = (f, v) :: r := if_pos rfl
theorem flat_rep {v : V} (m : Nat) : (List.replicate m [v]).flatten = List.replicate m v := by
  induction m with
  | zero => rfl
  | succ m ih => rw [List.replicate_succ, List.flatten_cons, ih, List.replicate_succ]; rfl
def flds (c l : Addr) (o : Int) (d e : Addr) : List (Str × V) := [("layout", .ref c), ("locked", .ref l), ("once", .int o), ("bound", .ref d), ("pressed", .ref e)]
section
variable {c l d e : Addr} {o y : Int}
theorem f_lay : (flds c l o d e).lookup ("layout" : Str) = some (.ref c) := lk_eq
theorem f_lock : (flds c l o d e).lookup ("locked" : Str) = some (.ref l) := by
  unfold flds
  rw [lk_ne (by decide +kernel), lk_eq]
theorem f_once : (flds c l o d e).lookup ("once" : Str) = some (.int o) := by
  unfold flds
  rw [lk_ne (by decide +kernel), lk_ne (by decide +kernel), lk_eq]
theorem f_bound : (flds c l o d e).lookup ("bound" : Str) = some (.ref d) := by
  unfold flds
  rw [lk_ne (by decide +kernel), lk_ne (by decide +kernel), lk_ne (by decide +kernel), lk_eq]
theorem f_pressed : (flds c l o d e).lookup ("pressed" : Str) = some (.ref e) := by
  unfold flds
  rw [lk_ne (by decide +kernel), lk_ne (by decide +kernel), lk_ne (by decide +kernel), lk_ne (by decide +kernel), lk_eq]
def names5 : List Str := ["layout", "locked", "once", "bound", "pressed"]
theorem f_no {m : Str} (h : m ∉ names5) : (flds c l o d e).lookup m = none := by
  unfold names5 at h
  simp only [List.mem_cons, List.mem_nil_iff, or_false, not_or] at h
  unfold flds
  rw [lk_ne h.1, lk_ne h.2.1, lk_ne h.2.2.1, lk_ne h.2.2.2.1, lk_ne h.2.2.2.2]
  rfl
theorem f_put : putF "once" (.int y) (flds c l o d e) = flds c l y d e := by
  unfold flds
  rw [pf_ne (by decide +kernel), pf_ne (by decide +kernel), pf_eq]
theorem f_new : putF "pressed" (.ref e) (putF "bound" (.ref d) (putF "once" (.int o) (putF "locked" (.ref l) (putF "layout" (.ref c) [])))) = flds c l o d e := by
  show putF "pressed" (.ref e) (putF "bound" (.ref d) (putF "once" (.int o) (putF "locked" (.ref l) [("layout", .ref c)]))) = _
  rw [pf_ne (by decide +kernel)]
  show putF "pressed" (.ref e) (putF "bound" (.ref d) (putF "once" (.int o) [("layout", .ref c), ("locked", .ref l)])) = _
  rw [pf_ne (by decide +kernel), pf_ne (by decide +kernel)]
  show putF "pressed" (.ref e) (putF "bound" (.ref d) [("layout", .ref c), ("locked", .ref l), ("once", .int o)]) = _
  rw [pf_ne (by decide +kernel), pf_ne (by decide +kernel), pf_ne (by decide +kernel)]
  show putF "pressed" (.ref e) [("layout", .ref c), ("locked", .ref l), ("once", .int o), ("bound", .ref d)] = _
  rw [pf_ne (by decide +kernel), pf_ne (by decide +kernel), pf_ne (by decide +kernel), pf_ne (by decide +kernel)]
  rfl
end
/-- a player -/
structure PAt (C : Addr) (H : Hp) (p c l d e : Addr) (n : Nat) (s : Sm) : Prop where
  ob : ∃ dx, H p = some (.ins C dx (flds c l s.on d e))
  lk : H l = some (.lst (s.lk.map V.bl))
  bd : ∃ kvs, H d = some (.dK kvs) ∧ Bd H kvs s.bd
  pr : ∃ pvs : List (Key × V), H e = some (.dK pvs) ∧ pvs.length ≤ n ∧ (∀ q ∈ s.bd, ∀ x, q.2 = Actn.code x → ∃ z, valV pvs (Sum.inr x) = some (.int z)) ∧ (∀ k v, valV pvs k = some v → ∃ z, v = .int z)
  de : d ≠ e
theorem PAt.same {C : Addr} {H H' : Hp} {p c l d e : Addr} {n : Nat} {s : Sm} (h : PAt C H p c l d e n s) (t : Same H H') : PAt C H' p c l d e n s := by
  obtain ⟨⟨dx, a⟩, b, ⟨kvs, c1, c2⟩, ⟨pvs, d1, d2⟩, f⟩ := h
  exact ⟨⟨dx, t _ _ a⟩, t _ _ b, ⟨kvs, t _ _ c1, c2.keep (Tk.of t)⟩, ⟨pvs, t _ _ d1, d2⟩, f⟩
/-- what the walk asks of the class -/
structure Cp (K : PySem.W.Frag) (C : Addr) : Prop where
  cl : Cls K C
  n1 : NoAttr K C "layout"
  n2 : NoAttr K C "locked"
  n3 : NoAttr K C "once"
  n4 : NoAttr K C "bound"
  n5 : NoAttr K C "pressed"
theorem strOk_code {c : Str} (h : CodeOk c) : PyData.strOk c = true := by
  unfold PyData.strOk
  rw [← Array.all_toList, List.all_eq_true]
  have all : ∀ y ∈ signs.cps.toList, decide (y < 0x110000) = true := by decide +kernel
  exact fun y hy => all y (h.2.2 y hy)
theorem bd_lay {n : Int} {x : Actn} (h : BdOk n x) : PyData.canLay0 (actD x) = true ∧ PyData.depth (actD x) = 1 := by
  cases x with
  | code c => exact ⟨by simp [actD, PyData.canLay0, PyData.canLayAll0, strOk_code h, (by decide +kernel : PyData.strOk "code" = true)], rfl⟩
  | lay w j => 
    obtain ⟨rfl, _⟩ := h
    exact ⟨by simp [actD, PyData.canLay0, PyData.canLayAll0, (by decide +kernel : PyData.strOk "layer" = true)], rfl⟩
  | none => exact h.elim
  | thr => exact h.elim
  | dualC _ _ _ _ => exact h.elim
  | dualL _ _ _ _ => exact h.elim
theorem bds_lay {n : Int} : ∀ {bd : Bd0}, BdsOk n bd → PyData.canLayAll0 (bd.map fun q => actD q.2) = true ∧ PyData.depthAll (bd.map fun q => actD q.2) ≤ 1
  | [], _ => ⟨rfl, by decide⟩
  | q :: r, h => by
    obtain ⟨a, b⟩ := bds_lay (bd := r) fun p hp => h p (List.mem_cons_of_mem _ hp)
    obtain ⟨x, y⟩ := bd_lay (h q (List.mem_cons_self ..))
    refine ⟨?_, ?_⟩
    · show (PyData.canLay0 (actD q.2) && PyData.canLayAll0 (r.map fun q => actD q.2)) = true
      rw [x, a]; rfl
    · show max (PyData.depth (actD q.2)) (PyData.depthAll (r.map fun q => actD q.2)) ≤ 1
      omega
theorem shaped_bds {n : Int} {bd : Bd0} (h : BdsOk n bd) : SeqAt.shaped (.list (bd.map fun q => actD q.2)) = true := by
  obtain ⟨a, b⟩ := bds_lay h
  show (PyData.canLayAll0 _ && decide (PyData.depthAll _ + 1 ≤ 64)) = true
  rw [a, decide_eq_true (by omega)]; rfl
theorem shaped_layer (i : Int) : SeqAt.shaped (.tuple [.str "layer", .int i]) = true := by
  simp [SeqAt.shaped, PyData.canLay0, PyData.canLayAll0, PyData.depth, PyData.depthAll, (by decide +kernel : PyData.strOk "layer" = true)]
theorem eqv_layer (i : Int) {n : Int} {x : Actn} (h : BdOk n x) : PyData.eqv (actD x) (.tuple [.str "layer", .int i]) = isLay i x := by
  cases x with
  | code c =>
    have e : ((("code" : String) : Str) == (("layer" : String) : Str)) = false := by decide +kernel
    simp [actD, PyData.eqv, PyData.eqvAll, isLay, e]
  | lay w j =>
    obtain ⟨rfl, _⟩ := h
    simp [actD, PyData.eqv, PyData.eqvAll, isLay]
    by_cases z : j = i <;> simp [z]
  | none => exact h.elim
  | thr => exact h.elim
  | dualC _ _ _ _ => exact h.elim
  | dualL _ _ _ _ => exact h.elim
theorem any_layer (i : Int) {n : Int} : ∀ {bd : Bd0}, BdsOk n bd → ((bd.map fun q => actD q.2).any fun z => PyData.eqv z (.tuple [.str "layer", .int i])) = bd.any fun p => isLay i p.2
  | [], _ => rfl
  | q :: r, h => by
    rw [List.map_cons, List.any_cons, List.any_cons, any_layer i (bd := r) fun p hp => h p (List.mem_cons_of_mem _ hp), eqv_layer i (h q (List.mem_cons_self ..))]
section
variable {P : Program} {w : World} {K : PySem.W.Frag} {mg : Str → Option Value} {base : Heap}
def spPInit (C : Addr) : Sp := fun vs H Q _ => ∃ (p dx c : Addr) (xs : List V), vs = [.ref p, .ref c] ∧ H p = some (.ins C dx []) ∧ H c = some (.lst xs) ∧ xs.length ≤ 6 ∧
  ∀ (H' : Hp) (l d e : Addr), H l = none → H d = none → H e = none → PAt C H' p c l d e 0 (init xs.length) → (∀ b o, H b = some o → b ≠ p → H' b = some o) → Q .non H'
theorem ok_Player_init (bt : Bt mg) {C : Addr} (cp : Cp K C) {tk : Tok} (m_NO_LAYER : mg "NO_LAYER" = some (.int 0 tk)) (a : AtI K mg C "Player" "Player.__init__" s_Player_init ["self", "layout"]) : ClI P w K mg base 1 C "Player" (spPInit C) := by
  refine clIG a sc_Player_init (fun vs H Q E h => ?_) (fun f cdv A outer s H vs Q hg hr h => ?_)
  · obtain ⟨p, dx, c, xs, rfl, _⟩ := h
    rfl
  · obtain ⟨p, dx, c, xs, rfl, hp, hc, hl, q⟩ := h
    refine ⟨_, (pss_cons (ps_fld (pv 0) (pv 1) rfl)
      (pss_cons (ps_fld (pv 0) (pe_op op_rep (pe_lst (pa_cons pe_bl pa_nil)) (pe_callB call_len_seq (by rfl) bt.m_len (by decide +kernel) (pa_cons (pv 1) pa_nil))) rfl)
      (pss_cons (ps_fld (pv 0) (pe_glob (v := .int 0) (by rfl) m_NO_LAYER ⟨_, rfl⟩) rfl)
      (pss_cons (ps_fld (pv 0) pe_dnewK rfl)
      (pss_one (ps_fld (pv 0) pe_dnewK rfl)))))), ?_⟩
    refine ⟨_, rfl, _, rfl, p, C, dx, _, rfl, hp, cp.cl, cp.n1, (by show 0 < 1000; decide), ?_⟩
    have pc : c ≠ p := ne_of hc hp (by intro z; cases z)
    refine (fun (X : ∀ H1 : Hp, Off p H H1 → H1 p = some (.ins C dx (putF "layout" (.ref c) [])) → _) => X _ off_upd upd_same) (fun H1 o1 hp1 => ?_)
    have hc1 := o1 _ _ hc pc
    refine ⟨(by show 1 ≤ sizeLine; decide), fun A0 m0 => ⟨_, rfl, c, xs, rfl, .inl (SqL.of ((same_upd m0) _ _ hc1)), A0, _, _, rfl, rfl, upd_same, by omega, by omega, ?_, fun l m1 => ?_⟩⟩
    · show 1 * _ ≤ sizeLine
      rw [sizeLine_eq]
      omega
    have el : (List.replicate ((xs.length : Int)).toNat [V.bl false]).flatten = (List.replicate xs.length false).map V.bl := by
      rw [flat_rep, Int.toNat_natCast, List.map_replicate]
    rw [el]
    have k0 := same_upd (o := .lst [.bl false]) m0
    have k1 := same_upd (o := .lst ((List.replicate xs.length false).map V.bl)) m1
    have l1 : H1 l = none := k0.free m1
    refine (fun (X : ∀ H2 : Hp, Off p H H2 → H2 p = some (.ins C dx (putF "layout" (.ref c) [])) → H2 l = some (.lst ((List.replicate xs.length false).map V.bl)) → _) => X _ (o1.sameTrans (k0.trans k1)) ((k0.trans k1) _ _ hp1) upd_same) (fun H2 o2 hp2 hl2 => ?_)
    have l0 : H l = none := o1.free hp1 l1
    have lp : l ≠ p := fun z => by rw [z, hp] at l0; cases l0
    refine ⟨_, rfl, p, C, dx, _, rfl, hp2, cp.cl, cp.n2, (by show 1 < 1000; decide), ?_⟩
    refine ⟨_, rfl, p, C, dx, _, rfl, upd_same, cp.cl, cp.n3, ?_, ?_⟩
    · show (putF "locked" _ [(("layout" : Str), _)]).length < 1000
      rw [pf_ne (by decide +kernel)]
      show 2 < 1000
      decide
    refine (fun (X : ∀ H3 : Hp, Off p H H3 → H3 p = some (.ins C dx (putF "once" (.int 0) (putF "locked" (.ref l) (putF "layout" (.ref c) [])))) → H3 l = some (.lst ((List.replicate xs.length false).map V.bl)) → _) => X _ ((o2.trans off_upd).trans off_upd) upd_same (by rw [upd_ne lp, upd_ne lp]; exact hl2)) (fun H3 o3 hp3 hl3 d m2 => ?_)
    have k2 := same_upd (o := .dK []) m2
    have d0 : H d = none := o3.free hp3 m2
    refine ⟨_, rfl, p, C, dx, _, rfl, k2 _ _ hp3, cp.cl, cp.n4, ?_, ?_⟩
    · show (putF "once" _ (putF "locked" _ [(("layout" : Str), _)])).length < 1000
      rw [pf_ne (by decide +kernel)]
      show (putF "once" _ [(("layout" : Str), _), (("locked" : Str), _)]).length < 1000
      rw [pf_ne (by decide +kernel), pf_ne (by decide +kernel)]
      show 3 < 1000
      decide
    have dp : d ≠ p := fun z => by rw [z, hp] at d0; cases d0
    refine (fun (X : ∀ H4 : Hp, Off p H H4 → H4 p = some (.ins C dx (putF "bound" (.ref d) (putF "once" (.int 0) (putF "locked" (.ref l) (putF "layout" (.ref c) []))))) → H4 l = some (.lst ((List.replicate xs.length false).map V.bl)) → H4 d = some (.dK []) → _) => X _ ((o3.sameTrans k2).trans off_upd) upd_same (by rw [upd_ne lp]; exact k2 _ _ hl3) (by rw [upd_ne dp]; exact upd_same)) (fun H4 o4 hp4 hl4 hd4 e m3 => ?_)
    have k3 := same_upd (o := .dK []) m3
    have e0 : H e = none := o4.free hp4 m3
    have ep : e ≠ p := fun z => by rw [z, hp] at e0; cases e0
    have de : d ≠ e := ne_of_none hd4 m3
    refine ⟨_, rfl, p, C, dx, _, rfl, k3 _ _ hp4, cp.cl, cp.n5, ?_, ?_⟩
    · show (putF "bound" _ (putF "once" _ (putF "locked" _ [(("layout" : Str), _)]))).length < 1000
      rw [pf_ne (by decide +kernel)]
      show (putF "bound" _ (putF "once" _ [(("layout" : Str), _), (("locked" : Str), _)])).length < 1000
      rw [pf_ne (by decide +kernel), pf_ne (by decide +kernel)]
      show (putF "bound" _ [(("layout" : Str), _), (("locked" : Str), _), (("once" : Str), _)]).length < 1000
      rw [pf_ne (by decide +kernel), pf_ne (by decide +kernel), pf_ne (by decide +kernel)]
      show 4 < 1000
      decide
    refine q _ l d e l0 d0 e0 ⟨⟨dx, ?_⟩, by rw [upd_ne lp]; exact k3 _ _ hl4, ⟨[], by rw [upd_ne dp]; exact k3 _ _ hd4, .nil⟩, ⟨[], by rw [upd_ne ep]; exact upd_same, Nat.le_refl _, fun q hq => by simp [init] at hq, fun k v h => by cases h⟩, de⟩ ((o4.sameTrans k3).trans off_upd)
    rw [upd_same, f_new]
    rfl
end
end K86

set_option Elab.async false
set_option linter.all false
set_option maxRecDepth 100000
set_option maxHeartbeats 8000000
namespace K86
open PySem PySem.Spec PyProof.Rows L2 Gd Rm La Cb Pl
theorem eqI {a b : Int} {p : Bool} (h : decide (a = b) = p) : V.bl (decide (V.int a = V.int b)) = .bl p := by
  rw [← h]
  exact congrArg V.bl (by by_cases z : a = b <;> simp [z])
theorem eqS {a b : Str} {p : Bool} (h : decide (a = b) = p) : V.bl (decide (V.str a = V.str b)) = .bl p := by
  rw [← h]
  exact congrArg V.bl (by by_cases z : a = b <;> simp [z])
theorem shaped_act {n i : Int} {x : Actn} (h : ActOk n i x) : SeqAt.shaped (actD x) = true := by
  have w : ∀ c ∈ layWords ++ rules ++ (["none", "through", "code", "layer", "dual"].map Str.ofString), PyData.strOk c = true := by decide +kernel
  cases x with
  | none => decide +kernel
  | thr => decide +kernel
  | code c => simp [SeqAt.shaped, actD, PyData.canLay0, PyData.canLayAll0, PyData.depth, PyData.depthAll, w "code" (by decide +kernel), strOk_code h]
  | lay u j => simp [SeqAt.shaped, actD, PyData.canLay0, PyData.canLayAll0, PyData.depth, PyData.depthAll, w u (List.mem_append_left _ (List.mem_append_left _ h.1))]
  | dualC c d t r => simp [SeqAt.shaped, actD, PyData.canLay0, PyData.canLayAll0, PyData.depth, PyData.depthAll, w "code" (by decide +kernel), w "dual" (by decide +kernel), strOk_code h.1, strOk_code h.2.1, w r (List.mem_append_left _ (List.mem_append_right _ h.2.2.2))]
  | dualL c j t r => simp [SeqAt.shaped, actD, PyData.canLay0, PyData.canLayAll0, PyData.depth, PyData.depthAll, w "layer" (by decide +kernel), w "dual" (by decide +kernel), strOk_code h.1, w r (List.mem_append_left _ (List.mem_append_right _ h.2.2.2))]
theorem eqv_thr : ∀ x : Actn, PyData.eqv (actD x) (.str "through") = isThr x
  | .none => by decide +kernel
  | .thr => by decide +kernel
  | .code _ => rfl
  | .lay _ _ => rfl
  | .dualC _ _ _ _ => rfl
  | .dualL _ _ _ _ => rfl
theorem bl_at {bs : List Bool} {i : Nat} (h : i < bs.length) : (bs.map V.bl)[i]? = some (.bl (bs.getD i false)) := by
  rw [List.getElem?_map, List.getElem?_eq_getElem h, List.getD_eq_getElem?_getD, List.getElem?_eq_getElem h]; rfl
section
variable {P : Program} {w : World} {K : PySem.W.Frag} {mg : Str → Option Value} {base : Heap}
def spOn (C : Addr) : Sp := fun vs H Q _ => ∃ (p c l d e : Addr) (n : Nat) (s : Sm) (m : Int) (i : Nat), vs = [.ref p, .int (i : Int)] ∧ PAt C H p c l d e n s ∧ BdsOk m s.bd ∧ i < s.lk.length ∧ s.bd.length ≤ 1000 ∧ ∀ H', Same H H' → Q (.bl (onL s i)) H'
theorem ok_is_on (bt : Bt mg) {C : Addr} (cp : Cp K C) (a : AtM K C "is_on" "Player.is_on" s_is_on ["self", "layer"]) : ClM P w K mg base 1 C "is_on" (spOn C) := by
  refine clMG a sc_is_on (fun vs H Q E h => ?_) (fun f cdv A outer s H vs Q hg hr h => ?_)
  · obtain ⟨p, c, l, d, e, n, s, m, i, rfl, _⟩ := h
    rfl
  · obtain ⟨p, c, l, d, e, n, s, m, i, rfl, hP, hB, hi, hbl, q⟩ := h
    refine ⟨_, (pss_cons (ps_if (PW.pt (pw_or (pt_cmpR op_eq (pv 1) pe_int (nomark _)) (pw_or (pt_truth (pe_ix ix_list (pe_fld (pv 0) rfl) (pv 1) (fun _ _ => rfl)) (by intro _; rfl)) (pw_or1 (pt_cmpR op_eq (pe_fld (pv 0) rfl) (pv 1) (nomark _)))))) (pss_one (ps_ret pe_bl)) pss_nil)
      (pss_one (ps_ret (pe_cmpR (op_inD (room65 hr)) (pe_tup (pa_cons pe_str (pa_cons (pv 1) pa_nil))) (pe_listVals rfl (pe_fld (pv 0) rfl) (by rfl) bt.m_list (by decide +kernel)) (by rfl))))), ?_⟩
    obtain ⟨⟨dx, h1⟩, h2, ⟨kvs, h3, h3b⟩, _, _⟩ := id hP
    have e0 : decide ((i : Int) = 0) = decide (i = 0) := decide_eq_decide.mpr (by omega)
    refine ⟨_, rfl, rfl, _, eqI e0, ?_⟩
    cases hz : decide (i = 0) with
    | true =>
      refine iteT ?_
      have := q H (Same.refl _)
      unfold onL at this
      rw [hz] at this
      exact this
    | false =>
      refine iteF ⟨_, rfl, p, C, dx, _, _, rfl, h1, cp.cl, cp.n2, f_lock, _, rfl, l, _, (i : Int), _, rfl, rfl, SqL.of h2, atI_nat (bl_at hi), _, rfl, ?_⟩
      cases hk : s.lk.getD i false with
      | true =>
        refine iteT ?_
        have := q H (Same.refl _)
        unfold onL at this
        rw [hz, hk] at this
        exact this
      | false =>
        refine iteF ⟨_, rfl, p, C, dx, _, _, rfl, h1, cp.cl, cp.n3, f_once, _, rfl, rfl, _, eqI rfl, ?_⟩
        cases ho : decide (s.on = (i : Int)) with
        | true =>
          refine iteT ?_
          have := q H (Same.refl _)
          unfold onL at this
          rw [hz, hk, ho] at this
          exact this
        | false =>
          refine iteF ⟨_, rfl, (by show 2 ≤ sizeLine; decide), fun T nT => ?_⟩
          have k1 := same_upd (o := .tup [.str "layer", .int (i : Int)]) nT
          refine ⟨_, rfl, p, C, dx, _, _, rfl, k1 _ _ h1, cp.cl, cp.n4, f_bound, d, kvs, rfl, k1 _ _ h3, fun W nW => ?_⟩
          have k2 := same_upd (o := .lst (kvs.map (·.2))) nW
          refine ⟨.tuple [.str "layer", .int (i : Int)], _, .tup (SqT.of (k2 _ _ upd_same)) (.cons (.str _) (.cons (.int _) .nil)), .lst (SqL.of upd_same) (h3b.keep (Tk.of (k1.trans k2))).dp, shaped_layer _, shaped_bds hB, ?_⟩
          rw [any_layer (i : Int) hB]
          have := q _ (k1.trans k2)
          unfold onL at this
          rw [hz, hk, ho] at this
          exact this
def spTaken (C : Addr) : Sp := fun vs H Q _ => ∃ (p c l d e : Addr) (n : Nat) (s : Sm) (L : List (List Actn)) (m k : Nat), vs = [.ref p, .int (k : Int)] ∧ PAt C H p c l d e n s ∧ Lay H c L ∧ LayOk L m ∧ BdsOk L.length s.bd ∧ s.lk.length = L.length ∧ s.bd.length ≤ 1000 ∧ k < m ∧
  ∀ (H' : Hp) (T : Addr) (v : V), Same H H' → H' T = some (.tup [.int ((takenL L s k : Nat) : Int), v]) → ActV H' (actAt L (takenL L s k) k) v → Q (.ref T) H'
theorem actAt_eq {L : List (List Actn)} {i k : Nat} (hi : i < L.length) (hk : k < L[i].length) : actAt L i k = L[i][k] := by
  unfold actAt
  simp [List.getD_eq_getElem?_getD, hi, hk]
theorem filt_zero {L : List (List Actn)} {m : Nat} (hO : LayOk L m) (s : Sm) {k : Nat} (hk : k < m) : 0 ∈ filt L s k := by
  have n1 := hO.n1
  refine List.mem_filter.mpr ⟨List.mem_range.mpr (by omega), ?_⟩
  have ht : isThr (actAt L 0 k) = false := by
    have e : L[0]? = some L[0] := List.getElem?_eq_getElem (by omega)
    have hl : L[0].length = m := hO.len _ (List.getElem_mem _)
    have ok := hO.ok 0 _ e L[0][k] (List.getElem_mem _)
    rw [actAt_eq (by omega) (by omega)]
    cases hx : L[0][k] with
    | thr =>
      rw [hx] at ok
      exact absurd (show (0 : Int) < 0 from ok) (by decide)
    | _ => rfl
  rw [ht]
  simp [onL]
theorem filt_last {L : List (List Actn)} {s : Sm} {k : Nat} (h : filt L s k ≠ []) : takenL L s k ∈ filt L s k ∧ ∀ x ∈ filt L s k, x ≤ takenL L s k := by
  have pw : (filt L s k).Pairwise (· < ·) := List.Pairwise.filter _ List.pairwise_lt_range
  have e : (filt L s k).getLast? = some ((filt L s k).getLast h) := List.getLast?_eq_some_getLast h
  unfold takenL
  rw [e, Option.getD_some]
  refine ⟨List.getLast_mem h, fun x hx => ?_⟩
  have hs := List.dropLast_concat_getLast h
  rw [← hs] at hx pw
  rcases List.mem_append.mp hx with z | z
  · exact Nat.le_of_lt ((List.pairwise_append.mp pw).2.2 x z _ (List.mem_singleton.mpr rfl))
  · rw [List.mem_singleton.mp z]
    exact Nat.le_refl _
def pr (L : List (List Actn)) (s : Sm) (k : Nat) (i : Nat) : Bool := !isThr (actAt L i k) && onL s i
theorem ok_taken (bt : Bt mg) {C : Addr} (cp : Cp K C) (a : AtM K C "taken" "Player.taken" s_taken ["self", "key"]) (c_is_on : ClM P w K mg base 1 C "is_on" (spOn C)) : ClM P w K mg base 2 C "taken" (spTaken C) := by
  have cl_Player := cp.cl
  refine clMG a sc_taken (fun vs H Q E h => ?_) (fun f cdv A outer s H vs Q hg hr h => ?_)
  · obtain ⟨p, c, l, d, e, n, s, L, m, k, rfl, _⟩ := h
    rfl
  · obtain ⟨pp, c, l, d, e, n, s, L, m, k, rfl, hP, hL, hO, hB, hlk, hbl, hk, q⟩ := h
    refine ⟨_, (pss_cons (ps_set (i := 2) sc_taken.nd rfl (Or.inl rfl) (pe_callB (cr_max rfl) (by rfl) bt.m_max (by decide +kernel) (pa_cons (pe_lc (own := [("at", 3), ("actions", 4)]) (g := (gTup K 2 (gCons (gName 3) (gCons (gName 4) gNil)))) (by rfl) sc_taken.nd (pi_enum (by rfl) bt.m_enumerate (pa_cons (pe_fld (pv 0) rfl) pa_nil)) (blkOk_by (N := n_taken) (sc := defScope s_taken) (by decide +kernel)) (fun _ _ _ _ _ => (pg_tup rfl (pgs_cons (pg_name (i := 3) sc_taken.nd rfl (Or.inl rfl)) (pgs_cons (pg_name (i := 4) sc_taken.nd rfl (Or.inl rfl)) pgs_nil)))) (fun _ _ _ _ _ => (pts_one (PW.pt (pw_and (pt_cmpR (r := rNeD K) (op_neD hr.units) (pe_ix (r := rIxL K) ix_list (pv 4) (pv 1) (fun _ _ => rfl)) pe_str (nomark _)) (pw_and1 (pt_val (pe_clM c_is_on cl_Player hg hr (by decide) (pv 0) (pa_cons (pv 3) pa_nil)))))))) (fun _ _ _ _ _ => (pv 3))) pa_nil)))
      (pss_one (ps_ret (pe_tup (pa_cons (pv 2) (pa_cons (pe_ix ix_list (pe_ix ix_list (pe_fld (pv 0) rfl) (pv 2) (fun _ _ => rfl)) (pv 1) (fun _ _ => rfl)) pa_nil)))))), ?_⟩
    obtain ⟨⟨dx, h1⟩, h2, ⟨kvs, h3, h3b⟩, _, _⟩ := id hP
    obtain ⟨rs, hc, hR⟩ := id hL
    have n6 := hO.n6
    have hlen : (rs.map V.ref).length = L.length := by rw [List.length_map]; exact hR.1
    refine ⟨_, rfl, pp, C, dx, _, _, rfl, h1, cp.cl, cp.n1, f_lay, c, _, rfl, SqL.of hc, fun M nM => lc_it (walk_enum (xs := rs.map V.ref)) (fun i H' => Same H H' ∧ H' M = some (.lst ((((List.range i).filter (pr L s k)).map fun j : Nat => (j : Int)).map V.int))) ⟨same_upd nM, upd_same⟩
      (fun i H' _ p => SqL.of (p.1 _ _ hc)) (fun i x Hx H3 hi p y => ?_) (fun H3 p => ?_)⟩
    · obtain ⟨sx, hM⟩ := p
      obtain ⟨T, u, v, rfl, nT, rfl, e1, e2⟩ := y
      have hi' : i < L.length := by omega
      obtain ⟨r, hr1, vs, hvs, ha⟩ := hR.at_ hi'
      have e2' : v = .ref r := Option.some.inj (e2.symm.trans (get_map_ref hr1))
      subst e2'
      have e1' : u = .int (i : Nat) := (Option.some.inj e1).symm
      subst e1'
      have hml : L[i].length = m := hO.len _ (List.getElem_mem _)
      have hk' : k < L[i].length := by omega
      obtain ⟨vk, hvk, hak⟩ := ha.at_ hk'
      have s2 := sx.trans (same_upd (o := .tup [.int (i : Nat), .ref r]) nT)
      have act : ActOk L.length i L[i][k] := hO.ok i _ (List.getElem?_eq_getElem hi') _ (List.getElem_mem hk')
      have eA := actAt_eq hi' hk'
      have hM2 := (same_upd (o := .tup [.int (i : Nat), .ref r]) nT) _ _ hM
      have skip : ∀ H' : Hp, Same (upd Hx T (.tup [.int (i : Nat), .ref r])) H' → pr L s k i = false → Same H H' ∧ H' M = some (.lst ((((List.range (i + 1)).filter (pr L s k)).map fun j : Nat => (j : Int)).map V.int)) := fun H' s' e => ⟨s2.trans s', by
        rw [List.range_succ, List.filter_append, List.filter_cons_of_neg (by rw [e]; decide), List.filter_nil, List.append_nil]; exact s' _ _ hM2⟩
      refine ⟨T, _, rfl, SqT.of upd_same, rfl, _, _, rfl, _, _, rfl, rfl, ?_⟩
      refine ⟨rfl, _, rfl, _, rfl, r, vs, (k : Int), vk, rfl, rfl, SqL.of (s2 _ _ hvs), atI_nat hvk, _, _, (hak.keep (Tk.of s2)).dp, .str _, shaped_act act, by decide +kernel, !isThr L[i][k], by rw [eqv_thr], ?_⟩
      cases ht : isThr L[i][k] with
      | true => exact iteF (iteF (skip _ (Same.refl _) (by unfold pr; rw [eA, ht]; rfl)))
      | false =>
        refine iteT ⟨_, rfl, pp, dx, _, rfl, s2 _ _ h1, f_no (by decide +kernel), _, rfl, pp, c, l, d, e, n, s, (L.length : Int), i, rfl, hP.same s2, hB, by omega, hbl, fun H5 s5 => ⟨_, rfl, ?_⟩⟩
        cases ho : onL s i with
        | false => exact iteF (skip _ s5 (by unfold pr; rw [eA, ht, ho]; rfl))
        | true =>
          have pt : pr L s k i = true := by unfold pr; rw [eA, ht, ho]; rfl
          refine iteT ⟨_, rfl, _, s5 _ _ hM2, ?_, Same.off (s2.trans s5) nM off_upd, ?_⟩
          · rw [List.length_map, List.length_map]
            refine small1000 (Nat.le_trans (List.length_filter_le ..) ?_)
            rw [List.length_range]; omega
          · rw [upd_same, List.range_succ, List.filter_append, List.filter_cons_of_pos (by rw [pt]), List.filter_nil, List.map_append, List.map_append]
            rfl
    · obtain ⟨s3, hM⟩ := p
      rw [hlen] at hM
      have hM : H3 M = some (.lst (((filt L s k).map fun j : Nat => (j : Int)).map V.int)) := hM
      have z0 := filt_zero hO s hk
      have hne : filt L s k ≠ [] := fun z => by rw [z] at z0; cases z0
      obtain ⟨f1, f2⟩ := filt_last hne
      refine ⟨M, (filt L s k).map fun j : Nat => (j : Int), rfl, SqL.of hM, ?_, fun mx hm hmax => ?_⟩
      · rw [List.length_map]
        exact List.length_pos_iff.mpr hne
      have em : mx = ((takenL L s k : Nat) : Int) := by
        obtain ⟨j, hj, rfl⟩ := List.mem_map.mp hm
        have a1 := f2 j hj
        have a2 := hmax _ (List.mem_map.mpr ⟨_, f1, rfl⟩)
        omega
      subst em
      have ht : takenL L s k < L.length := List.mem_range.mp (List.mem_filter.mp f1).1
      obtain ⟨r, hr1, vs, hvs, ha⟩ := hR.at_ ht
      have hml : L[takenL L s k].length = m := hO.len _ (List.getElem_mem _)
      have hk' : k < L[takenL L s k].length := by omega
      obtain ⟨vk, hvk, hak⟩ := ha.at_ hk'
      refine ⟨_, rfl, _, rfl, pp, C, dx, _, _, rfl, s3 _ _ h1, cp.cl, cp.n1, f_lay, _, rfl, c, _, _, .ref r, rfl, rfl, SqL.of (s3 _ _ hc), atI_nat (get_map_ref hr1), _, rfl, r, vs, (k : Int), vk, rfl, rfl, SqL.of (s3 _ _ hvs), atI_nat hvk, (by show 2 ≤ sizeLine; decide), fun T nT => ?_⟩
      refine q _ T vk (s3.trans (same_upd nT)) upd_same ?_
      rw [actAt_eq ht hk']
      exact hak.keep (Tk.of (s3.trans (same_upd nT)))
end
end K86

set_option Elab.async false
set_option linter.all false
set_option maxRecDepth 100000
set_option maxHeartbeats 8000000
namespace K86
open PySem PySem.Spec PyProof.Rows L2 Gd Rm La Cb Pl
/-- only a player's own objects change -/
def Off4 (p l d e : Addr) (H H' : Hp) : Prop := ∀ b o, H b = some o → b ≠ p → b ≠ l → b ≠ d → b ≠ e → H' b = some o
theorem Off4.refl {p l d e : Addr} (H : Hp) : Off4 p l d e H H := fun _ _ h _ _ _ _ => h
theorem Off4.trans {p l d e : Addr} {H H1 H2 : Hp} (a : Off4 p l d e H H1) (b : Off4 p l d e H1 H2) : Off4 p l d e H H2 := fun x o h n1 n2 n3 n4 => b x o (a x o h n1 n2 n3 n4) n1 n2 n3 n4
theorem Off4.of {p l d e : Addr} {H H' : Hp} (s : Same H H') : Off4 p l d e H H' := fun b o h _ _ _ _ => s b o h
theorem Off4.upd {p l d e x : Addr} {H : Hp} {o : HO} (h : x = p ∨ x = l ∨ x = d ∨ x = e) : Off4 p l d e H (upd H x o) := fun b u hb n1 n2 n3 n4 => by
  rw [upd_ne (by rcases h with rfl | rfl | rfl | rfl <;> assumption)]
  exact hb
theorem PAt.tk {C : Addr} {H H' : Hp} {p c l d e : Addr} {n : Nat} {s : Sm} (h : PAt C H p c l d e n s) (o : Off4 p l d e H H') : Tk H H' := fun b xs hb => by
  obtain ⟨⟨dx, a⟩, b1, ⟨kvs, c1, _⟩, ⟨pvs, d1, _⟩, _⟩ := h
  exact o _ _ hb (ne_of hb a (by intro z; cases z)) (ne_of hb b1 (by intro z; cases z)) (ne_of hb c1 (by intro z; cases z)) (ne_of hb d1 (by intro z; cases z))
/-- what comes out of an event: nothing, a press, a release -/
inductive Outp where
  | no
  | pr (c : Str)
  | re (c : Str)
def outL : Outp → List V
  | .no => []
  | .pr c => [.str "press", .str c]
  | .re c => [.str "release", .str c]
def OutV (H : Hp) (o : Outp) (v : V) : Prop := ∃ T, v = .ref T ∧ H T = some (.tup (outL o))
def outP : Actn → Outp
  | .code c => .pr c
  | _ => .no
/-- what a down may do in the end -/
def DoOk (m : Nat) : Actn → Prop
  | .none => True
  | .code c => CodeOk c
  | .lay w j => w ∈ layWords ∧ 1 ≤ j ∧ j < m
  | _ => False
theorem DoOk.act {m : Nat} {x : Actn} (h : DoOk m x) : ActOk m 0 x := by
  cases x with
  | none => trivial
  | code c => exact h
  | lay w j => exact ⟨h.1, h.2.1, by have := h.2.2; omega⟩
  | thr => exact h.elim
  | dualC _ _ _ _ => exact h.elim
  | dualL _ _ _ _ => exact h.elim
def isNo : Actn → Bool
  | .none => true
  | _ => false
theorem eqv_no : ∀ x : Actn, PyData.eqv (actD x) (.str "none") = isNo x
  | .none => by decide +kernel
  | .thr => by decide +kernel
  | .code _ => rfl
  | .lay _ _ => rfl
  | .dualC _ _ _ _ => rfl
  | .dualL _ _ _ _ => rfl
theorem press_lay {s : Sm} {k : Int} {w : Str} {j : Int} : press s k (.lay w j) = if w = ("layer" : String) then { s with on := 0, bd := putB s.bd k (.lay w j) } else if w = ("lock" : String) then { s with on := 0, lk := s.lk.set j.toNat (!s.lk.getD j.toNat false) } else { s with on := j } := rfl
section
variable {P : Program} {w : World} {K : PySem.W.Frag} {mg : Str → Option Value} {base : Heap}
def spPress (C : Addr) : Sp := fun vs H Q _ => ∃ (p c l d e : Addr) (n : Nat) (s : Sm) (key : Int) (v : V) (x : Actn), vs = [.ref p, .int key, v] ∧ PAt C H p c l d e n s ∧ ActV H x v ∧ DoOk s.lk.length x ∧ s.lk.length ≤ 6 ∧ s.bd.length ≤ 500 ∧ n ≤ 500 ∧
  ∀ (H' : Hp) (o : V), PAt C H' p c l d e (n + 1) (press s key x) → Off4 p l d e H H' → OutV H' (outP x) o → Q o H'
theorem ok_press (bt : Bt mg) {C : Addr} (cp : Cp K C) {tk : Tok} (m_NO_LAYER : mg "NO_LAYER" = some (.int 0 tk)) (a : AtM K C "press" "Player.press" s_press ["self", "key", "what"]) : ClM P w K mg base 1 C "press" (spPress C) := by
  refine clMG a sc_press (fun vs H Q E h => ?_) (fun f cdv A outer s H vs Q hg hr h => ?_)
  · obtain ⟨p, c, l, d, e, n, s, key, v, x, rfl, _⟩ := h
    rfl
  · obtain ⟨p, c, l, d, e, n, s, key, v, x, rfl, hP, hv, hx, h6, hbl, hn, q⟩ := h
    refine ⟨_, (pss_cons (ps_fld (pv 0) (pe_glob (v := .int 0) (by rfl) m_NO_LAYER ⟨_, rfl⟩) rfl)
      (pss_cons (ps_if (pt_cmpR (op_eqD hr.units) (pv 2) pe_str (nomark _)) (pss_one (ps_ret (pe_tup pa_nil))) pss_nil)
      (pss_cons (ps_asg (pv 2) (pg_tup rfl (pgs_cons (pg_name (i := 3) sc_press.nd rfl (Or.inl rfl)) (pgs_cons (pg_name (i := 4) sc_press.nd rfl (Or.inl rfl)) pgs_nil))))
      (pss_cons (ps_if (pt_cmpR op_eq (pv 3) pe_str (nomark _)) (pss_cons (ps_dput (hu_of hr) (pe_fld (pv 0) rfl) (pv 1) (pv 2) rfl)
      (pss_cons (ps_dput (hu_of hr) (pe_fld (pv 0) rfl) (pv 4) (pe_op op_add (pe_dget2 (hu_of hr) (pe_fld (pv 0) rfl) (pv 4) pe_int ⟨rfl, rfl, rfl, rfl⟩) pe_int) rfl)
      (pss_one (ps_ret (pe_tup (pa_cons pe_str (pa_cons (pv 4) pa_nil))))))) pss_nil)
      (C8.pss_cut (ps_if (pt_cmpR op_eq (pv 3) pe_str (nomark _)) (pss_one (ps_dput (hu_of hr) (pe_fld (pv 0) rfl) (pv 1) (pv 2) rfl)) (pss_one (ps_if (pt_cmpR op_eq (pv 3) pe_str (nomark _)) (pss_one (ps_asg (pe_not (pe_ix ix_list (pe_fld (pv 0) rfl) (pv 4) (fun _ _ => rfl))) (pg_sub (pe_fld (pv 0) rfl) (pv 4) set_list))) (pss_one (ps_fld (pv 0) (pv 4) rfl)))))
      (pss_one (ps_ret (pe_tup pa_nil)))))))), ?_⟩
    obtain ⟨⟨dx, h1⟩, h2, ⟨kvs, h3, h3b⟩, ⟨pvs, h4, h4n, h4c, h4i⟩, hde⟩ := id hP
    have pl : p ≠ l := ne_of h1 h2 (by intro z; cases z)
    have pd : p ≠ d := ne_of h1 h3 (by intro z; cases z)
    have pe : p ≠ e := ne_of h1 h4 (by intro z; cases z)
    have ld : l ≠ d := ne_of h2 h3 (by intro z; cases z)
    have le : l ≠ e := ne_of h2 h4 (by intro z; cases z)
    refine ⟨_, rfl, p, C, dx, _, rfl, h1, cp.cl, cp.n3, (by show 5 < 1000; decide), ?_⟩
    rw [f_put]
    have oA : Off4 p l d e H (upd H p (.ins C dx (flds c l 0 d e))) := Off4.upd (.inl rfl)
    have PA0 : PAt C (upd H p (.ins C dx (flds c l 0 d e))) p c l d e n { s with on := 0 } := ⟨⟨dx, upd_same⟩, by rw [upd_ne pl.symm]; exact h2, ⟨kvs, by rw [upd_ne pd.symm]; exact h3, h3b.keep (hP.tk oA)⟩, ⟨pvs, by rw [upd_ne pe.symm]; exact h4, h4n, h4c, h4i⟩, hde⟩
    refine (fun (X : ∀ H1 : Hp, Off4 p l d e H H1 → PAt C H1 p c l d e n { s with on := 0 } → _) => X _ oA PA0) (fun H1 oA PA0 => ?_)
    have hv1 := hv.keep (hP.tk oA)
    clear h1 h2 h3 h3b h4 h4n h4c h4i
    have hbl' : ({ s with on := 0 } : Sm).bd.length ≤ 500 := hbl
    obtain ⟨⟨dx, h1⟩, h2, ⟨kvs, h3, h3b⟩, ⟨pvs, h4, h4n, h4c, h4i⟩, _⟩ := id PA0
    refine ⟨_, rfl, _, _, hv1.dp, .str _, shaped_act hx.act, by decide +kernel, isNo x, congrArg V.bl (eqv_no x), ?_⟩
    have nothing : ∀ (H2 : Hp) (s' : Sm), press s key x = s' → outP x = .no → PAt C H2 p c l d e n s' → Off4 p l d e H H2 → ∀ T : Addr, H2 T = none → Q (.ref T) (upd H2 T (.tup [])) := fun H2 s' e1 e2 P2 o2 T nT => by
      obtain ⟨b1, b2, b3, ⟨b4, b5, b6, b7⟩, b8⟩ := P2.same (same_upd (o := .tup []) nT)
      exact q _ _ (by rw [e1]; exact ⟨b1, b2, b3, ⟨b4, b5, by omega, b7⟩, b8⟩) (o2.trans (Off4.of (same_upd nT))) (by rw [e2]; exact ⟨T, rfl, upd_same⟩)
    cases x with
    | none => exact iteT ⟨Nat.zero_le _, fun T nT => nothing H1 _ rfl rfl PA0 oA T nT⟩
    | thr => exact hx.elim
    | dualC _ _ _ _ => exact hx.elim
    | dualL _ _ _ _ => exact hx.elim
    | code y =>
      refine iteF ?_
      obtain ⟨a, rfl, ha⟩ := hv1
      refine ⟨_, rfl, a, _, rfl, SqT.of ha, rfl, _, _, rfl, _, _, rfl, rfl, ?_⟩
      refine ⟨_, rfl, rfl, true, rfl, iteT ?_⟩
      refine ⟨_, rfl, _, rfl, p, C, dx, _, _, rfl, h1, cp.cl, cp.n4, f_bound, _, rfl, d, _, rfl, DPut.k (k := Sum.inl key) h3 (small1000 (by have := h3b.length; omega)), ?_⟩
      have hkl : (putK kvs (Sum.inl key) (.ref a)).length ≤ 600 := by
        have := put_len kvs (Sum.inl key) (.ref a)
        have := h3b.length
        omega
      have h1' : upd H1 d (.dK (putK kvs (Sum.inl key) (.ref a))) p = some (.ins C dx (flds c l 0 d e)) := by rw [upd_ne pd]; exact h1
      have h4' : upd H1 d (.dK (putK kvs (Sum.inl key) (.ref a))) e = some (.dK pvs) := by rw [upd_ne hde.symm]; exact h4
      obtain ⟨z, hz⟩ : ∃ z, (valV pvs (Sum.inr y)).getD (.int 0) = .int z := by
        cases hh : valV pvs (Sum.inr y) with
        | none => exact ⟨0, rfl⟩
        | some v =>
          obtain ⟨z, rfl⟩ := h4i _ _ hh
          exact ⟨z, rfl⟩
      refine ⟨_, rfl, p, C, dx, _, _, rfl, h1', cp.cl, cp.n5, f_pressed, e, rfl, .inl ⟨pvs, .inl h4'⟩, _, rfl, _, DGet.k (k := Sum.inr y) h4', ?_⟩
      rw [hz]
      refine ⟨_, _, rfl, rfl, _, rfl, p, C, dx, _, _, rfl, h1', cp.cl, cp.n5, f_pressed, _, rfl, e, _, rfl, DPut.k (k := Sum.inr y) h4' (small1000 (by omega)), ?_⟩
      refine ⟨_, rfl, (by show 2 ≤ sizeLine; decide), fun T nT => ?_⟩
      have oB : Off4 p l d e H (upd (upd H1 d (.dK (putK kvs (Sum.inl key) (.ref a)))) e (.dK (putK pvs (Sum.inr y) (.int (z + 1))))) := oA.trans ((Off4.upd (.inr (.inr (.inl rfl)))).trans (Off4.upd (.inr (.inr (.inr rfl)))))
      have tB : Tk H1 (upd (upd H1 d (.dK (putK kvs (Sum.inl key) (.ref a)))) e (.dK (putK pvs (Sum.inr y) (.int (z + 1))))) := PA0.tk ((Off4.upd (.inr (.inr (.inl rfl)))).trans (Off4.upd (.inr (.inr (.inr rfl)))))
      have PB : PAt C (upd (upd H1 d (.dK (putK kvs (Sum.inl key) (.ref a)))) e (.dK (putK pvs (Sum.inr y) (.int (z + 1))))) p c l d e (n + 1) (press s key (.code y)) := by
        refine ⟨⟨dx, by rw [upd_ne pe, upd_ne pd]; exact h1⟩, by rw [upd_ne le, upd_ne ld]; exact h2, ⟨_, by rw [upd_ne hde]; exact upd_same, ?_⟩, ⟨_, upd_same, ?_, ?_, ?_⟩, hde⟩
        · exact (h3b.keep tB).put ⟨a, rfl, tB _ _ ha⟩
        · have := put_len pvs (Sum.inr y) (.int (z + 1)); omega
        · intro q' hq' x' hx'
          rw [valV_put]
          by_cases e1 : x' = y
          · rw [if_pos (by rw [e1])]; exact ⟨_, rfl⟩
          · rw [if_neg (fun zz => e1 (Sum.inr.inj zz))]
            rcases putB_mem hq' with h | h
            · exact h4c q' h x' hx'
            · rw [h] at hx'
              exact absurd (Actn.code.inj hx').symm e1
        · intro k v hk
          rw [valV_put] at hk
          by_cases e1 : k = Sum.inr y
          · rw [if_pos e1] at hk
            exact ⟨_, (Option.some.inj hk).symm⟩
          · rw [if_neg e1] at hk
            exact h4i k v hk
      exact q _ _ (PB.same (same_upd nT)) (oB.trans (Off4.of (same_upd nT))) ⟨T, rfl, upd_same⟩
    | lay u j =>
      refine iteF ?_
      obtain ⟨a, rfl, ha⟩ := hv1
      obtain ⟨x1, x2, x3⟩ := hx
      have hu : decide (u = (("code" : String) : Str)) = false := by
        refine decide_eq_false ?_
        rintro rfl
        revert x1
        decide +kernel
      refine ⟨_, rfl, a, _, rfl, SqT.of ha, rfl, _, _, rfl, _, _, rfl, rfl, ?_⟩
      refine ⟨_, rfl, rfl, false, eqS hu, iteF ?_⟩
      refine ⟨fun σ' H' => PAt C H' p c l d e n (press s key (.lay u j)) ∧ Off4 p l d e H H', ?_, ?_⟩
      · by_cases w1 : u = (("layer" : String) : Str)
        · refine ⟨_, rfl, rfl, true, eqS (decide_eq_true w1), iteT ?_⟩
          refine ⟨_, rfl, _, rfl, p, C, dx, _, _, rfl, h1, cp.cl, cp.n4, f_bound, _, rfl, d, _, rfl, DPut.k (k := Sum.inl key) h3 (small1000 (by have := h3b.length; omega)), ?_⟩
          have oB : Off4 p l d e H1 (upd H1 d (.dK (putK kvs (Sum.inl key) (.ref a)))) := Off4.upd (.inr (.inr (.inl rfl)))
          have tB := PA0.tk oB
          refine ⟨?_, oA.trans oB⟩
          rw [press_lay, if_pos w1]
          refine ⟨⟨dx, by rw [upd_ne pd]; exact h1⟩, by rw [upd_ne ld]; exact h2, ⟨_, upd_same, (h3b.keep tB).put ⟨a, rfl, tB _ _ ha⟩⟩, ⟨pvs, by rw [upd_ne hde.symm]; exact h4, h4n, fun q' hq' x' hx' => ?_, h4i⟩, hde⟩
          rcases putB_mem hq' with h | h
          · exact h4c q' h x' hx'
          · rw [h] at hx'; cases hx'
        · refine ⟨_, rfl, rfl, false, eqS (decide_eq_false w1), iteF ?_⟩
          by_cases w2 : u = (("lock" : String) : Str)
          · refine ⟨_, rfl, rfl, true, eqS (decide_eq_true w2), iteT ?_⟩
            have hj : j = ((j.toNat : Nat) : Int) := by omega
            have hj' : j.toNat < s.lk.length := by omega
            have hix : ixN (s.lk.map V.bl).length j = some j.toNat := by
              rw [List.length_map]
              unfold ixN
              rw [if_pos (by omega), if_pos (by omega)]
            refine ⟨_, rfl, p, C, dx, _, _, rfl, h1, cp.cl, cp.n2, f_lock, _, rfl, l, _, j, _, rfl, rfl, SqL.of h2, (by rw [hj]; exact atI_nat (bl_at hj')), ?_⟩
            refine ⟨_, rfl, _, rfl, p, C, dx, _, _, rfl, h1, cp.cl, cp.n2, f_lock, _, rfl, l, _, j, j.toNat, rfl, rfl, h2, hix, ?_⟩
            have oB : Off4 p l d e H1 (upd H1 l (.lst ((s.lk.map V.bl).set j.toNat (.bl (!s.lk.getD j.toNat false))))) := Off4.upd (.inr (.inl rfl))
            have tB := PA0.tk oB
            refine ⟨?_, oA.trans oB⟩
            rw [press_lay, if_neg w1, if_pos w2]
            exact ⟨⟨dx, by rw [upd_ne pl]; exact h1⟩, by rw [upd_same, List.map_set], ⟨kvs, by rw [upd_ne ld.symm]; exact h3, h3b.keep tB⟩, ⟨pvs, by rw [upd_ne le.symm]; exact h4, h4n, h4c, h4i⟩, hde⟩
          · refine ⟨_, rfl, rfl, false, eqS (decide_eq_false w2), iteF ?_⟩
            refine ⟨_, rfl, _, rfl, p, C, dx, _, rfl, h1, cp.cl, cp.n3, (by show 5 < 1000; decide), ?_⟩
            rw [f_put]
            have oB : Off4 p l d e H1 (upd H1 p (.ins C dx (flds c l j d e))) := Off4.upd (.inl rfl)
            have tB := PA0.tk oB
            refine ⟨?_, oA.trans oB⟩
            rw [press_lay, if_neg w1, if_neg w2]
            exact ⟨⟨dx, upd_same⟩, by rw [upd_ne pl.symm]; exact h2, ⟨kvs, by rw [upd_ne pd.symm]; exact h3, h3b.keep tB⟩, ⟨pvs, by rw [upd_ne pe.symm]; exact h4, h4n, h4c, h4i⟩, hde⟩
      · rintro σ' H2 ⟨P2, o2⟩
        exact ⟨Nat.zero_le _, fun T nT => nothing H2 _ rfl rfl P2 o2 T nT⟩
def relO (s : Sm) (key : Int) : Outp := match getB s.bd key with | some (.code c) => .re c | _ => .no
def spRelease (C : Addr) : Sp := fun vs H Q _ => ∃ (p c l d e : Addr) (n : Nat) (s : Sm) (m : Int) (key : Int), vs = [.ref p, .int key] ∧ PAt C H p c l d e n s ∧ BdsOk m s.bd ∧ n ≤ 500 ∧
  ∀ (H' : Hp) (o : V), PAt C H' p c l d e (n + 1) (release s key) → Off4 p l d e H H' → OutV H' (relO s key) o → Q o H'
theorem ok_release (bt : Bt mg) {C : Addr} (cp : Cp K C) {tk : Tok} (m_NO_LAYER : mg "NO_LAYER" = some (.int 0 tk)) (a : AtM K C "release" "Player.release" s_release ["self", "key"]) : ClM P w K mg base 1 C "release" (spRelease C) := by
  refine clMG a sc_release (fun vs H Q E h => ?_) (fun f cdv A outer s H vs Q hg hr h => ?_)
  · obtain ⟨p, c, l, d, e, n, s, m, key, rfl, _⟩ := h
    rfl
  · obtain ⟨p, c, l, d, e, n, s, m, key, rfl, hP, hB, hn, q⟩ := h
    refine ⟨_, (pss_cons (ps_asg (pe_dpop2 (pe_fld (pv 0) rfl) (pv 1) (pe_tup (pa_cons pe_str (pa_cons (pe_glob (v := .int 0) (by rfl) m_NO_LAYER ⟨_, rfl⟩) pa_nil))) ⟨rfl, rfl, rfl, rfl⟩) (pg_tup rfl (pgs_cons (pg_name (i := 2) sc_release.nd rfl (Or.inl rfl)) (pgs_cons (pg_name (i := 3) sc_release.nd rfl (Or.inl rfl)) pgs_nil))))
      (pss_cons (ps_if (pt_cmpR op_ne (pv 2) pe_str (nomark _)) (pss_one (ps_ret (pe_tup pa_nil))) pss_nil)
      (pss_cons (ps_dput (hu_of hr) (pe_fld (pv 0) rfl) (pv 3) (pe_op op_sub (pe_dget (hu_of hr) (pe_fld (pv 0) rfl) (pv 3) (fun _ _ => rfl)) pe_int) rfl)
      (pss_one (ps_ret (pe_tup (pa_cons pe_str (pa_cons (pv 3) pa_nil)))))))), ?_⟩
    obtain ⟨⟨dx, h1⟩, h2, ⟨kvs, h3, h3b⟩, ⟨pvs, h4, h4n, h4c, h4i⟩, hde⟩ := id hP
    have pl : p ≠ l := ne_of h1 h2 (by intro z; cases z)
    have pd : p ≠ d := ne_of h1 h3 (by intro z; cases z)
    have pe : p ≠ e := ne_of h1 h4 (by intro z; cases z)
    have ld : l ≠ d := ne_of h2 h3 (by intro z; cases z)
    have le : l ≠ e := ne_of h2 h4 (by intro z; cases z)
    refine ⟨_, rfl, p, C, dx, _, _, rfl, h1, cp.cl, cp.n4, f_bound, d, rfl, .inl ⟨kvs, .inl h3⟩, _, rfl, (by show 2 ≤ sizeLine; decide), fun T nT => ?_⟩
    have sT := same_upd (o := .tup [.str "none", .int 0]) nT
    have oT := Off4.of (p := p) (l := l) (d := d) (e := e) sT
    have PT := hP.same sT
    have hT := upd_same (H := H) (a := T) (o := .tup [.str "none", .int 0])
    refine (fun (X : ∀ H1 : Hp, PAt C H1 p c l d e n s → Off4 p l d e H H1 → H1 T = some (.tup [.str "none", .int 0]) → H1 d = some (.dK kvs) → _) => X _ PT oT hT (sT _ _ h3)) (fun H1 P1 o1 hT h3 => ?_)
    clear h1 h2 h3b h4 h4n h4c h4i PT oT sT nT
    obtain ⟨⟨dx, h1⟩, h2, ⟨kvs', h3', h3b⟩, ⟨pvs, h4, h4n, h4c, h4i⟩, _⟩ := id P1
    cases HO.dK.inj (Option.some.inj (h3.symm.trans h3'))
    have dropped : release s key = { s with bd := dropB s.bd key } := rfl
    have PD : ∀ H2 : Hp, H2 = upd H1 d (.dK (dropK kvs (Sum.inl key))) → PAt C H2 p c l d e n (release s key) := fun H2 e2 => by
      subst e2
      have oB : Off4 p l d e H1 (upd H1 d (.dK (dropK kvs (Sum.inl key)))) := Off4.upd (.inr (.inr (.inl rfl)))
      exact ⟨⟨dx, by rw [upd_ne pd]; exact h1⟩, by rw [upd_ne ld]; exact h2, ⟨_, upd_same, (h3b.keep (P1.tk oB)).drop key⟩, ⟨pvs, by rw [upd_ne hde.symm]; exact h4, h4n, fun q' hq' => h4c q' (dropB_mem hq'), h4i⟩, hde⟩
    have nothing : ∀ (H2 : Hp), relO s key = .no → PAt C H2 p c l d e n (release s key) → Off4 p l d e H H2 → ∀ T : Addr, H2 T = none → Q (.ref T) (upd H2 T (.tup [])) := fun H2 e2 P2 o2 T nT => by
      obtain ⟨b1, b2, b3, ⟨b4, b5, b6, b7⟩, b8⟩ := P2.same (same_upd (o := .tup []) nT)
      exact q _ _ ⟨b1, b2, b3, ⟨b4, b5, by omega, b7⟩, b8⟩ (o2.trans (Off4.of (same_upd nT))) (by rw [e2]; exact ⟨T, rfl, upd_same⟩)
    refine ⟨kvs, Sum.inl key, h3, rfl, fun v hv => ?_, fun hv => ?_⟩
    · rcases h3b.get key with ⟨g1, _⟩ | ⟨v', x, g1, g2, g3⟩
      · rw [g1] at hv; cases hv
      rw [g1] at hv
      cases hv
      obtain ⟨q0, hq0, e1, e2⟩ := getB_mem g2
      have hbx := hB q0 hq0
      rw [e2] at hbx
      have oB : Off4 p l d e H1 (upd H1 d (.dK (dropK kvs (Sum.inl key)))) := Off4.upd (.inr (.inr (.inl rfl)))
      have tB := P1.tk oB
      cases x with
      | none => exact hbx.elim
      | thr => exact hbx.elim
      | dualC _ _ _ _ => exact hbx.elim
      | dualL _ _ _ _ => exact hbx.elim
      | lay u j =>
        obtain ⟨a, rfl, ha⟩ := g3
        obtain ⟨rfl, _⟩ := hbx
        refine ⟨a, _, rfl, SqT.of (tB _ _ ha), rfl, _, _, rfl, _, _, rfl, rfl, ?_⟩
        refine ⟨_, rfl, rfl, true, by decide +kernel, iteT ⟨Nat.zero_le _, fun T2 n2 => nothing _ (by unfold relO; rw [g2]) (PD _ rfl) (o1.trans oB) T2 n2⟩⟩
      | code y =>
        obtain ⟨a, rfl, ha⟩ := g3
        refine ⟨a, _, rfl, SqT.of (tB _ _ ha), rfl, _, _, rfl, _, _, rfl, rfl, ?_⟩
        refine ⟨_, rfl, rfl, false, by decide +kernel, iteF ?_⟩
        obtain ⟨z, hz⟩ := h4c q0 hq0 y e2
        have h1' : upd H1 d (.dK (dropK kvs (Sum.inl key))) p = some (.ins C dx (flds c l s.on d e)) := by rw [upd_ne pd]; exact h1
        have h4' : upd H1 d (.dK (dropK kvs (Sum.inl key))) e = some (.dK pvs) := by rw [upd_ne hde.symm]; exact h4
        refine ⟨_, rfl, p, C, dx, _, _, rfl, h1', cp.cl, cp.n5, f_pressed, _, rfl, e, _, rfl, (by have := DGet.k (k := (Sum.inr y : Key)) h4'; rw [hz] at this; exact this), ?_⟩
        refine ⟨_, _, rfl, rfl, _, rfl, p, C, dx, _, _, rfl, h1', cp.cl, cp.n5, f_pressed, _, rfl, e, _, rfl, DPut.k (k := Sum.inr y) h4' (small1000 (by omega)), ?_⟩
        refine ⟨_, rfl, (by show 2 ≤ sizeLine; decide), fun T2 n2 => ?_⟩
        have oC : Off4 p l d e (upd H1 d (.dK (dropK kvs (Sum.inl key)))) (upd (upd H1 d (.dK (dropK kvs (Sum.inl key)))) e (.dK (putK pvs (Sum.inr y) (.int (z - 1))))) := Off4.upd (.inr (.inr (.inr rfl)))
        have PE : PAt C (upd (upd H1 d (.dK (dropK kvs (Sum.inl key)))) e (.dK (putK pvs (Sum.inr y) (.int (z - 1))))) p c l d e (n + 1) (release s key) := by
          obtain ⟨b1, b2, ⟨k2, b3, b3'⟩, ⟨b4, b5, b6, b7⟩, b8⟩ := PD _ rfl
          refine ⟨⟨dx, by rw [upd_ne pe]; exact h1'⟩, by rw [upd_ne le, upd_ne ld]; exact h2, ⟨k2, by rw [upd_ne hde]; exact b3, b3'.keep ((PD _ rfl).tk oC)⟩, ⟨_, upd_same, ?_, ?_, ?_⟩, hde⟩
          · have := put_len pvs (Sum.inr y) (.int (z - 1)); omega
          · intro q' hq' x' hx'
            rw [valV_put]
            by_cases e1 : x' = y
            · rw [if_pos (by rw [e1])]; exact ⟨_, rfl⟩
            · rw [if_neg (fun zz => e1 (Sum.inr.inj zz))]
              exact h4c q' (dropB_mem hq') x' hx'
          · intro k v hk
            rw [valV_put] at hk
            by_cases e1 : k = Sum.inr y
            · rw [if_pos e1] at hk
              exact ⟨_, (Option.some.inj hk).symm⟩
            · rw [if_neg e1] at hk
              exact h4i k v hk
        exact q _ _ (PE.same (same_upd n2)) (((o1.trans oB).trans oC).trans (Off4.of (same_upd n2))) (by unfold relO; rw [g2]; exact ⟨T2, rfl, upd_same⟩)
    · rcases h3b.get key with ⟨_, g2⟩ | ⟨v', x, g1, _⟩
      · have eb : release s key = s := by
          unfold Pl.release
          have : dropB s.bd key = s.bd := by
            unfold dropB
            rw [List.filter_eq_self]
            intro p' hp'
            unfold getB at g2
            rw [Option.map_eq_none_iff, List.find?_eq_none] at g2
            have := g2 p' hp'
            simpa using this
          rw [this]
        refine ⟨T, _, rfl, SqT.of hT, rfl, _, _, rfl, _, _, rfl, rfl, ?_⟩
        refine ⟨_, rfl, rfl, true, by decide +kernel, iteT ⟨Nat.zero_le _, fun T2 n2 => nothing H1 (by unfold relO; rw [g2]) (by rw [eb]; exact P1) o1 T2 n2⟩⟩
      · rw [g1] at hv; cases hv
end
end K86

set_option Elab.async false
set_option linter.all false
set_option maxRecDepth 100000
set_option maxHeartbeats 8000000
namespace K86
open PySem PySem.Spec PyProof.Rows L2 Gd Rm La Cb Pl
def optN : Option Nat → V
  | none => .non
  | some n => .int (n : Int)
theorem two {T G : Prop} (f : G → T) (g : G) : T := f g
theorem what_plain {x : Actn} : whatM x "plain" = x := if_pos rfl
theorem what_tap {x : Actn} : whatM x "tap" = tapOf x := by
  unfold whatM
  rw [if_neg (by decide +kernel), if_pos rfl]
theorem what_hold {x : Actn} : whatM x "hold" = holdOf x := by
  unfold whatM
  rw [if_neg (by decide +kernel), if_neg (by decide +kernel)]
section
variable {P : Program} {w : World} {K : PySem.W.Frag} {mg : Str → Option Value} {base : Heap}
def spWhat : Sp := fun vs H Q _ => ∃ (v : V) (x : Actn) (kind : Str), vs = [v, .str kind] ∧ ActV H x v ∧ (kind = ("plain" : String) ∨ (isDl x = true ∧ (kind = ("tap" : String) ∨ kind = ("hold" : String)))) ∧ ∀ H' v', Same H H' → ActV H' (whatM x kind) v' → Q v' H'
theorem ok_what_is_done (a : At K mg "what_is_done" s_what_is_done ["action", "kind"]) : Cl P w K mg base 1 "what_is_done" spWhat := by
  refine clG a sc_what_is_done (fun vs H Q E h => ?_) (fun f cdv A outer s H vs Q hg hr h => ?_)
  · obtain ⟨v, x, kind, rfl, _⟩ := h
    rfl
  · obtain ⟨v, x, kind, rfl, hv, hk, q⟩ := h
    refine ⟨_, (pss_cons (ps_if (pt_cmpR op_eq (pv 1) pe_str (nomark _)) (pss_one (ps_ret (pv 0))) pss_nil)
      (pss_cons (ps_if (pt_cmpR op_eq (pv 1) pe_str (nomark _)) (pss_one (ps_ret (pe_tup (pa_cons pe_str (pa_cons (pe_ix ix_tup (pv 0) pe_int (fun _ _ => rfl)) pa_nil))))) pss_nil)
      (pss_one (ps_ret (pe_ix ix_tup (pv 0) pe_int (fun _ _ => rfl)))))), ?_⟩
    rcases hk with rfl | ⟨hd, hk⟩
    · refine ⟨_, rfl, rfl, true, by decide +kernel, iteT ⟨_, rfl, q _ _ (Same.refl _) (by rw [what_plain]; exact hv)⟩⟩
    · have two : ∃ (a b : Addr) (c r : Str) (t : Int), v = .ref a ∧ H a = some (.tup [.str "dual", .str c, .ref b, .int t, .str r]) ∧ tapOf x = .code c ∧ ActV H (holdOf x) (.ref b) := by
        cases x with
        | dualC c d t r =>
          obtain ⟨a, b, e1, e2, e3⟩ := hv
          exact ⟨a, b, c, r, t, e1, e2, rfl, ⟨b, rfl, e3⟩⟩
        | dualL c j t r =>
          obtain ⟨a, b, e1, e2, e3⟩ := hv
          exact ⟨a, b, c, r, t, e1, e2, rfl, ⟨b, rfl, e3⟩⟩
        | _ => cases hd
      obtain ⟨a, b, c, r, t, rfl, ha, ht, hb⟩ := two
      rcases hk with rfl | rfl
      · refine ⟨_, rfl, rfl, false, by decide +kernel, iteF ⟨_, rfl, rfl, true, by decide +kernel, iteT ?_⟩⟩
        refine ⟨_, rfl, a, _, 1, .str c, rfl, rfl, SqT.of ha, atI_nat (j := 1) rfl, (by show 2 ≤ sizeLine; decide), fun T nT => ?_⟩
        exact q _ _ (same_upd nT) (by rw [what_tap, ht]; exact ⟨T, rfl, upd_same⟩)
      · refine ⟨_, rfl, rfl, false, by decide +kernel, iteF ⟨_, rfl, rfl, false, by decide +kernel, iteF ?_⟩⟩
        exact ⟨_, rfl, a, _, 2, .ref b, rfl, rfl, SqT.of ha, atI_nat (j := 2) rfl, q _ _ (Same.refl _) (by rw [what_hold]; exact hb)⟩
def spDec : Sp := fun vs H Q _ => ∃ (c : Addr) (es : List Ev) (i : Nat) (r : Str), vs = [.ref c, .int (i : Int), .str r] ∧ Lst evV H c es ∧ i < es.length ∧ es.length ≤ 400 ∧ ∀ H', Same H H' → Q (optN (decM es i r)) H'
theorem ok_deciding_event (bt : Bt mg) (a : At K mg "deciding_event" s_deciding_event ["record", "at", "rule"]) : Cl P w K mg base 1 "deciding_event" spDec := by
  refine clG a sc_deciding_event (fun vs H Q E h => ?_) (fun f cdv A outer s H vs Q hg hr h => ?_)
  · obtain ⟨c, es, i, r, rfl, _⟩ := h
    rfl
  · obtain ⟨c, es, i, r, rfl, hL, hi, h4, q⟩ := h
    refine ⟨_, (pss_cons (ps_set (i := 3) sc_deciding_event.nd rfl (Or.inl rfl) (pe_ix ix_tup (pe_ix ix_list (pv 0) (pv 1) (fun _ _ => rfl)) pe_int (fun _ _ => rfl)))
      (pss_cons (ps_set (i := 4) sc_deciding_event.nd rfl (Or.inl rfl) (pe_lst pa_nil))
      (pss_cons (ps_for PassesOwn.never rfl (pi_range2 (by rfl) bt.m_range (pa_cons (pe_op op_add (pv 1) pe_int) (pa_cons (pe_callB call_len_seq (by rfl) bt.m_len (by decide +kernel) (pa_cons (pv 0) pa_nil)) pa_nil))) (pg_name (i := 5) sc_deciding_event.nd rfl (Or.inl rfl)) (pss_cons (ps_asg (pe_ix ix_list (pv 0) (pv 5) (fun _ _ => rfl)) (pg_tup rfl (pgs_cons (pg_name (i := 6) sc_deciding_event.nd rfl (Or.inl rfl)) (pgs_cons (pg_name (i := 7) sc_deciding_event.nd rfl (Or.inl rfl)) (pgs_cons (pg_name (i := 8) sc_deciding_event.nd rfl (Or.inl rfl)) pgs_nil)))))
      (pss_cons (ps_if (PW.pt (pw_or (pt_cmpR op_eq (pv 7) (pv 3) (nomark _)) (pw_or1 (PW.pt (pw_and (pt_cmpR op_eq (pv 2) pe_str (nomark _)) (pw_and1 (pt_cmpR op_eq (pv 8) pe_str (nomark _)))))))) (pss_one (ps_ret (pv 5))) pss_nil)
      (pss_one (ps_if (pt_cmpR op_eq (pv 8) pe_str (nomark _)) (pss_one (ps_expr (pe_bm PySem.F.plainAttrs_list PySem.F.slot_list_append PySem.F.type_list_append mt_append (pv 4) (pa_cons (pv 7) pa_nil)))) (pss_one (ps_if (PW.pt (pw_and (pt_cmpR op_eq (pv 2) pe_str (nomark _)) (pw_and1 (pt_cmpR op_in_seq (pv 7) (pv 4) (by rfl))))) (pss_one (ps_ret (pv 5))) pss_nil)))))))
      (pss_one (ps_ret pe_non))))), ?_⟩
    obtain ⟨as, hc, hT⟩ := id hL
    have hlen : (as.map V.ref).length = es.length := by rw [List.length_map]; exact hT.1
    obtain ⟨b, hb, hbt⟩ := hT.at_ hi
    refine ⟨_, rfl, _, rfl, c, _, (i : Int), .ref b, rfl, rfl, SqL.of hc, atI_nat (get_map_ref hb), b, _, 1, _, rfl, rfl, SqT.of hbt, atI_nat (j := 1) rfl, Nat.zero_le _, fun I nI => ?_⟩
    have sI := same_upd (o := .lst []) nI
    refine ⟨_, rfl, _, _, rfl, rfl, _, rfl, c, _, rfl, .inl (SqL.of (sI _ _ hc)), ?_⟩
    have hcI := sI _ _ hc
    have inv0 : decM es i r = ((decEv es[i].k r [] (es.drop (i + 1 + 0))).map (· + 0)).map (· + (i + 1)) := by
      unfold decM
      rw [List.getD_eq_getElem?_getD, List.getElem?_eq_getElem hi, Option.getD_some, Nat.add_zero]
      cases decEv es[i].k r [] (es.drop (i + 1)) <;> rfl
    refine ⟨_, _, rfl, ⟨by omega, by omega, by omega, by omega⟩, for_it walk_range (fun j σ H' => ∃ (inner : List Int) (y5 y6 y7 y8 : Option V), σ = [some (.ref c), some (.int (i : Int)), some (.str r), some (.int es[i].k), some (.ref I), y5, y6, y7, y8] ∧ Same H H' ∧ H' I = some (.lst (inner.map V.int)) ∧ inner.length ≤ j ∧ decM es i r = ((decEv es[i].k r inner (es.drop (i + 1 + j))).map (· + j)).map (· + (i + 1)))
      ⟨[], _, _, _, _, rfl, sI, upd_same, Nat.le_refl _, inv0⟩ (fun _ _ _ _ _ => True.intro) (fun j x σ Hx H1 hj p y => ?_) (fun σ H1 p => ?_)⟩
    · obtain ⟨inner, y5, y6, y7, y8, rfl, s1, hI, hin, hd⟩ := p
      obtain ⟨rfl, rfl⟩ := y
      have hj' : i + 1 + j < es.length := by rw [hlen] at hj; omega
      have en : (i : Int) + 1 + (j : Int) = ((i + 1 + j : Nat) : Int) := by omega
      obtain ⟨b2, hb2, hbt2⟩ := hT.at_ hj'
      have hdr : es.drop (i + 1 + j) = es[i + 1 + j] :: es.drop (i + 1 + (j + 1)) := List.drop_eq_getElem_cons hj'
      rw [hdr] at hd
      refine ⟨_, rfl, _, rfl, c, _, _, .ref b2, rfl, rfl, SqL.of (s1 _ _ hc), (by rw [en]; exact atI_nat (get_map_ref hb2)), b2, _, rfl, SqT.of (s1 _ _ hbt2), rfl, _, _, rfl, _, _, rfl, _, _, rfl, rfl, ?_⟩
      have found : decEv es[i].k r inner (es[i + 1 + j] :: es.drop (i + 1 + (j + 1))) = some 0 → Q (.int ((i : Int) + 1 + (j : Int))) H1 := fun e => by
        have := q H1 s1
        rw [hd, e] at this
        rw [show (i : Int) + 1 + (j : Int) = ((0 + j + (i + 1) : Nat) : Int) by omega]
        exact this
      generalize he : es[i + 1 + j] = ev at *
      unfold decEv at hd found
      by_cases hc : ev.k = es[i].k ∨ r = (("other" : String) : Str) ∧ ev.d = true
      · replace found := found (if_pos hc)
        by_cases h1 : ev.k = es[i].k
        · exact ⟨_, rfl, _, rfl, rfl, true, eqI (decide_eq_true h1), iteT ⟨_, rfl, found⟩⟩
        · obtain ⟨h2, hdd⟩ := hc.resolve_left h1
          exact ⟨_, rfl, _, rfl, rfl, false, eqI (decide_eq_false h1), iteF ⟨_, rfl, rfl, true, eqS (decide_eq_true h2), iteT ⟨_, rfl, rfl, true, congrArg V.bl ((wayS_down ev.d).trans hdd), iteT ⟨_, rfl, found⟩⟩⟩⟩
      · have h1 : ¬ ev.k = es[i].k := fun z => hc (.inl z)
        rw [if_neg hc] at hd found
        refine ⟨_, rfl, _, rfl, rfl, false, eqI (decide_eq_false h1), iteF ?_⟩
        apply two
        · intro G
          by_cases h2 : r = (("other" : String) : Str)
          · have hdd : ev.d = false := by
              cases e : ev.d with
              | false => rfl
              | true => exact (hc (.inr ⟨h2, e⟩)).elim
            exact ⟨_, rfl, rfl, true, eqS (decide_eq_true h2), iteT ⟨_, rfl, rfl, false, congrArg V.bl ((wayS_down ev.d).trans hdd), iteF G⟩⟩
          · exact ⟨_, rfl, rfl, false, eqS (decide_eq_false h2), iteF (iteF G)⟩
        · refine ⟨_, rfl, rfl, ev.d, congrArg V.bl (wayS_down ev.d), ?_⟩
          cases hdd : ev.d with
          | true =>
            rw [hdd, if_pos rfl] at hd
            refine iteT ⟨_, rfl, .inl ⟨rfl, _, SqL.of hI⟩, _, rfl, I, _, .int ev.k, rfl, rfl, hI, small1000 (by rw [List.length_map]; omega), inner ++ [ev.k], _, _, _, _, rfl, Same.off s1 nI off_upd, by rw [upd_same, List.map_append]; rfl, by rw [List.length_append]; show _ + 1 ≤ _; omega, ?_⟩
            rw [hd]
            cases decEv es[i].k r (inner ++ [ev.k]) (es.drop (i + 1 + (j + 1))) with
            | none => rfl
            | some n => exact congrArg some (by show n + 1 + j + (i + 1) = n + (j + 1) + (i + 1); omega)
          | false =>
            rw [hdd, if_neg (by decide)] at hd found
            by_cases hc2 : r = (("within" : String) : Str) ∧ ev.k ∈ inner
            · exact iteF ⟨_, rfl, rfl, true, eqS (decide_eq_true hc2.1), iteT ⟨_, rfl, _, rfl, I, _, rfl, .inl (SqL.of hI), rfl, flat_ints inner, true, congrArg V.bl ((inv_int _ _).trans (decide_eq_true hc2.2)), iteT ⟨_, rfl, found (if_pos hc2)⟩⟩⟩
            · rw [if_neg hc2] at hd
              apply two
              · intro G
                by_cases h3 : r = (("within" : String) : Str)
                · have h4' : ¬ ev.k ∈ inner := fun z => hc2 ⟨h3, z⟩
                  exact iteF ⟨_, rfl, rfl, true, eqS (decide_eq_true h3), iteT ⟨_, rfl, _, rfl, I, _, rfl, .inl (SqL.of hI), rfl, flat_ints inner, false, congrArg V.bl ((inv_int _ _).trans (decide_eq_false h4')), iteF G⟩⟩
                · exact iteF ⟨_, rfl, rfl, false, eqS (decide_eq_false h3), iteF (iteF G)⟩
              · refine ⟨inner, _, _, _, _, rfl, s1, hI, by omega, ?_⟩
                rw [hd]
                cases decEv es[i].k r inner (es.drop (i + 1 + (j + 1))) with
                | none => rfl
                | some n => exact congrArg some (by show n + 1 + j + (i + 1) = n + (j + 1) + (i + 1); omega)
    · obtain ⟨inner, y5, y6, y7, y8, rfl, s1, hI, hin, hd⟩ := p
      rw [List.drop_of_length_le (by rw [hlen]; omega)] at hd
      unfold decEv at hd
      have := q H1 s1
      rw [hd] at this
      exact this
end
end K86

set_option Elab.async false
set_option linter.all false
set_option maxRecDepth 100000
set_option maxHeartbeats 8000000
namespace K86
open PySem PySem.Spec PyProof.Rows L2 Gd Rm La Cb Pl
theorem decEv_lt {own : Int} {r : Str} : ∀ {es : List Ev} {inner : List Int} {n : Nat}, decEv own r inner es = some n → n < es.length
  | [], _, _, h => by cases h
  | e :: es, inner, n, h => by
    rw [List.length_cons]
    unfold decEv at h
    have go : ∀ {l : List Int}, (decEv own r l es).map (· + 1) = some n → n < es.length + 1 := fun {l} h => by
      cases e : decEv own r l es with
      | none => rw [e] at h; cases h
      | some m =>
        rw [e] at h
        have := decEv_lt e
        have : m + 1 = n := Option.some.inj h
        omega
    split at h
    · cases h; omega
    · split at h
      · exact go h
      · split at h
        · cases h; omega
        · exact go h
theorem decM_lt {es : List Ev} {i n : Nat} {r : Str} (h : decM es i r = some n) : i < n ∧ n < es.length := by
  unfold decM at h
  cases e : decEv ((es.getD i ⟨0, 0, false⟩).k) r [] (es.drop (i + 1)) with
  | none => rw [e] at h; cases h
  | some m =>
    rw [e] at h
    have h1 := decEv_lt e
    rw [List.length_drop] at h1
    have : m + (i + 1) = n := Option.some.inj h
    omega
theorem sureM_lt {es : List Ev} {i n : Nat} {x : Actn} (h : sureM es i x = some n) : i < n ∧ n < es.length := by
  unfold sureM at h
  cases e : decM es i (ruleOf x) with
  | none => rw [e] at h; cases h
  | some m =>
    rw [e] at h
    dsimp only at h
    split at h
    · cases h
    · cases h; exact decM_lt e
theorem evAt_eq {es : List Ev} {i : Nat} (h : i < es.length) : evAt es i = es[i] := by
  unfold evAt
  rw [List.getD_eq_getElem?_getD, List.getElem?_eq_getElem h, Option.getD_some]
theorem dl_at {H : Hp} {x : Actn} {v : V} (h : ActV H x v) (d : isDl x = true) : ∃ (a b : Addr) (c : Str), v = .ref a ∧ H a = some (.tup [.str "dual", .str c, .ref b, .int (timeOf x), .str (ruleOf x)]) := by
  cases x with
  | dualC c d t r => obtain ⟨a, b, e, h1, _⟩ := h; exact ⟨a, b, c, e, h1⟩
  | dualL c d t r => obtain ⟨a, b, e, h1, _⟩ := h; exact ⟨a, b, c, e, h1⟩
  | _ => cases d
section
variable {P : Program} {w : World} {K : PySem.W.Frag} {mg : Str → Option Value} {base : Heap}
def spDual : Sp := fun vs H Q _ => ∃ (v : V) (x : Actn) (n i : Int), vs = [v] ∧ ActV H x v ∧ ActOk n i x ∧ Q (.bl (isDl x)) H
theorem ok_is_dual (bt : Bt mg) (a : At K mg "is_dual" s_is_dual ["action"]) : Cl P w K mg base 1 "is_dual" spDual := by
  refine clG a sc_is_dual (fun vs H Q E h => ?_) (fun f cdv A outer s H vs Q hg hr h => ?_)
  · obtain ⟨v, x, n, i, rfl, _⟩ := h
    rfl
  · obtain ⟨v, x, n, i, rfl, hv, hx, q⟩ := h
    refine ⟨_, (pss_one (ps_ret (pe_and (pe_callB call_isi (by rfl) bt.m_isinstance (by decide +kernel) (pa_cons (pv 0) (pa_cons (pe_bltn (v := .ty "tuple") (by rfl) bt.m_tuple (by decide +kernel) rfl) pa_nil))) (pe_one (pe_cmpR op_eq (pe_ix ix_tup (pv 0) pe_int (fun _ _ => rfl)) pe_str (nomark _)))))), ?_⟩
    have wd : ∀ (c : Str) (b : Bool), decide (c = (("dual" : String) : Str)) = b → Q (.bl b) H → Q (.bl (decide (V.str c = V.str "dual"))) H := fun c b e q => by
      have : decide (V.str c = V.str "dual") = b := by rw [← e]; by_cases z : c = (("dual" : String) : Str) <;> simp [z]
      rw [this]
      exact q
    cases x with
    | none =>
      cases hv
      exact ⟨_, rfl, _, _, _, _, false, rfl, .ty "tuple", .base (.str _), kit_ty (by decide +kernel), _, rfl, iteF q⟩
    | thr =>
      cases hv
      exact ⟨_, rfl, _, _, _, _, false, rfl, .ty "tuple", .base (.str _), kit_ty (by decide +kernel), _, rfl, iteF q⟩
    | code c =>
      obtain ⟨a, rfl, ha⟩ := hv
      exact ⟨_, rfl, _, _, _, _, true, rfl, .ty "tuple", .base (.tup ha), kit_ty (by decide +kernel), _, rfl, iteT ⟨_, rfl, a, _, 0, .str "code", rfl, rfl, SqT.of ha, atI_nat (j := 0) rfl, rfl, wd _ false (by decide +kernel) q⟩⟩
    | lay u j =>
      obtain ⟨a, rfl, ha⟩ := hv
      have hu : decide (u = (("dual" : String) : Str)) = false := by
        refine decide_eq_false ?_
        rintro rfl
        have := hx.1
        revert this
        decide +kernel
      exact ⟨_, rfl, _, _, _, _, true, rfl, .ty "tuple", .base (.tup ha), kit_ty (by decide +kernel), _, rfl, iteT ⟨_, rfl, a, _, 0, .str u, rfl, rfl, SqT.of ha, atI_nat (j := 0) rfl, rfl, wd _ false hu q⟩⟩
    | dualC c d t r =>
      obtain ⟨a, b, rfl, ha, hb⟩ := hv
      exact ⟨_, rfl, _, _, _, _, true, rfl, .ty "tuple", .base (.tup ha), kit_ty (by decide +kernel), _, rfl, iteT ⟨_, rfl, a, _, 0, .str "dual", rfl, rfl, SqT.of ha, atI_nat (j := 0) rfl, rfl, wd _ true (by decide +kernel) q⟩⟩
    | dualL c d t r =>
      obtain ⟨a, b, rfl, ha, hb⟩ := hv
      exact ⟨_, rfl, _, _, _, _, true, rfl, .ty "tuple", .base (.tup ha), kit_ty (by decide +kernel), _, rfl, iteT ⟨_, rfl, a, _, 0, .str "dual", rfl, rfl, SqT.of ha, atI_nat (j := 0) rfl, rfl, wd _ true (by decide +kernel) q⟩⟩
def spSure : Sp := fun vs H Q _ => ∃ (c : Addr) (es : List Ev) (i : Nat) (v : V) (x : Actn), vs = [.ref c, .int (i : Int), v] ∧ Lst evV H c es ∧ i < es.length ∧ es.length ≤ 400 ∧ ActV H x v ∧ isDl x = true ∧ ∀ H', Same H H' → Q (optN (sureM es i x)) H'
theorem ok_sure_event (bt : Bt mg) (a : At K mg "sure_event" s_sure_event ["record", "at", "dual"]) (c_deciding_event : Cl P w K mg base 1 "deciding_event" spDec) : Cl P w K mg base 2 "sure_event" spSure := by
  refine clG a sc_sure_event (fun vs H Q E h => ?_) (fun f cdv A outer s H vs Q hg hr h => ?_)
  · obtain ⟨c, es, i, v, x, rfl, _⟩ := h
    rfl
  · obtain ⟨c, es, i, v, x, rfl, hL, hi, h4, hv, hd, q⟩ := h
    refine ⟨_, (pss_cons (ps_set (i := 3) sc_sure_event.nd rfl (Or.inl rfl) (pe_cl c_deciding_event hg hr (by decide) (by rfl) (pa_cons (pv 0) (pa_cons (pv 1) (pa_cons (pe_ix ix_tup (pv 2) pe_int (fun _ _ => rfl)) pa_nil)))))
      (pss_cons (ps_if (PW.pt (pw_or (pt_cmpR op_isN (pv 3) pe_non (nomark _)) (pw_or1 (pt_cmpR op_ge (pe_ix ix_tup (pe_ix ix_list (pv 0) (pv 3) (fun _ _ => rfl)) pe_int (fun _ _ => rfl)) (pe_op op_add (pe_ix ix_tup (pe_ix ix_list (pv 0) (pv 1) (fun _ _ => rfl)) pe_int (fun _ _ => rfl)) (pe_ix ix_tup (pv 2) pe_int (fun _ _ => rfl))) (nomark _))))) (pss_one (ps_ret pe_non)) pss_nil)
      (pss_one (ps_ret (pv 3))))), ?_⟩
    obtain ⟨a, b, cc, rfl, ha⟩ := dl_at hv hd
    refine ⟨_, rfl, _, rfl, _, rfl, a, _, 4, _, rfl, rfl, SqT.of ha, atI_nat (j := 4) rfl, c, es, i, ruleOf x, rfl, hL, hi, h4, fun H1 s1 => ?_⟩
    have q1 := q H1 s1
    unfold sureM at q1
    cases e : decM es i (ruleOf x) with
    | none =>
      rw [e] at q1
      exact ⟨_, rfl, rfl, true, rfl, iteT q1⟩
    | some n =>
      rw [e] at q1
      dsimp only at q1
      obtain ⟨n1, n2⟩ := decM_lt e
      obtain ⟨as, hc, hT⟩ := id (hL.same s1)
      obtain ⟨bn, hbn, hbt⟩ := hT.at_ n2
      obtain ⟨bi, hbi, hbti⟩ := hT.at_ hi
      refine ⟨_, rfl, rfl, false, rfl, iteF ?_⟩
      refine ⟨_, rfl, _, rfl, c, _, _, .ref bn, rfl, rfl, SqL.of hc, atI_nat (get_map_ref hbn), bn, _, 0, _, rfl, rfl, SqT.of hbt, atI_nat (j := 0) rfl, ?_⟩
      refine ⟨_, rfl, _, rfl, c, _, _, .ref bi, rfl, rfl, SqL.of hc, atI_nat (get_map_ref hbi), bi, _, 0, _, rfl, rfl, SqT.of hbti, atI_nat (j := 0) rfl, ?_⟩
      refine ⟨_, rfl, a, _, 3, _, rfl, rfl, SqT.of (s1 _ _ ha), atI_nat (j := 3) rfl, ?_⟩
      rw [evAt_eq n2, evAt_eq hi] at q1
      refine ⟨_, _, rfl, rfl, _, _, rfl, rfl, _, rfl, ite2 (fun z => ?_) (fun z => ?_)⟩
      · rw [if_pos (of_decide_eq_true z)] at q1
        exact q1
      · rw [if_neg (fun y => z (decide_eq_true y))] at q1
        exact ⟨_, rfl, q1⟩
def spKind : Sp := fun vs H Q _ => ∃ (c : Addr) (es : List Ev) (i : Nat) (o : Option Nat), vs = [.ref c, .int (i : Int), optN o] ∧ Lst evV H c es ∧ i < es.length ∧ (∀ n, o = some n → n < es.length) ∧ ∀ H', Same H H' → Q (.str (if tapM es i o then "tap" else "hold")) H'
theorem ok_dual_kind (bt : Bt mg) (a : At K mg "dual_kind" s_dual_kind ["record", "at", "sure"]) : Cl P w K mg base 1 "dual_kind" spKind := by
  refine clG a sc_dual_kind (fun vs H Q E h => ?_) (fun f cdv A outer s H vs Q hg hr h => ?_)
  · obtain ⟨c, es, i, o, rfl, _⟩ := h
    rfl
  · obtain ⟨c, es, i, o, rfl, hL, hi, ho, q⟩ := h
    refine ⟨_, (pss_cons (ps_if (PW.pt (pw_and (pt_cmpR op_notN (pv 2) pe_non (nomark _)) (pw_and1 (pt_cmpR op_eq (pe_ix ix_tup (pe_ix ix_list (pv 0) (pv 2) (fun _ _ => rfl)) pe_int (fun _ _ => rfl)) (pe_ix ix_tup (pe_ix ix_list (pv 0) (pv 1) (fun _ _ => rfl)) pe_int (fun _ _ => rfl)) (nomark _))))) (pss_one (ps_ret pe_str)) pss_nil)
      (pss_one (ps_ret pe_str))), ?_⟩
    have q1 := q H (Same.refl _)
    cases o with
    | none => exact ⟨_, rfl, rfl, false, rfl, iteF (iteF q1)⟩
    | some n =>
      have n2 := ho n rfl
      obtain ⟨as, hc, hT⟩ := id hL
      obtain ⟨bn, hbn, hbt⟩ := hT.at_ n2
      obtain ⟨bi, hbi, hbti⟩ := hT.at_ hi
      refine ⟨_, rfl, rfl, true, rfl, iteT ?_⟩
      refine ⟨_, rfl, _, rfl, c, _, _, .ref bn, rfl, rfl, SqL.of hc, atI_nat (get_map_ref hbn), bn, _, 1, _, rfl, rfl, SqT.of hbt, atI_nat (j := 1) rfl, ?_⟩
      refine ⟨_, rfl, _, rfl, c, _, _, .ref bi, rfl, rfl, SqL.of hc, atI_nat (get_map_ref hbi), bi, _, 1, _, rfl, rfl, SqT.of hbti, atI_nat (j := 1) rfl, ?_⟩
      have et : tapM es i (some n) = decide (es[n].k = es[i].k) := by
        unfold tapM
        dsimp only
        rw [evAt_eq n2, evAt_eq hi]
      rw [et] at q1
      refine ⟨rfl, decide (es[n].k = es[i].k), eqI rfl, ?_⟩
      cases e : decide (es[n].k = es[i].k) with
      | true => rw [e] at q1; exact iteT q1
      | false => rw [e] at q1; exact iteF q1
end
end K86

set_option Elab.async false
set_option linter.all false
set_option maxRecDepth 100000
set_option maxHeartbeats 8000000
namespace K86
open PySem PySem.Spec PyProof.Rows L2 Gd Rm La Cb Pl
theorem none_back {H H' : Hp} (s : Same H H') {a : Addr} (h : H' a = none) : H a = none := by
  cases e : H a with
  | none => rfl
  | some o => rw [s _ _ e] at h; cases h
/-- what the state keeps between the events -/
structure St1 (L : List (List Actn)) (s : Sm) (i : Nat) : Prop where
  lk : s.lk.length = L.length
  bds : BdsOk L.length s.bd
  len : s.bd.length ≤ i
theorem St1.init {L : List (List Actn)} : St1 L (init L.length) 0 := ⟨List.length_replicate, fun p h => absurd h List.not_mem_nil, Nat.le_refl _⟩
theorem taken_ok {L : List (List Actn)} {m : Nat} (hO : LayOk L m) (s : Sm) {k : Nat} (hk : k < m) : takenL L s k < L.length ∧ ActOk L.length ((takenL L s k : Nat) : Int) (actAt L (takenL L s k) k) ∧ isThr (actAt L (takenL L s k) k) = false := by
  have hne : filt L s k ≠ [] := fun z => by
    have := filt_zero hO s hk
    rw [z] at this
    cases this
  have h1 := (filt_last hne).1
  obtain ⟨h2, h3⟩ := List.mem_filter.mp h1
  have hl : takenL L s k < L.length := List.mem_range.mp h2
  have hm : L[takenL L s k].length = m := hO.len _ (List.getElem_mem _)
  have e := actAt_eq hl (by omega : k < L[takenL L s k].length)
  refine ⟨hl, ?_, ?_⟩
  · rw [e]
    exact hO.ok _ _ (List.getElem?_eq_getElem hl) _ (List.getElem_mem _)
  · cases q : isThr (actAt L (takenL L s k) k) with
    | false => rfl
    | true => rw [q] at h3; cases h3
theorem what_do {n : Nat} {i : Int} {x : Actn} {es : List Ev} {j : Nat} (h : ActOk n i x) (ht : isThr x = false) : DoOk n (whatM x (kindM es j x)) := by
  cases x with
  | none => exact (show DoOk n (whatM .none "plain") from by rw [what_plain]; trivial)
  | thr => cases ht
  | code c => exact (show DoOk n (whatM (.code c) "plain") from by rw [what_plain]; exact h)
  | lay w j => exact (show DoOk n (whatM (.lay w j) "plain") from by rw [what_plain]; exact ⟨h.1, h.2.1, by have := h.2.2; omega⟩)
  | dualC c d t r =>
    show DoOk n (whatM _ (if tapM es j (sureM es j (.dualC c d t r)) then ("tap" : Str) else ("hold" : Str)))
    split
    · rw [what_tap]; exact h.1
    · rw [what_hold]; exact h.2.1
  | dualL c l t r =>
    show DoOk n (whatM _ (if tapM es j (sureM es j (.dualL c l t r)) then ("tap" : Str) else ("hold" : Str)))
    split
    · rw [what_tap]; exact h.1
    · rw [what_hold]; exact ⟨by decide +kernel, h.2.1.1, by have := h.2.1.2; omega⟩
theorem kind_or {es : List Ev} {j : Nat} {x : Actn} : kindM es j x = ("plain" : String) ∨ (isDl x = true ∧ (kindM es j x = ("tap" : String) ∨ kindM es j x = ("hold" : String))) := by
  unfold kindM
  by_cases h : isDl x = true
  · rw [if_pos h]
    refine .inr ⟨h, ?_⟩
    split
    · exact .inl rfl
    · exact .inr rfl
  · rw [if_neg h]; exact .inl rfl
theorem St1.press {L : List (List Actn)} {s : Sm} {i : Nat} (h : St1 L s i) (k : Int) {x : Actn} (hx : DoOk L.length x) : St1 L (press s k x) (i + 1) := by
  obtain ⟨h1, h2, h3⟩ := h
  cases x with
  | none => exact ⟨h1, h2, by show s.bd.length ≤ _; omega⟩
  | thr => exact hx.elim
  | dualC _ _ _ _ => exact hx.elim
  | dualL _ _ _ _ => exact hx.elim
  | code c =>
    refine ⟨h1, fun p hp => ?_, Nat.le_trans (putB_len ..) (by omega)⟩
    rcases putB_mem hp with q | q
    · exact h2 p q
    · rw [q]; exact hx
  | lay w j =>
    rw [press_lay]
    obtain ⟨x1, x2, x3⟩ := hx
    by_cases w1 : w = (("layer" : String) : Str)
    · rw [if_pos w1]
      refine ⟨h1, fun p hp => ?_, Nat.le_trans (putB_len ..) (by omega)⟩
      rcases putB_mem hp with q | q
      · exact h2 p q
      · rw [q]; exact ⟨w1, x2, by omega⟩
    · rw [if_neg w1]
      by_cases w2 : w = (("lock" : String) : Str)
      · rw [if_pos w2]; exact ⟨by rw [List.length_set]; exact h1, h2, by show s.bd.length ≤ _; omega⟩
      · rw [if_neg w2]; exact ⟨h1, h2, by show s.bd.length ≤ _; omega⟩
theorem St1.release {L : List (List Actn)} {s : Sm} {i : Nat} (h : St1 L s i) (k : Int) : St1 L (release s k) (i + 1) :=
  ⟨h.lk, fun p hp => h.bds p (dropB_mem hp), Nat.le_trans (dropB_len ..) (Nat.le_succ_of_le h.len)⟩
def xAt (L : List (List Actn)) (es : List Ev) (i : Nat) : Actn := actAt L (takenL L (runS L es i) (evAt es i).k.toNat) (evAt es i).k.toNat
def outM (L : List (List Actn)) (es : List Ev) (i : Nat) : Outp := if (evAt es i).d then outP (whatM (xAt L es i) (kindM es i (xAt L es i))) else relO (runS L es i) (evAt es i).k
theorem runS_dn {L : List (List Actn)} {es : List Ev} {i : Nat} (h : (evAt es i).d = true) : runS L es (i + 1) = press (runS L es i) (evAt es i).k (whatM (xAt L es i) (kindM es i (xAt L es i))) := by
  show stepS L es i (runS L es i) = _
  unfold stepS xAt
  rw [if_pos h]
theorem runS_up {L : List (List Actn)} {es : List Ev} {i : Nat} (h : (evAt es i).d = false) : runS L es (i + 1) = release (runS L es i) (evAt es i).k := by
  show stepS L es i (runS L es i) = _
  unfold stepS
  rw [if_neg (by rw [h]; decide)]
theorem runT_dn {L : List (List Actn)} {es : List Ev} {i : Nat} (h : (evAt es i).d = true) : runT L es i = .dn (takenL L (runS L es i) (evAt es i).k.toNat) (kindM es i (xAt L es i)) (whatM (xAt L es i) (kindM es i (xAt L es i))) (if isDl (xAt L es i) then sureM es i (xAt L es i) else none) := by
  unfold runT stepT xAt
  rw [if_pos h]
theorem runT_up {L : List (List Actn)} {es : List Ev} {i : Nat} (h : (evAt es i).d = false) : runT L es i = .up := by
  unfold runT stepT
  rw [if_neg (by rw [h]; decide)]
theorem runS_ok {L : List (List Actn)} {es : List Ev} {m : Nat} (hO : LayOk L m) (hV : Valid es) (hk : ∀ e ∈ es, e.k < (m : Int)) : ∀ i, i ≤ es.length → St1 L (runS L es i) i
  | 0, _ => St1.init
  | i + 1, hi => by
    have ih := runS_ok hO hV hk i (by omega)
    have hi' : i < es.length := by omega
    have e := evAt_eq hi'
    cases hd : (evAt es i).d with
    | true =>
      rw [runS_dn hd]
      have k0 := (hV i _ (List.getElem?_eq_getElem hi')).1
      have k1 := hk _ (List.getElem_mem hi')
      obtain ⟨_, t2, t3⟩ := taken_ok hO (runS L es i) (k := (evAt es i).k.toNat) (by rw [e]; omega)
      exact ih.press _ (what_do t2 t3)
    | false => rw [runS_up hd]; exact ih.release _
/-- what was told of an event -/
def TdV (H : Hp) (t : Td) (mv sv : V) : Prop := match t with
  | .up => mv = .non ∧ sv = .non
  | .dn l kind what sure => sv = optN sure ∧ ∃ M v, mv = .ref M ∧ H M = some (.tup [.int (l : Int), .str kind, v]) ∧ ActV H what v
def ToldV (H : Hp) (L : List (List Actn)) (es : List Ev) (i : Nat) (T : Addr) : Prop := ∃ mv sv ov, H T = some (.tup [mv, sv, ov]) ∧ TdV H (runT L es i) mv sv ∧ OutV H (outM L es i) ov
theorem TdV.keep {H H' : Hp} {t : Td} {mv sv : V} (h : TdV H t mv sv) (k : Tk H H') : TdV H' t mv sv := by
  cases t with
  | up => exact h
  | dn l kind what sure =>
    obtain ⟨h1, M, v, h2, h3, h4⟩ := h
    exact ⟨h1, M, v, h2, k _ _ h3, h4.keep k⟩
theorem OutV.keep {H H' : Hp} {o : Outp} {v : V} (h : OutV H o v) (k : Tk H H') : OutV H' o v := by
  obtain ⟨T, e, h1⟩ := h
  exact ⟨T, e, k _ _ h1⟩
theorem ToldV.keep {H H' : Hp} {L : List (List Actn)} {es : List Ev} {i : Nat} {T : Addr} (h : ToldV H L es i T) (k : Tk H H') : ToldV H' L es i T := by
  obtain ⟨mv, sv, ov, h1, h2, h3⟩ := h
  exact ⟨mv, sv, ov, k _ _ h1, h2.keep k, h3.keep k⟩
def Tolds (H : Hp) (L : List (List Actn)) (es : List Ev) (W : Addr) (n : Nat) : Prop := ∃ Ts : List Addr, H W = some (.lst (Ts.map V.ref)) ∧ Ts.length = n ∧ ∀ j T, Ts[j]? = some T → ToldV H L es j T
theorem Tolds.off {H H' : Hp} {L : List (List Actn)} {es : List Ev} {W p l d e : Addr} {n : Nat} (h : Tolds H L es W n) (o : Off4 p l d e H H') (k : Tk H H') (w1 : W ≠ p) (w2 : W ≠ l) (w3 : W ≠ d) (w4 : W ≠ e) : Tolds H' L es W n := by
  obtain ⟨Ts, h1, h2, h3⟩ := h
  exact ⟨Ts, o _ _ h1 w1 w2 w3 w4, h2, fun j T x => (h3 j T x).keep k⟩
theorem Tolds.add {H : Hp} {L : List (List Actn)} {es : List Ev} {W T : Addr} {n : Nat} {Ts : List Addr} (h1 : H W = some (.lst (Ts.map V.ref))) (h2 : Ts.length = n) (h3 : ∀ j T, Ts[j]? = some T → ToldV H L es j T) (hT : ToldV H L es n T) : Tolds (upd H W (.lst (Ts.map V.ref ++ [.ref T]))) L es W (n + 1) := by
  refine ⟨Ts ++ [T], by rw [upd_same, List.map_append]; rfl, by rw [List.length_append, h2]; rfl, fun j U x => ?_⟩
  have tk : Tk H (upd H W (.lst (Ts.map V.ref ++ [.ref T]))) := tk_upd h1
  rcases Nat.lt_or_ge j Ts.length with q | q
  · rw [List.getElem?_append_left q] at x
    exact (h3 j U x).keep tk
  · rw [List.getElem?_append_right q] at x
    have : j - Ts.length = 0 := by
      have := (List.getElem?_eq_some_iff.mp x).1
      simpa using this
    rw [this] at x
    have e : T = U := Option.some.inj x
    have e2 : j = n := by omega
    rw [← e, e2]
    exact hT.keep tk
theorem wayS_up (d : Bool) : decide (V.str (wayS d) = V.str "up") = !d := by cases d <;> decide +kernel
end K86

set_option Elab.async false
set_option linter.all false
set_option maxRecDepth 100000
set_option maxHeartbeats 8000000
namespace K86
open PySem PySem.Spec PyProof.Rows L2 Gd Rm La Cb Pl
theorem PAt.updW {C : Addr} {H : Hp} {p c l d e W : Addr} {n : Nat} {s : Sm} {xs ys : List V} (h : PAt C H p c l d e n s) (hW : H W = some (.lst xs)) (w1 : W ≠ p) (w2 : W ≠ l) (w3 : W ≠ d) (w4 : W ≠ e) : PAt C (upd H W (.lst ys)) p c l d e n s := by
  obtain ⟨⟨dx, h1⟩, h2, ⟨kvs, h3, h3b⟩, ⟨pvs, h4, h4b⟩, h5⟩ := h
  exact ⟨⟨dx, by rw [upd_ne (Ne.symm w1)]; exact h1⟩, by rw [upd_ne (Ne.symm w2)]; exact h2, ⟨kvs, by rw [upd_ne (Ne.symm w3)]; exact h3, h3b.keep (tk_upd hW)⟩, ⟨pvs, by rw [upd_ne (Ne.symm w4)]; exact h4, h4b⟩, h5⟩
section
variable {P : Program} {w : World} {K : PySem.W.Frag} {mg : Str → Option Value} {base : Heap}
def spPlay (C : Addr) : Sp := fun vs H Q _ => ∃ (c g : Addr) (L : List (List Actn)) (m : Nat) (es : List Ev), vs = [.ref c, .ref g] ∧ Lay H c L ∧ LayOk L m ∧ Lst evV H g es ∧ Valid es ∧ es.length ≤ 400 ∧ (∀ e ∈ es, e.k < (m : Int)) ∧
  ∀ (H' : Hp) (T p l d e W : Addr), Same H H' → H' T = some (.tup [.ref p, .ref W]) → PAt C H' p c l d e es.length (runS L es es.length) → Tolds H' L es W es.length → Q (.ref T) H'
theorem ok_play (bt : Bt mg) {C : Addr} (cp : Cp K C) (a : At K mg "play" s_play ["layout", "record"]) (c_Player : ClI P w K mg base 1 C "Player" (spPInit C)) (c_release : ClM P w K mg base 1 C "release" (spRelease C)) (c_taken : ClM P w K mg base 2 C "taken" (spTaken C)) (c_press : ClM P w K mg base 1 C "press" (spPress C))
    (c_is_dual : Cl P w K mg base 1 "is_dual" spDual) (c_sure_event : Cl P w K mg base 2 "sure_event" spSure) (c_dual_kind : Cl P w K mg base 1 "dual_kind" spKind) (c_what_is_done : Cl P w K mg base 1 "what_is_done" spWhat) : Cl P w K mg base 3 "play" (spPlay C) := by
  have cl_Player := cp.cl
  refine clG a sc_play (fun vs H Q E h => ?_) (fun f cdv A outer s H vs Q hg hr h => ?_)
  · obtain ⟨c, g, L, m, es, rfl, _⟩ := h
    rfl
  · obtain ⟨c, g, L, m, es, rfl, hL, hO, hG, hV, h4, hkm, q⟩ := h
    refine ⟨_, (pss_cons (ps_set (i := 2) sc_play.nd rfl (Or.inl rfl) (pe_clI c_Player hg hr (by decide) (by rfl) (pa_cons (pv 0) pa_nil)))
      (pss_cons (ps_set (i := 3) sc_play.nd rfl (Or.inl rfl) (pe_lst pa_nil))
      (pss_cons (ps_for PassesOwn.never rfl (pi_enum (by rfl) bt.m_enumerate (pa_cons (pv 1) pa_nil)) (pg_tup rfl (pgs_cons (pg_name (i := 4) sc_play.nd rfl (Or.inl rfl)) (pgs_cons (pg_tup rfl (pgs_cons (pg_name (i := 5) sc_play.nd rfl (Or.inl rfl)) (pgs_cons (pg_name (i := 6) sc_play.nd rfl (Or.inl rfl)) (pgs_cons (pg_name (i := 7) sc_play.nd rfl (Or.inl rfl)) pgs_nil)))) pgs_nil))) (C8.pss_cut (ps_if (pt_cmpR op_eq (pv 7) pe_str (nomark _)) (pss_cons (ps_expr (pe_bm PySem.F.plainAttrs_list PySem.F.slot_list_append PySem.F.type_list_append mt_append (pv 3) (pa_cons (pe_tup (pa_cons pe_non (pa_cons pe_non (pa_cons (pe_clM c_release cl_Player hg hr (by decide) (pv 2) (pa_cons (pv 6) pa_nil)) pa_nil)))) pa_nil)))
      (pss_one ps_continue)) pss_nil)
      (pss_cons (ps_asg (pe_clM c_taken cl_Player hg hr (by decide) (pv 2) (pa_cons (pv 6) pa_nil)) (pg_tup rfl (pgs_cons (pg_name (i := 8) sc_play.nd rfl (Or.inl rfl)) (pgs_cons (pg_name (i := 9) sc_play.nd rfl (Or.inl rfl)) pgs_nil))))
      (pss_cons (ps_asg (pe_tup (pa_cons pe_non (pa_cons pe_str pa_nil))) (pg_tup rfl (pgs_cons (pg_name (i := 10) sc_play.nd rfl (Or.inl rfl)) (pgs_cons (pg_name (i := 11) sc_play.nd rfl (Or.inl rfl)) pgs_nil))))
      (C8.pss_cut (ps_if (pt_val (pe_cl c_is_dual hg hr (by decide) (by rfl) (pa_cons (pv 9) pa_nil))) (pss_cons (ps_set (i := 10) sc_play.nd rfl (Or.inl rfl) (pe_cl c_sure_event hg hr (by decide) (by rfl) (pa_cons (pv 1) (pa_cons (pv 4) (pa_cons (pv 9) pa_nil)))))
      (pss_one (ps_set (i := 11) sc_play.nd rfl (Or.inl rfl) (pe_cl c_dual_kind hg hr (by decide) (by rfl) (pa_cons (pv 1) (pa_cons (pv 4) (pa_cons (pv 10) pa_nil))))))) pss_nil)
      (pss_cons (ps_set (i := 12) sc_play.nd rfl (Or.inl rfl) (pe_cl c_what_is_done hg hr (by decide) (by rfl) (pa_cons (pv 9) (pa_cons (pv 11) pa_nil))))
      (pss_one (ps_expr (pe_bm PySem.F.plainAttrs_list PySem.F.slot_list_append PySem.F.type_list_append mt_append (pv 3) (pa_cons (pe_tup (pa_cons (pe_tup (pa_cons (pv 8) (pa_cons (pv 11) (pa_cons (pv 12) pa_nil)))) (pa_cons (pv 10) (pa_cons (pe_clM c_press cl_Player hg hr (by decide) (pv 2) (pa_cons (pv 6) (pa_cons (pv 12) pa_nil))) pa_nil)))) pa_nil))))))))))
      (pss_one (ps_ret (pe_tup (pa_cons (pv 2) (pa_cons (pv 3) pa_nil)))))))), ?_⟩
    obtain ⟨rs, hc, hR⟩ := id hL
    have n6 := hO.n6
    have hrl : (rs.map V.ref).length = L.length := by rw [List.length_map]; exact hR.1
    refine ⟨_, rfl, fun p dx np ndx hdp => ?_⟩
    have cp0 : c ≠ p := ne_of_none hc np
    have cdx : c ≠ dx := ne_of_none hc ndx
    refine ⟨p, dx, c, _, rfl, upd_same, by rw [upd_ne cp0, upd_ne cdx]; exact hc, by omega, fun H1 l d e nl nd ne hP hoff => ⟨rfl, ?_⟩⟩
    rw [hrl] at hP
    have s0 : Same H (upd (upd H dx (.own p)) p (.ins C dx [])) := (same_upd ndx).trans (same_upd (by rw [upd_ne (Ne.symm hdp)]; exact np))
    have s1 : Same H H1 := fun b o hb => hoff _ _ (s0 _ _ hb) (ne_of_none hb np)
    have nl' := none_back s0 nl
    have nd' := none_back s0 nd
    have ne' := none_back s0 ne
    clear hoff nl nd ne
    refine ⟨Nat.zero_le _, fun W nW => ?_⟩
    have W1 : W ≠ p := fun z => by rw [z, hP.ob.choose_spec] at nW; cases nW
    have W2 : W ≠ l := fun z => by rw [z, hP.lk] at nW; cases nW
    have W3 : W ≠ d := fun z => by rw [z, hP.bd.choose_spec.1] at nW; cases nW
    have W4 : W ≠ e := fun z => by rw [z, hP.pr.choose_spec.1] at nW; cases nW
    have nWH := none_back s1 nW
    have kW := same_upd (o := .lst []) nW
    obtain ⟨as, hg0, hT⟩ := id hG
    have hlen : (as.map V.ref).length = es.length := by rw [List.length_map]; exact hT.1
    have s2 := s1.trans kW
    refine ⟨_, rfl, g, _, rfl, SqL.of (s2 _ _ hg0), for_it (walk_enum (xs := as.map V.ref))
      (fun i σ H' => ∃ y4 y5 y6 y7 y8 y9 y10 y11 y12 : Option V, σ = [some (.ref c), some (.ref g), some (.ref p), some (.ref W), y4, y5, y6, y7, y8, y9, y10, y11, y12] ∧ Same H H' ∧ PAt C H' p c l d e i (runS L es i) ∧ Tolds H' L es W i)
      ⟨_, _, _, _, _, _, _, _, _, rfl, s2, hP.same kW, [], upd_same, rfl, fun j T x => by simp at x⟩ (fun i σ H' _ z => by obtain ⟨_, _, _, _, _, _, _, _, _, _, s3, _⟩ := z; exact SqL.of (s3 _ _ hg0)) (fun i x σ H2 H3 hi z y => ?_) (fun σ H2 z => ?_)⟩
    · obtain ⟨y4, y5, y6, y7, y8, y9, y10, y11, y12, rfl, s3, P3, T3⟩ := z
      obtain ⟨T, u, v, rfl, nT, rfl, e1, e2⟩ := y
      have hi' : i < es.length := by omega
      obtain ⟨b, hb, hbt⟩ := hT.at_ hi'
      have e2' : v = .ref b := Option.some.inj (e2.symm.trans (get_map_ref hb))
      subst e2'
      have e1' : u = .int (i : Nat) := (Option.some.inj e1).symm
      subst e1'
      have kT := same_upd (o := .tup [.int (i : Nat), .ref b]) nT
      have s4 := s3.trans kT
      have P4 := P3.same kT
      have tkT : Tk H2 _ := Tk.of kT
      have hb4 := s4 _ _ hbt
      obtain ⟨v1, v2, v3⟩ := hV i _ (List.getElem?_eq_getElem hi')
      have hkk := hkm _ (List.getElem_mem hi')
      have hev := evAt_eq hi'
      have hS := runS_ok hO hV hkm i (by omega)
      have T4 : Tolds (upd H2 T (.tup [.int (i : Nat), .ref b])) L es W i := by
        obtain ⟨Ts, t1, t2, t3⟩ := T3
        exact ⟨Ts, kT _ _ t1, t2, fun j U x => (t3 j U x).keep tkT⟩
      have hT1 := upd_same (H := H2) (a := T) (o := .tup [.int (i : Nat), .ref b])
      clear kT tkT
      generalize upd H2 T (.tup [.int (i : Nat), .ref b]) = H3 at s4 P4 T4 hT1 hb4 ⊢
      refine ⟨T, _, rfl, SqT.of hT1, rfl, _, _, rfl, _, _, rfl, b, _, rfl, SqT.of hb4, rfl, _, _, rfl, _, _, rfl, _, _, rfl, rfl, rfl, ?_⟩
      obtain ⟨dxp, hp⟩ := P4.ob
      refine ⟨fun σ' H' => σ' = [some (.ref c), some (.ref g), some (.ref p), some (.ref W), some (.int (i : Nat)), some (.int es[i].t), some (.int es[i].k), some (.str (wayS es[i].d)), y8, y9, y10, y11, y12] ∧ H' = H3 ∧ es[i].d = true, ⟨_, rfl, rfl, !es[i].d, congrArg V.bl (wayS_up es[i].d), ?_⟩, ?_⟩
      · cases hd : es[i].d with
        | true => exact iteF ⟨rfl, rfl, rfl⟩
        | false =>
          refine iteT ?_
          obtain ⟨Ts, t1, t2, t3⟩ := id T4
          refine ⟨_, rfl, .inl ⟨rfl, _, SqL.of t1⟩, _, rfl, p, dxp, _, rfl, hp, f_no (by decide +kernel), _, rfl, p, c, l, d, e, i, runS L es i, L.length, es[i].k, rfl, P4, hS.bds, by omega, fun H4 o P5 o5 ho => ⟨(by show 3 ≤ sizeLine; decide), fun T5 nT5 => ?_⟩⟩
          have k5 := same_upd (o := .tup [.non, .non, o]) nT5
          have s6 : Same H (upd H4 T5 (.tup [.non, .non, o])) := fun b o hb => k5 _ _ (o5 _ _ (s4 _ _ hb) (ne_of_none hb np) (ne_of_none hb nl') (ne_of_none hb nd') (ne_of_none hb ne'))
          have tk5 := P4.tk o5
          have T6 := T4.off o5 tk5 W1 W2 W3 W4
          have P6 := P5.same k5
          obtain ⟨Ts', u1, u2, u3⟩ := T6
          have u1' := k5 _ _ u1
          have hd' : (evAt es i).d = false := by rw [hev]; exact hd
          refine ⟨W, _, .ref T5, rfl, rfl, u1', small1000 (by rw [List.length_map]; omega), _, _, _, _, y8, y9, y10, y11, y12, rfl, Same.off s6 nWH off_upd, ?_, ?_⟩
          · rw [runS_up hd', hev]
            exact P6.updW u1' W1 W2 W3 W4
          · refine Tolds.add u1' u2 (fun j U x => (u3 j U x).keep (Tk.of k5)) ⟨_, _, _, upd_same, ?_, ?_⟩
            · rw [runT_up hd']; exact ⟨rfl, rfl⟩
            · unfold outM
              rw [if_neg (by rw [hd']; decide), hev]
              exact ho.keep (Tk.of k5)
      · rintro σ' H' ⟨rfl, rfl, hd⟩
        have hd' : (evAt es i).d = true := by rw [hev]; exact hd
        have hk0 : es[i].k = ((es[i].k.toNat : Nat) : Int) := by omega
        obtain ⟨t1, t2, t3⟩ := taken_ok hO (runS L es i) (k := es[i].k.toNat) (by omega)
        refine ⟨_, rfl, p, dxp, _, rfl, hp, f_no (by decide +kernel), _, rfl, p, c, l, d, e, i, runS L es i, L, m, es[i].k.toNat, congrArg (fun z => [V.ref p, V.int z]) hk0, P4, hL.same s4, hO, hS.bds, hS.lk, by have := hS.len; omega, by omega, fun H4 T4' v s5 hT4 hv => ?_⟩
        refine ⟨T4', _, rfl, SqT.of hT4, rfl, _, _, rfl, _, _, rfl, rfl, ?_⟩
        have hx : xAt L es i = actAt L (takenL L (runS L es i) es[i].k.toNat) es[i].k.toNat := by unfold xAt; rw [hev]
        rw [← hx] at t2 t3 hv
        refine ⟨(by show 2 ≤ sizeLine; decide), fun T7 nT7 => ?_⟩
        have k7 := same_upd (o := .tup [.non, .str "plain"]) nT7
        refine ⟨T7, _, rfl, SqT.of upd_same, rfl, _, _, rfl, _, _, rfl, rfl, ?_⟩
        have s6 := s5.trans k7
        have P6 := P4.same s6
        have T6 := T4.off (Off4.of s6) (Tk.of s6) W1 W2 W3 W4
        have hv6 := hv.keep (Tk.of k7)
        have s7 := s4.trans s6
        clear hT4
        generalize upd H4 T7 (.tup [.non, .str "plain"]) = H6 at s6 P6 T6 hv6 s7 ⊢
        refine ⟨fun σ' H' => σ' = [some (.ref c), some (.ref g), some (.ref p), some (.ref W), some (.int (i : Nat)), some (.int es[i].t), some (.int es[i].k), some (.str (wayS es[i].d)), some (.int ((takenL L (runS L es i) es[i].k.toNat : Nat) : Int)), some v, some (optN (if isDl (xAt L es i) then sureM es i (xAt L es i) else none)), some (.str (kindM es i (xAt L es i))), y12] ∧ Same H6 H', ?_, ?_⟩
        · refine ⟨_, rfl, v, xAt L es i, L.length, _, rfl, hv6, t2, _, rfl, ?_⟩
          cases hd2 : isDl (xAt L es i) with
          | false =>
            refine iteF ⟨?_, Same.refl _⟩
            rw [if_neg (by decide)]
            unfold kindM
            rw [if_neg (by rw [hd2]; decide)]
            rfl
          | true =>
            refine iteT ⟨_, rfl, _, rfl, _, rfl, g, es, i, v, xAt L es i, rfl, hG.same s7, hi', h4, hv6, hd2, fun H7 s8 => ?_⟩
            refine ⟨_, rfl, _, rfl, _, rfl, g, es, i, sureM es i (xAt L es i), rfl, hG.same (s7.trans s8), hi', fun n hn => (sureM_lt hn).2, fun H8 s9 => ⟨?_, s8.trans s9⟩⟩
            rw [if_pos rfl]
            unfold kindM
            rw [if_pos hd2]
            rfl
        · rintro σ' H7 ⟨rfl, s8⟩
          refine ⟨_, rfl, _, rfl, v, xAt L es i, kindM es i (xAt L es i), rfl, hv6.keep (Tk.of s8), kind_or, fun H8 wv s9 hw => ?_⟩
          have s10 := s8.trans s9
          have P8 := P6.same s10
          have T8 := T6.off (Off4.of s10) (Tk.of s10) W1 W2 W3 W4
          have s11 := s7.trans s10
          obtain ⟨Ts, u1, u2, u3⟩ := id T8
          obtain ⟨dx8, hp8⟩ := P8.ob
          refine ⟨_, rfl, .inl ⟨rfl, _, SqL.of u1⟩, _, rfl, _, rfl, _, rfl, (by show 3 ≤ sizeLine; decide), fun M nM => ?_⟩
          have kM := same_upd (o := .tup [.int ((takenL L (runS L es i) es[i].k.toNat : Nat) : Int), .str (kindM es i (xAt L es i)), wv]) nM
          have hM := upd_same (H := H8) (a := M) (o := .tup [.int ((takenL L (runS L es i) es[i].k.toNat : Nat) : Int), .str (kindM es i (xAt L es i)), wv])
          have P9 := P8.same kM
          have T9 := T8.off (Off4.of kM) (Tk.of kM) W1 W2 W3 W4
          have hw9 := hw.keep (Tk.of kM)
          have s12 := s11.trans kM
          have hp9 := kM _ _ hp8
          refine ⟨_, rfl, _, rfl, p, dx8, _, rfl, hp9, f_no (by decide +kernel), _, rfl, _, rfl, p, c, l, d, e, i, runS L es i, es[i].k, wv, whatM (xAt L es i) (kindM es i (xAt L es i)), rfl, P9, hw9, by rw [hS.lk]; exact what_do t2 t3, by rw [hS.lk]; exact n6, by have := hS.len; omega, by omega, fun H10 o P10 o10 ho => ⟨(by show 3 ≤ sizeLine; decide), fun T11 nT11 => ?_⟩⟩
          have k11 := same_upd (o := .tup [.ref M, optN (if isDl (xAt L es i) then sureM es i (xAt L es i) else none), o]) nT11
          have s13 : Same H (upd H10 T11 (.tup [.ref M, optN (if isDl (xAt L es i) then sureM es i (xAt L es i) else none), o])) := fun b o hb => k11 _ _ (o10 _ _ (s12 _ _ hb) (ne_of_none hb np) (ne_of_none hb nl') (ne_of_none hb nd') (ne_of_none hb ne'))
          have tk10 := P9.tk o10
          obtain ⟨Ts', x1, x2, x3⟩ := T9.off o10 tk10 W1 W2 W3 W4
          have x1' := k11 _ _ x1
          have P11 := P10.same k11
          refine ⟨W, _, .ref T11, rfl, rfl, x1', small1000 (by rw [List.length_map]; omega), _, _, _, _, _, _, _, _, _, rfl, Same.off s13 nWH off_upd, ?_, ?_⟩
          · rw [runS_dn hd', hev]
            exact P11.updW x1' W1 W2 W3 W4
          · refine Tolds.add x1' x2 (fun j U x => (x3 j U x).keep (Tk.of k11)) ⟨_, _, _, upd_same, ?_, ?_⟩
            · rw [runT_dn hd', hev]
              exact ⟨rfl, M, wv, rfl, k11 _ _ (tk10 _ _ hM), (hw9.keep tk10).keep (Tk.of k11)⟩
            · unfold outM
              rw [if_pos hd']
              exact ho.keep (Tk.of k11)
    · obtain ⟨y4, y5, y6, y7, y8, y9, y10, y11, y12, rfl, s3, P3, T3⟩ := z
      rw [hlen] at P3 T3
      refine ⟨_, rfl, _, rfl, (by show 2 ≤ sizeLine; decide), fun R nR => ?_⟩
      have kR := same_upd (o := .tup [.ref p, .ref W]) nR
      exact q _ R p l d e W (s3.trans kR) upd_same (P3.same kR) (T3.off (Off4.of kR) (Tk.of kR) W1 W2 W3 W4)
end
end K86

set_option Elab.async false
set_option linter.all false
set_option maxRecDepth 100000
set_option maxHeartbeats 8000000
namespace K86
open PySem PySem.Spec PyProof.Rows L2 Gd Rm La Cb Pl
section
variable {P : Program} {w : World} {K : PySem.W.Frag} {mg : Str → Option Value} {base : Heap}
def spPlayable : Sp := fun vs H Q _ => ∃ (c g : Addr) (L : List (List Actn)) (m : Nat) (es : List Ev), vs = [.ref c, .ref g] ∧ Lay H c L ∧ LayOk L m ∧ Lst evV H g es ∧ Valid es ∧ es.length ≤ 400 ∧ (∀ e ∈ es, e.k < (m : Int)) ∧ ∀ H', Same H H' → Q .non H'
theorem ok_check_playable (bt : Bt mg) (a : At K mg "check_playable" s_check_playable ["layout", "record"]) (c_check_layout : Cl P w K mg base 7 "check_layout" spCheckL) (c_check_record : Cl P w K mg base 4 "check_record" spCheck) : Cl P w K mg base 8 "check_playable" spPlayable := by
  refine clG a sc_check_playable (fun vs H Q E h => ?_) (fun f cdv A outer s H vs Q hg hr h => ?_)
  · obtain ⟨c, g, L, m, es, rfl, _⟩ := h
    rfl
  · obtain ⟨c, g, L, m, es, rfl, hL, hO, hG, hV, h4, hkm, q⟩ := h
    refine ⟨_, (pss_cons (ps_expr (pe_cl c_check_layout hg hr (by decide) (by rfl) (pa_cons (pv 0) pa_nil)))
      (pss_one (ps_expr (pe_cl c_check_record hg hr (by decide) (by rfl) (pa_cons (pv 1) (pa_cons (pe_callB call_len_seq (by rfl) bt.m_len (by decide +kernel) (pa_cons (pe_ix ix_list (pv 0) pe_int (fun _ _ => rfl)) pa_nil)) pa_nil)))))), ?_⟩
    obtain ⟨rs, hc, hR⟩ := id hL
    refine ⟨_, rfl, c, L, m, rfl, hL, hO, fun H1 s1 => ?_⟩
    obtain ⟨rs, hc, hR⟩ := hL.same s1
    have n1 := hO.n1
    obtain ⟨r, hr1, vs, hvs, ha⟩ := hR.at_ (i := 0) (by omega)
    refine ⟨_, rfl, _, rfl, c, _, _, .ref r, rfl, rfl, SqL.of hc, atI_nat (j := 0) (get_map_ref hr1), r, vs, rfl, .inl (SqL.of hvs), ?_⟩
    have hl : vs.length = m := by rw [ha.1]; exact hO.len _ (List.getElem_mem _)
    rw [hl]
    exact ⟨g, m, es, rfl, hG.same s1, hV, h4, hkm, fun H2 s2 => q _ (s1.trans s2)⟩
end
section
variable {P : Program} {w : World} {K : PySem.W.Frag} {mg : Str → Option Value} {base : Heap}
structure RecOk (keys : Int) (size : Nat) (es : List Ev) : Prop where
  valid : Valid es
  len : es.length = size
  key : ∀ e ∈ es, 0 ≤ e.k ∧ e.k < keys
  tick : ∀ e ∈ es, -(10 ^ 20) < e.t ∧ e.t < 10 ^ 20
def spRec : Sp := fun vs H Q _ => ∃ (r g : Addr) (n size : Nat) (keys : Int) (gs : List Int), vs = [.ref r, .int keys, .int (size : Int), .ref g] ∧ Reel H r n ∧ n + 4000 < most ∧ 0 < keys ∧ keys ≤ 1000 ∧ size ≤ 400 ∧
  H g = some (.lst (gs.map V.int)) ∧ g ≠ r ∧ 0 < gs.length ∧ gs.length ≤ 10 ∧ (∀ x ∈ gs, 0 ≤ x ∧ x ≤ 10 ^ 10) ∧
  ∀ (H' : Hp) (p : Addr) (es : List Ev), Off r H H' → H p = none → Reel H' r (n + 2000) → Lst evV H' p es → RecOk keys size es → Q (.ref p) H'
structure RecIn (H0 : Hp) (r g F Dn : Addr) (gs : List Int) (m : Nat) (keys : Int) (i : Nat) (tick : Int) (es : List Ev) (ns : List Int) (H : Hp) : Prop where
  Fr : F ≠ r
  Dr : Dn ≠ r
  FD : F ≠ Dn
  gr : g ≠ r
  nF : H0 F = none
  nD : H0 Dn = none
  gap0 : H0 g = some (.lst (gs.map V.int))
  off : Off r H0 H
  reel : Reel H r m
  gap : H g = some (.lst (gs.map V.int))
  found : Lst evV H F es
  down : H Dn = some (.lst (ns.map V.int))
  ok : RecOk keys i es
  dn : DownOk ns es
  key : ∀ k ∈ ns, 0 ≤ k ∧ k < keys
  nl : ns.length ≤ i
  last : ∀ e ∈ es, e.t ≤ tick
  tk : -(10 ^ 16) ≤ tick ∧ tick ≤ 10 ^ 16 + i * 10 ^ 10
section
variable {H0 H H' : Hp} {r g F Dn : Addr} {gs : List Int} {m m' : Nat} {keys : Int} {i : Nat} {tick : Int} {es : List Ev} {ns : List Int}
theorem RecIn.go (h : RecIn H0 r g F Dn gs m keys i tick es ns H) (o : Off r H H') (R : Reel H' r m') : RecIn H0 r g F Dn gs m' keys i tick es ns H' := by
  obtain ⟨x, y, z, hr, _⟩ := id h.reel
  exact { h with off := h.off.trans o, reel := R, gap := o _ _ h.gap h.gr, found := h.found.off hr h.Fr o, down := o _ _ h.down h.Dr }
theorem RecIn.same (h : RecIn H0 r g F Dn gs m keys i tick es ns H) (o : Same H H') : RecIn H0 r g F Dn gs m keys i tick es ns H' := h.go (Off.of o) (h.reel.same o)
theorem RecIn.push {p : Addr} {ns' : List Int} {e : Ev} (h : RecIn H0 r g F Dn gs m keys i tick es ns H) (np : upd H Dn (.lst (ns'.map V.int)) p = none)
    (dn : DownOk ns' (es ++ [e])) (hv : Valid (es ++ [e])) (hk : 0 ≤ e.k ∧ e.k < keys) (hns : ∀ k ∈ ns', 0 ≤ k ∧ k < keys) (nl : ns'.length ≤ i + 1) (ht : tick ≤ e.t) (tk : e.t ≤ 10 ^ 16 + ((i + 1 : Nat) : Int) * 10 ^ 10) (hi : i < 1000) :
    ∃ as : List Addr, upd (upd H Dn (.lst (ns'.map V.int))) p (.tup (evV e)) F = some (.lst (as.map V.ref)) ∧ as.length = i ∧
      RecIn H0 r g F Dn gs m keys (i + 1) e.t (es ++ [e]) ns' (upd (upd (upd H Dn (.lst (ns'.map V.int))) p (.tup (evV e))) F (.lst (as.map V.ref ++ [.ref p]))) := by
  obtain ⟨x, y, z, hr, hb⟩ := id h.reel
  obtain ⟨as, hF, hT⟩ := h.found
  have gD : g ≠ Dn := ne_of_none h.gap0 h.nD
  have gF : g ≠ F := ne_of_none h.gap0 h.nF
  have hr1 : upd H Dn (.lst (ns'.map V.int)) r = some (.lst [.int x, .int y, .int z]) := by rw [upd_ne h.Dr.symm]; exact hr
  have hF1 : upd H Dn (.lst (ns'.map V.int)) F = some (.lst (as.map V.ref)) := by rw [upd_ne h.FD]; exact hF
  have hg1 : upd H Dn (.lst (ns'.map V.int)) g = some (.lst (gs.map V.int)) := by rw [upd_ne gD]; exact h.gap
  have hT1 : Tups (upd H Dn (.lst (ns'.map V.int))) evV as es := hT.off h.down off_upd
  have hD1 : upd H Dn (.lst (ns'.map V.int)) Dn = some (.lst (ns'.map V.int)) := upd_same
  have o1 : Off r H0 (upd H Dn (.lst (ns'.map V.int))) := h.off.new h.nD
  generalize upd H Dn (.lst (ns'.map V.int)) = H1 at *
  have hF2 := (same_upd (o := .tup (evV e)) np) _ _ hF1
  have hr2 := (same_upd (o := .tup (evV e)) np) _ _ hr1
  have hg2 := (same_upd (o := .tup (evV e)) np) _ _ hg1
  have hD2 := (same_upd (o := .tup (evV e)) np) _ _ hD1
  have hp : upd H1 p (.tup (evV e)) p = some (.tup (evV e)) := upd_same
  have pF : p ≠ F := (ne_of_none hF1 np).symm
  have hl := h.ok.len
  have hal := hT.1
  refine ⟨as, hF2, by omega, ?_⟩
  refine { h with off := (o1.sameTrans (same_upd np)).new h.nF, reel := ⟨x, y, z, by rw [upd_ne h.Fr.symm]; exact hr2, hb⟩, gap := by rw [upd_ne gF]; exact hg2,
                  found := ⟨as ++ [p], by rw [upd_same, List.map_append]; rfl, Tups.snoc ((hT1.same (same_upd np)).off hF2 off_upd) (by rw [upd_ne pF]; exact hp)⟩,
                  down := by rw [upd_ne h.FD.symm]; exact hD2, ok := ⟨hv, by rw [List.length_append, hl]; rfl, fun x hx => ?_, fun x hx => ?_⟩, dn := dn, key := hns, nl := nl, last := fun x hx => ?_, tk := ⟨by have := h.tk.1; omega, tk⟩ }
  · rcases List.mem_append.mp hx with hx | hx
    · exact h.ok.key x hx
    · rw [List.mem_singleton.mp hx]; exact hk
  · rcases List.mem_append.mp hx with hx | hx
    · exact h.ok.tick x hx
    · rw [List.mem_singleton.mp hx]
      have := h.tk.1
      exact ⟨by omega, by omega⟩
  · rcases List.mem_append.mp hx with hx | hx
    · have := h.last x hx; omega
    · rw [List.mem_singleton.mp hx]; exact Int.le_refl _
theorem RecIn.mono (h : RecIn H0 r g F Dn gs m keys i tick es ns H) (l : m ≤ m') : RecIn H0 r g F Dn gs m' keys i tick es ns H := { h with reel := h.reel.mono l }
end
theorem ok__law_record (bt : Bt mg) (a : At K mg "_law_record" s__law_record ["_law_reel_here", "_law_keys", "_law_size", "_law_gaps"]) (c__law_spin : Cl P w K mg base 1 "_law_spin" spSpin) : Cl P w K mg base 2 "_law_record" spRec := by
  refine clG a sc__law_record (fun vs H Q E h => ?_) (fun f cdv A outer s H vs Q hg hr h => ?_)
  · obtain ⟨r, g, n, size, keys, gs, rfl, _⟩ := h
    rfl
  · obtain ⟨r, g, n, size, keys, gs, rfl, hR, hn, hk0, hk1, hs, hG, gr, g0, g1, g2, q⟩ := h
    have hn' : n + 4000 < 1000000000 := hn
    refine ⟨_, (pss_cons (ps_par3 (i := 4) (j := 5) (l := 6) rfl sc__law_record.nd rfl rfl rfl (by decide) (by decide) (by decide) rfl rfl rfl (pa_cons (pe_lst pa_nil) (pa_cons (pe_lst pa_nil) (pa_cons (pe_ix ix_list (pe_lst (pa_cons pe_int (pa_cons (pe_op op_sub pe_int (pe_op op_powW pe_int pe_int)) (pa_cons (pe_cl c__law_spin hg hr (by decide) (by rfl) (pa_cons (pv 0) (pa_cons (pe_op op_powW pe_int pe_int) pa_nil))) pa_nil)))) (pe_cl c__law_spin hg hr (by decide) (by rfl) (pa_cons (pv 0) (pa_cons pe_int pa_nil))) (fun _ _ => rfl)) pa_nil))) (by rfl))
      (pss_cons (ps_for PassesOwn.never rfl (pi_range1 (by rfl) bt.m_range (pa_cons (pv 2) pa_nil)) (pg_name (i := 7) sc__law_record.nd rfl (Or.inl rfl)) (pss_cons (ps_set (i := 8) sc__law_record.nd rfl (Or.inl rfl) (pe_cl c__law_spin hg hr (by decide) (by rfl) (pa_cons (pv 0) (pa_cons (pv 1) pa_nil))))
      (C8.pss_cut (ps_if (PW.pt (pw_and (pt_cmpR (op_neD hr.units) (pv 5) (pe_lst pa_nil) (nomark _)) (pw_and1 (pt_cmpR op_eq (pe_cl c__law_spin hg hr (by decide) (by rfl) (pa_cons (pv 0) (pa_cons pe_int pa_nil))) pe_int (nomark _))))) (pss_one (ps_set (i := 8) sc__law_record.nd rfl (Or.inl rfl) (pe_ix ix_list (pv 5) (pe_cl c__law_spin hg hr (by decide) (by rfl) (pa_cons (pv 0) (pa_cons (pe_callB call_len_seq (by rfl) bt.m_len (by decide +kernel) (pa_cons (pv 5) pa_nil)) pa_nil))) (fun _ _ => rfl)))) pss_nil)
      (pss_cons (ps_set (i := 6) sc__law_record.nd rfl (Or.inl rfl) (pe_op op_add (pv 6) (pe_ix ix_list (pv 3) (pe_cl c__law_spin hg hr (by decide) (by rfl) (pa_cons (pv 0) (pa_cons (pe_callB call_len_seq (by rfl) bt.m_len (by decide +kernel) (pa_cons (pv 3) pa_nil)) pa_nil))) (fun _ _ => rfl))))
      (pss_one (ps_if (pt_cmpR op_in_seq (pv 8) (pv 5) (by rfl)) (pss_cons (ps_expr (pe_bm PySem.F.plainAttrs_list PySem.F.slot_list_remove PySem.F.type_list_remove mt_remove (pv 5) (pa_cons (pv 8) pa_nil)))
      (pss_one (ps_expr (pe_bm PySem.F.plainAttrs_list PySem.F.slot_list_append PySem.F.type_list_append mt_append (pv 4) (pa_cons (pe_tup (pa_cons (pv 6) (pa_cons (pv 8) (pa_cons pe_str pa_nil)))) pa_nil))))) (pss_cons (ps_expr (pe_bm PySem.F.plainAttrs_list PySem.F.slot_list_append PySem.F.type_list_append mt_append (pv 5) (pa_cons (pv 8) pa_nil)))
      (pss_one (ps_expr (pe_bm PySem.F.plainAttrs_list PySem.F.slot_list_append PySem.F.type_list_append mt_append (pv 4) (pa_cons (pe_tup (pa_cons (pv 6) (pa_cons (pv 8) (pa_cons pe_str pa_nil)))) pa_nil)))))))))))
      (pss_one (ps_ret (pv 4))))), ?_⟩
    refine ⟨Nat.zero_le _, fun F nF => ⟨Nat.zero_le _, fun Dn nD => ?_⟩⟩
    have FD : F ≠ Dn := ne_of_none upd_same nD
    have s1 : Same H (upd (upd H F (.lst [])) Dn (.lst [])) := (same_upd nF).trans (same_upd nD)
    have hF1 : upd (upd H F (.lst [])) Dn (.lst []) F = some (.lst []) := by rw [upd_ne FD]; exact upd_same
    have hD1 : upd (upd H F (.lst [])) Dn (.lst []) Dn = some (.lst []) := upd_same
    have nD0 : H Dn = none := (same_upd nF).free nD
    obtain ⟨rx, ry, rz, hr0, _⟩ := id hR
    have Fr : F ≠ r := (ne_of_none hr0 nF).symm
    have Dr : Dn ≠ r := (ne_of_none hr0 nD0).symm
    have Fg : F ≠ g := (ne_of_none hG nF).symm
    have Dg : Dn ≠ g := (ne_of_none hG nD0).symm
    have hR1 := hR.same s1
    generalize upd (upd H F (.lst [])) Dn (.lst []) = H1 at s1 hF1 hD1 hR1
    -- [0, 0 - 10 ** 15, spin][spin]
    refine ⟨_, _, rfl, rfl, powW (n := 40) (k := 15) (by decide) (by decide), _, _, rfl, rfl, ?_⟩
    refine ⟨_, rfl, _, _, rfl, rfl, powW (n := 40) (k := 14) (by decide) (by decide), r, _, n, rfl, by decide, by decide, by show n < 1000000000; omega, hR1, fun d1 H2 d10 d11 hR2 o2 => ?_⟩
    refine ⟨by show 3 ≤ sizeLine; decide, fun L nL => ?_⟩
    refine ⟨_, rfl, r, 3, n + 1, rfl, by decide, by decide, by show n + 1 < 1000000000; omega, hR2.same (same_upd nL), fun d2 H3 d20 d21 hR3 o3 => ?_⟩
    have Lr : L ≠ r := by
      obtain ⟨_, _, _, hr2, _⟩ := id hR2
      exact (ne_of_none hr2 nL).symm
    have hL3 : H3 L = some (.lst ([0, 0 - 10 ^ 15, d1].map V.int)) := o3 _ _ upd_same Lr
    obtain ⟨t0, at0, m0⟩ := getI (ns := [0, 0 - 10 ^ 15, d1]) d20 (by show d2 < 3; exact d21)
    have bt0 : -(10 ^ 16) ≤ t0 ∧ t0 ≤ 10 ^ 16 + ((0 : Nat) : Int) * 10 ^ 10 := by
      have hm := List.mem_of_getElem? m0
      have d11' : d1 < 10 ^ 14 := d11
      simp only [List.mem_cons, List.mem_nil_iff, or_false] at hm
      omega
    have hF3 : Lst evV H3 F [] := by
      obtain ⟨_, _, _, hr2, _⟩ := id hR2
      refine ⟨[], ?_, Tups.nil⟩
      exact o3 _ _ ((same_upd nL) _ _ (o2 _ _ hF1 Fr)) Fr
    have hD3 : H3 Dn = some (.lst (([] : List Int).map V.int)) := o3 _ _ ((same_upd nL) _ _ (o2 _ _ hD1 Dr)) Dr
    have hG3 : H3 g = some (.lst (gs.map V.int)) := o3 _ _ ((same_upd nL) _ _ (o2 _ _ (s1 _ _ hG) gr)) gr
    have I0 : RecIn H r g F Dn gs (n + 2 + 4 * 0) keys 0 t0 [] [] H3 :=
      ⟨Fr, Dr, FD, gr, nF, nD0, hG, (Off.of s1).trans (o2.trans ((Off.of (same_upd nL)).trans o3)), hR3, hG3, hF3, hD3,
        ⟨Valid.nil, rfl, fun e h => by simp at h, fun e h => by simp at h⟩, DownOk.nil, fun k h => by simp at h, Nat.le_refl _, fun e h => by simp at h, bt0⟩
    refine ⟨L, _, d2, .int t0, rfl, rfl, SqL.of hL3, at0, _, _, _, rfl, ?_⟩
    refine ⟨_, rfl, (size : Int), rfl, by omega, by omega, for_it walk_range (fun i σ H' => ∃ tick es ns y7 y8, σ = [some (.ref r), some (.int keys), some (.int (size : Int)), some (.ref g), some (.ref F), some (.ref Dn), some (.int tick), y7, y8] ∧
      RecIn H r g F Dn gs (n + 2 + 4 * i) keys i tick es ns H') ⟨t0, [], [], _, _, rfl, I0⟩ (fun _ _ _ _ _ => True.intro) (fun i x σ H4 H5 hi p y => ?_) (fun σ H4 p => ?_)⟩
    · obtain ⟨tick, es, ns, y7, y8, rfl, R⟩ := p
      obtain ⟨rfl, rfl⟩ := y
      have hi' : i < size := by omega
      -- key = spin(reel, keys)
      refine ⟨_, rfl, _, rfl, r, keys, n + 2 + 4 * i, rfl, hk0, Int.lt_of_le_of_lt hk1 (by decide), by show _ < 1000000000; omega, R.reel, fun k H5 k0 k1 R5 o5 => ?_⟩
      have R1 := R.go o5 R5
      clear R R5 o5
      refine ⟨fun σ' H' => ∃ k : Int, σ' = [some (.ref r), some (.int keys), some (.int (size : Int)), some (.ref g), some (.ref F), some (.ref Dn), some (.int tick), some (.int (0 + (i : Int))), some (.int k)] ∧ 0 ≤ k ∧ k < keys ∧ RecIn H r g F Dn gs (n + 2 + 4 * i + 3) keys i tick es ns H', ?_, ?_⟩
      · -- if down != [] and spin(reel, 2) == 0
        refine ⟨_, rfl, Nat.zero_le _, fun e ne => ?_⟩
        have R2 := R1.same (same_upd (o := .lst []) ne)
        refine ⟨_, _, .lst (SqL.of R2.down) (dpInts ns), .lst (SqL.of upd_same) .nil, shaped_ints ns, shaped_nil, _, rfl, ?_⟩
        rw [eqv_nil]
        cases ns with
        | nil => exact iteF (iteF ⟨k, rfl, k0, k1, R2.mono (by omega)⟩)
        | cons d0 dr =>
          refine iteT ⟨_, rfl, r, 2, n + 2 + 4 * i + 1, rfl, by decide, by decide, by show _ < 1000000000; omega, R2.reel, fun b H6 b0 b1 R6 o6 => ⟨rfl, _, rfl, ite2 (fun z => ?_) (fun z => ?_)⟩⟩
          · have R3 := R2.go o6 R6
            refine ⟨_, rfl, _, rfl, _, rfl, Dn, _, rfl, .inl (SqL.of R3.down), r, _, n + 2 + 4 * i + 1 + 1, rfl, ?_, ?_, by show _ < 1000000000; omega, R3.reel, fun c H7 c0 c1 R7 o7 => ?_⟩
            · rw [List.length_map, List.length_cons]; omega
            · have := R3.nl
              rw [List.length_map]
              have h2 : (10 : Int) ^ 40 > 1000 := by decide
              omega
            · have R4 := R3.go o7 R7
              rw [List.length_map] at c1
              obtain ⟨k', ak, mk⟩ := getI (ns := d0 :: dr) c0 c1
              have hk' := R4.key k' (List.mem_of_getElem? mk)
              exact ⟨Dn, _, c, _, rfl, rfl, SqL.of R4.down, ak, k', rfl, hk'.1, hk'.2, R4.mono (by omega)⟩
          · exact ⟨k, rfl, k0, k1, (R2.go o6 R6).mono (by omega)⟩
      · rintro σ' H' ⟨k, rfl, k0, k1, R⟩
        refine ⟨_, rfl, _, rfl, _, rfl, _, rfl, g, _, rfl, .inl (SqL.of R.gap), r, _, n + 2 + 4 * i + 3, rfl, ?_, ?_, by show _ < 1000000000; omega, R.reel, fun c H6 c0 c1 R6 o6 => ?_⟩
        · rw [List.length_map]; omega
        · rw [List.length_map]
          have h2 : (10 : Int) ^ 40 > 1000 := by decide
          omega
        · have R2 := R.go o6 R6
          rw [List.length_map] at c1
          obtain ⟨dv, adv, mdv⟩ := getI (ns := gs) c0 c1
          have hdv := g2 dv (List.mem_of_getElem? mdv)
          refine ⟨g, _, c, _, rfl, rfl, SqL.of R2.gap, adv, _, _, rfl, rfl, ?_⟩
          have htk := R2.tk
          have hup : tick + dv ≤ 10 ^ 16 + ((i + 1 : Nat) : Int) * 10 ^ 10 := by
            have e : ((i + 1 : Nat) : Int) * 10 ^ 10 = (i : Int) * 10 ^ 10 + 10 ^ 10 := by rw [Int.natCast_add, Int.add_mul]; rfl
            omega
          refine ⟨_, rfl, _, rfl, Dn, _, rfl, .inl (SqL.of R2.down), rfl, flat_ints ns, _, rfl, ?_⟩
          show (if inV (.int k) (ns.map V.int) = true then _ else _)
          rw [inv_int]
          have hlast : ∀ e' ∈ es, e'.t ≤ tick + dv := fun e' he => by have := R2.last e' he; omega
          have eqm : n + 2 + 4 * (i + 1) = n + 2 + 4 * i + 3 + 1 := by omega
          refine ite2 (fun z => ?_) (fun z => ?_)
          · have zm : k ∈ ns := of_decide_eq_true z
            obtain ⟨j, hj⟩ := List.getElem?_of_mem zm
            refine ⟨_, rfl, .inl ⟨rfl, _, SqL.of R2.down⟩, _, rfl, Dn, ns, k, j, rfl, rfl, R2.down, hj, first_ix R2.dn.nd hj, ?_⟩
            have hF := R2.found
            refine ⟨_, rfl, ?_, _, rfl, _, rfl, (by show 3 ≤ sizeLine; decide), fun p np => ?_⟩
            · obtain ⟨as, hFa, _⟩ := hF
              exact .inl ⟨rfl, _, SqL.of (by rw [upd_ne R2.FD]; exact hFa)⟩
            · obtain ⟨as, h1, h2, R3⟩ := R2.push (e := ⟨tick + dv, k, false⟩) np (R2.dn.up hj) (R2.ok.valid.snoc k0 ((R2.dn.mem k).mp zm) hlast) ⟨k0, k1⟩
                (fun x hx => R2.key x ((mem_eraseIdx R2.dn.nd hj x).mp hx).2) (by have := R2.nl; have := List.length_eraseIdx_le ns j; omega) (by show tick ≤ tick + dv; omega) hup (by omega)
              refine ⟨F, _, .ref p, rfl, rfl, h1, by rw [List.length_map, h2]; exact small1000 (by omega), tick + dv, es ++ [⟨tick + dv, k, false⟩], ns.eraseIdx j, _, _, rfl, ?_⟩
              rw [eqm]
              exact R3
          · have zm : ¬ k ∈ ns := fun q => z (decide_eq_true q)
            refine ⟨_, rfl, .inl ⟨rfl, _, SqL.of R2.down⟩, _, rfl, Dn, _, .int k, rfl, rfl, R2.down, by rw [List.length_map]; have := R2.nl; exact small1000 (by omega), ?_⟩
            have hF := R2.found
            have emap : (ns.map V.int) ++ [V.int k] = (ns ++ [k]).map V.int := by rw [List.map_append]; rfl
            rw [emap]
            refine ⟨_, rfl, ?_, _, rfl, _, rfl, (by show 3 ≤ sizeLine; decide), fun p np => ?_⟩
            · obtain ⟨as, hFa, _⟩ := hF
              exact .inl ⟨rfl, _, SqL.of (by rw [upd_ne R2.FD]; exact hFa)⟩
            · obtain ⟨as, h1, h2, R3⟩ := R2.push (e := ⟨tick + dv, k, true⟩) np (R2.dn.down zm) (R2.ok.valid.snoc k0 (R2.dn.not zm) hlast) ⟨k0, k1⟩
                (fun x hx => by
                  rcases List.mem_append.mp hx with hx | hx
                  · exact R2.key x hx
                  · rw [List.mem_singleton.mp hx]; exact ⟨k0, k1⟩) (by rw [List.length_append]; have := R2.nl; simp; omega) (by show tick ≤ tick + dv; omega) hup (by omega)
              refine ⟨F, _, .ref p, rfl, rfl, h1, by rw [List.length_map, h2]; exact small1000 (by omega), tick + dv, es ++ [⟨tick + dv, k, true⟩], ns ++ [k], _, _, rfl, ?_⟩
              rw [eqm]
              exact R3
    · obtain ⟨tick, es, ns, y7, y8, rfl, R⟩ := p
      have e : ((size : Int)).toNat = size := Int.toNat_natCast size
      rw [e] at R
      exact ⟨_, rfl, q H4 F es R.off nF (R.reel.mono (by omega)) R.found R.ok⟩
end
end K86

set_option Elab.async false
set_option linter.all false
set_option maxRecDepth 100000
set_option maxHeartbeats 8000000
namespace K86
open PySem PySem.Spec PyProof.Rows L2 Gd Rm La Cb Pl
/-- x[i] of a tuple or of a text -/
def rIxE (K : PySem.W.Frag) : R2 := fun x y H Q => rIxT K x y H Q ∨ rIxS x y H Q
theorem ix_either {X : Cx} : IxR X (rIxE X.K) := by
  intro value slice pins s σ H x y v u Q I rx ry h hs
  rcases h with h | h
  · exact ix_tup value slice pins s σ H x y v u Q I rx ry h hs
  · exact ix_str value slice pins s σ H x y v u Q I rx ry h hs
/-- the first sign of an action's text, or its word -/
def headW : Actn → Str
  | .none => ⟨#['n'.toNat]⟩
  | .thr => ⟨#['t'.toNat]⟩
  | .code _ => "code"
  | .lay w _ => w
  | .dualC _ _ _ _ => "dual"
  | .dualL _ _ _ _ => "dual"
theorem act_head {K : PySem.W.Frag} {x : Actn} {v : V} {H : Hp} {Q : VK} (h : ActV H x v) (q : Q (.str (headW x)) H) : rIxE K v (.int 0) H Q := by
  cases x with
  | none => cases h; exact .inr ⟨_, 0, _, rfl, rfl, by decide +kernel, rfl, q⟩
  | thr => cases h; exact .inr ⟨_, 0, _, rfl, rfl, by decide +kernel, rfl, q⟩
  | code c => obtain ⟨a, rfl, ha⟩ := h; exact .inl ⟨a, _, 0, _, rfl, rfl, SqT.of ha, atI_nat (j := 0) rfl, q⟩
  | lay w j => obtain ⟨a, rfl, ha⟩ := h; exact .inl ⟨a, _, 0, _, rfl, rfl, SqT.of ha, atI_nat (j := 0) rfl, q⟩
  | dualC c d t r => obtain ⟨a, b, rfl, ha, hb⟩ := h; exact .inl ⟨a, _, 0, _, rfl, rfl, SqT.of ha, atI_nat (j := 0) rfl, q⟩
  | dualL c d t r => obtain ⟨a, b, rfl, ha, hb⟩ := h; exact .inl ⟨a, _, 0, _, rfl, rfl, SqT.of ha, atI_nat (j := 0) rfl, q⟩
theorem head_dual {n i : Int} {x : Actn} (h : ActOk n i x) : decide (headW x = (("dual" : String) : Str)) = isDl x := by
  cases x with
  | lay w j =>
    refine decide_eq_false ?_
    intro e
    have e : w = (("dual" : String) : Str) := e
    subst e
    have := h.1
    revert this
    decide +kernel
  | none => decide +kernel
  | thr => decide +kernel
  | code _ => exact (show decide (((("code" : String) : Str)) = ((("dual" : String) : Str))) = false by decide +kernel)
  | dualC _ _ _ _ => exact (decide_eq_true rfl)
  | dualL _ _ _ _ => exact (decide_eq_true rfl)
theorem neI {a b : Int} {p : Bool} (h : (!decide (a = b)) = p) : V.bl (!decide (V.int a = V.int b)) = .bl p := by
  rw [← h]
  by_cases z : a = b <;> simp [z]
def argL : Actn → Int
  | .lay _ j => j
  | _ => 0
theorem do_lay {n : Nat} {x : Actn} {u : Str} (h : DoOk n x) (e : headW x = u) (hu : u ∈ layWords) : ∃ j, x = .lay u j ∧ 1 ≤ j ∧ j < n := by
  cases x with
  | lay w j => exact ⟨j, by rw [← e]; rfl, h.2.1, h.2.2⟩
  | none => subst e; exact absurd hu (show ¬ headW .none ∈ layWords by decide +kernel)
  | code c => subst e; exact absurd hu (show ¬ (("code" : String) : Str) ∈ layWords by decide +kernel)
  | thr => exact h.elim
  | dualC _ _ _ _ => exact h.elim
  | dualL _ _ _ _ => exact h.elim
theorem do_code {n : Nat} {x : Actn} (h : DoOk n x) (e : headW x = (("code" : String) : Str)) : ∃ c, x = .code c := by
  cases x with
  | code c => exact ⟨c, rfl⟩
  | lay w j =>
    have e : w = (("code" : String) : Str) := e
    subst e
    exact absurd h.1 (show ¬ (("code" : String) : Str) ∈ layWords by decide +kernel)
  | none => exact absurd e (show ¬ headW .none = ((("code" : String) : Str)) by decide +kernel)
  | thr => exact h.elim
  | dualC _ _ _ _ => exact h.elim
  | dualL _ _ _ _ => exact h.elim
theorem dl_two {H : Hp} {x : Actn} {v : V} (hv : ActV H x v) (hd : isDl x = true) : ∃ (a b : Addr) (c r : Str) (t : Int), v = .ref a ∧ H a = some (.tup [.str "dual", .str c, .ref b, .int t, .str r]) ∧ tapOf x = .code c ∧ ActV H (holdOf x) (.ref b) := by
  cases x with
  | dualC c d t r =>
    obtain ⟨a, b, e1, e2, e3⟩ := hv
    exact ⟨a, b, c, r, t, e1, e2, rfl, ⟨b, rfl, e3⟩⟩
  | dualL c j t r =>
    obtain ⟨a, b, e1, e2, e3⟩ := hv
    exact ⟨a, b, c, r, t, e1, e2, rfl, ⟨b, rfl, e3⟩⟩
  | _ => cases hd
def outR : Actn → Outp
  | .code c => .re c
  | _ => .no
theorem relO_eq {s : Sm} {k : Int} : relO s k = outR ((getB s.bd k).getD .none) := by
  unfold relO
  cases getB s.bd k with
  | none => rfl
  | some x => cases x <;> rfl
theorem BdOk.doo {n : Nat} {x : Actn} (h : BdOk n x) : DoOk n x := by
  cases x with
  | code c => exact h
  | lay w j => exact ⟨by rw [h.1]; decide +kernel, h.2.1, by have := h.2.2; omega⟩
  | none => trivial
  | thr => exact h.elim
  | dualC _ _ _ _ => exact h.elim
  | dualL _ _ _ _ => exact h.elim
theorem rel_none {s : Sm} {k : Int} (h : getB s.bd k = none) : release s k = s := by
  unfold Pl.release
  have : dropB s.bd k = s.bd := by
    unfold dropB
    rw [List.filter_eq_self]
    intro p' hp'
    unfold getB at h
    rw [Option.map_eq_none_iff, List.find?_eq_none] at h
    have := h p' hp'
    simpa using this
  rw [this]
end K86

set_option Elab.async false
set_option linter.all false
set_option maxRecDepth 100000
set_option maxHeartbeats 8000000
namespace K86
open PySem PySem.Spec PyProof.Rows L2 Gd Rm La Cb Pl
def outD : Outp → PyData
  | .no => .tuple []
  | .pr c => .tuple [.str "press", .str c]
  | .re c => .tuple [.str "release", .str c]
def OutOk : Outp → Prop
  | .no => True
  | .pr c => CodeOk c
  | .re c => CodeOk c
theorem fit_out {o : Outp} (h : OutOk o) : Fit 500 1 (outD o) := by
  cases o with
  | no => exact ⟨rfl, by decide, by decide +kernel⟩
  | pr c => exact fit_two' (fit_const "press") (fit_code h)
  | re c => exact fit_two' (fit_const "release") (fit_code h)
theorem OutV.dp {K : PySem.W.Frag} {H : Hp} {o : Outp} {v : V} (h : OutV H o v) : Dp K H v (outD o) := by
  obtain ⟨T, rfl, hT⟩ := h
  cases o with
  | no => exact .tup (SqT.of hT) .nil
  | pr c => exact .tup (SqT.of hT) (.cons (.str _) (.cons (.str _) .nil))
  | re c => exact .tup (SqT.of hT) (.cons (.str _) (.cons (.str _) .nil))
theorem out_lay {o : Outp} (h : OutOk o) : SeqAt.shaped (outD o) = true := by
  cases o with
  | no => decide +kernel
  | pr c => simp [SeqAt.shaped, outD, PyData.canLay0, PyData.canLayAll0, PyData.depth, PyData.depthAll, (by decide +kernel : PyData.strOk "press" = true), strOk_code h]
  | re c => simp [SeqAt.shaped, outD, PyData.canLay0, PyData.canLayAll0, PyData.depth, PyData.depthAll, (by decide +kernel : PyData.strOk "release" = true), strOk_code h]
def isOut : Outp → Bool
  | .no => false
  | _ => true
theorem eqv_out : ∀ o : Outp, PyData.eqv (outD o) (.tuple []) = !isOut o
  | .no => by decide +kernel
  | .pr _ => rfl
  | .re _ => rfl
def OutsV (H : Hp) (vs : List V) (os : List Outp) : Prop := vs.length = os.length ∧ ∀ (i : Nat) (v : V) (o : Outp), vs[i]? = some v → os[i]? = some o → OutV H o v
def Outs (H : Hp) (D : Addr) (os : List Outp) : Prop := ∃ vs, H D = some (.lst vs) ∧ OutsV H vs os
section
variable {H H' : Hp} {vs : List V} {os : List Outp} {D : Addr}
theorem OutsV.keep (h : OutsV H vs os) (t : Tk H H') : OutsV H' vs os := ⟨h.1, fun i v o a b => (h.2 i v o a b).keep t⟩
theorem Outs.same (h : Outs H D os) (s : Same H H') : Outs H' D os := by
  obtain ⟨vs, a, b⟩ := h
  exact ⟨vs, s _ _ a, b.keep (Tk.of s)⟩
theorem OutsV.nil : OutsV H [] [] := ⟨rfl, fun i v o h _ => by simp at h⟩
theorem OutsV.snoc {v : V} {o : Outp} (h : OutsV H vs os) (hv : OutV H o v) : OutsV H (vs ++ [v]) (os ++ [o]) := by
  refine ⟨by rw [List.length_append, List.length_append, h.1]; rfl, fun i u y a b => ?_⟩
  have hl := h.1
  rcases Nat.lt_or_ge i vs.length with q | q
  · rw [List.getElem?_append_left q] at a
    rw [List.getElem?_append_left (by omega)] at b
    exact h.2 i u y a b
  · have hi : i = vs.length := by
      have := (List.getElem?_eq_some_iff.mp a).1
      rw [List.length_append] at this
      simp at this
      omega
    subst hi
    rw [List.getElem?_append_right (Nat.le_refl _), Nat.sub_self] at a
    rw [List.getElem?_append_right (by omega), show vs.length - os.length = 0 by omega] at b
    have e1 : v = u := Option.some.inj a
    have e2 : o = y := Option.some.inj b
    subst e1 e2
    exact hv
theorem OutsV.dp {K : PySem.W.Frag} : ∀ {vs : List V} {os : List Outp}, OutsV H vs os → DpAll K H vs (os.map outD)
  | [], [], _ => .nil
  | [], _ :: _, h => by have := h.1; simp at this
  | _ :: _, [], h => by have := h.1; simp at this
  | v :: vs, x :: xs, h => .cons ((h.2 0 v x rfl rfl).dp) (OutsV.dp ⟨by have := h.1; simpa using this, fun i u y a b => h.2 (i + 1) u y (by simpa using a) (by simpa using b)⟩)
theorem Outs.dp {K : PySem.W.Frag} (h : Outs H D os) : Dp K H (.ref D) (.list (os.map outD)) := by
  obtain ⟨vs, a, b⟩ := h
  exact .lst (SqL.of a) b.dp
end
theorem fit_outs {os : List Outp} (h : ∀ o ∈ os, OutOk o) (hl : os.length ≤ 400) : Fit 210000 2 (.list (os.map outD)) := by
  refine Fit.mono (fit_list (L := 500) (n := 1) fun d hd => ?_) (by rw [List.length_map]; omega) (Nat.le_refl _)
  obtain ⟨o, ho, rfl⟩ := List.mem_map.mp hd
  exact fit_out (h o ho)
def outsM (L : List (List Actn)) (es : List Ev) (n : Nat) : List Outp := (List.range n).map (outM L es)
theorem outsM_succ {L : List (List Actn)} {es : List Ev} {n : Nat} : outsM L es (n + 1) = outsM L es n ++ [outM L es n] := by
  unfold outsM
  rw [List.range_succ, List.map_append]
  rfl
theorem outsM_len {L : List (List Actn)} {es : List Ev} {n : Nat} : (outsM L es n).length = n := by unfold outsM; rw [List.length_map, List.length_range]
theorem outM_ok {L : List (List Actn)} {es : List Ev} {m : Nat} (hO : LayOk L m) (hV : Valid es) (hk : ∀ e ∈ es, e.k < (m : Int)) {i : Nat} (hi : i < es.length) : OutOk (outM L es i) := by
  have e := evAt_eq hi
  unfold outM
  split
  · have k0 := (hV i _ (List.getElem?_eq_getElem hi)).1
    have k1 := hk _ (List.getElem_mem hi)
    obtain ⟨_, t2, t3⟩ := taken_ok hO (runS L es i) (k := (evAt es i).k.toNat) (by rw [e]; omega)
    have := what_do (es := es) (j := i) (n := L.length) (x := xAt L es i) t2 t3
    generalize whatM (xAt L es i) (kindM es i (xAt L es i)) = W at this ⊢
    cases W with
    | code c => exact this
    | _ => trivial
  · have hSt := runS_ok hO hV hk i (by omega)
    rw [relO_eq]
    cases g : getB (runS L es i).bd (evAt es i).k with
    | none => trivial
    | some x =>
      obtain ⟨p0, hp0, _, e2⟩ := getB_mem g
      have := hSt.bds p0 hp0
      rw [e2] at this
      cases x with
      | code c => exact this
      | _ => trivial
theorem outsM_ok {L : List (List Actn)} {es : List Ev} {m : Nat} (hO : LayOk L m) (hV : Valid es) (hk : ∀ e ∈ es, e.k < (m : Int)) : ∀ o ∈ outsM L es es.length, OutOk o := fun o ho => by
  unfold outsM at ho
  obtain ⟨i, hi, rfl⟩ := List.mem_map.mp ho
  exact outM_ok hO hV hk (List.mem_range.mp hi)
theorem neD {b : Bool} {x y : PyData} (h : PyData.eqv x y = b) : V.bl (!PyData.eqv x y) = V.bl (!b) := by rw [h]
section
variable {P : Program} {w : World} {K : PySem.W.Frag} {mg : Str → Option Value} {base : Heap}
def spPlayed : Sp := fun vs H Q _ => ∃ (c g : Addr) (L : List (List Actn)) (m : Nat) (es : List Ev), vs = [.ref c, .ref g] ∧ Lay H c L ∧ LayOk L m ∧ Lst evV H g es ∧ Valid es ∧ es.length ≤ 400 ∧ (∀ e ∈ es, e.k < (m : Int)) ∧
  ∀ (H' : Hp) (D : Addr), Same H H' → H D = none → Outs H' D (outsM L es es.length) → Q (.ref D) H'
theorem ok_played (bt : Bt mg) {C : Addr} (a : At K mg "played" s_played ["layout", "record"]) (c_check_playable : Cl P w K mg base 8 "check_playable" spPlayable) (c_play : Cl P w K mg base 3 "play" (spPlay C)) : Cl P w K mg base 9 "played" spPlayed := by
  refine clG a sc_played (fun vs H Q E h => ?_) (fun f cdv A outer s H vs Q hg hr h => ?_)
  · obtain ⟨c, g, L, m, es, rfl, _⟩ := h
    rfl
  · obtain ⟨c, g, L, m, es, rfl, hL, hO, hG, hV, h4, hkm, q⟩ := h
    refine ⟨_, (pss_cons (ps_expr (pe_cl c_check_playable hg hr (by decide) (by rfl) (pa_cons (pv 0) (pa_cons (pv 1) pa_nil))))
      (pss_cons (ps_asg (pe_cl c_play hg hr (by decide) (by rfl) (pa_cons (pv 0) (pa_cons (pv 1) pa_nil))) (pg_tup rfl (pgs_cons (pg_name (i := 2) sc_played.nd rfl (Or.inl rfl)) (pgs_cons (pg_name (i := 3) sc_played.nd rfl (Or.inl rfl)) pgs_nil))))
      (pss_one (ps_ret (pe_lc (own := [("meaning", 4), ("sure", 5), ("output", 6)]) (g := (gTup K 3 (gCons (gName 4) (gCons (gName 5) (gCons (gName 6) gNil))))) (by rfl) sc_played.nd (pi_list (pv 3)) (blkOk_by (N := n_played) (sc := defScope s_played) (by decide +kernel)) (fun _ _ _ _ _ => (pg_tup rfl (pgs_cons (pg_name (i := 4) sc_played.nd rfl (Or.inl rfl)) (pgs_cons (pg_name (i := 5) sc_played.nd rfl (Or.inl rfl)) (pgs_cons (pg_name (i := 6) sc_played.nd rfl (Or.inl rfl)) pgs_nil))))) (fun _ _ _ _ _ => pts_nil) (fun _ _ _ _ _ => (pv 6))))))), ?_⟩
    refine ⟨_, rfl, _, rfl, c, g, L, m, es, rfl, hL, hO, hG, hV, h4, hkm, fun H1 s1 => ?_⟩
    refine ⟨_, rfl, _, rfl, c, g, L, m, es, rfl, hL.same s1, hO, hG.same s1, hV, h4, hkm, fun H2 T p l d e W s2 hT hP hW => ?_⟩
    obtain ⟨Ts, w1, w2, w3⟩ := hW
    have s12 := s1.trans s2
    refine ⟨T, _, rfl, SqT.of hT, rfl, _, _, rfl, _, _, rfl, rfl, ?_⟩
    refine ⟨_, rfl, W, rfl, ⟨_, SqL.of w1⟩, fun M nM => lc_it (walk_list (xs := Ts.map V.ref)) (fun j H' => Same H2 H' ∧ ∃ vs, H' M = some (.lst vs) ∧ OutsV H' vs (outsM L es j)) ⟨same_upd nM, [], upd_same, OutsV.nil⟩ (fun j H' _ p => SqL.of (p.1 _ _ w1)) (fun j x Hx Hy hj p y => ?_) (fun H3 p => ?_)⟩
    · obtain ⟨sx, vs, hM, hvs⟩ := p
      obtain ⟨rfl, hx⟩ := y
      have hj' : j < Ts.length := by rw [List.length_map] at hj; exact hj
      have hTj : Ts[j]? = some Ts[j] := List.getElem?_eq_getElem hj'
      have ex : V.ref Ts[j] = x := Option.some.inj ((get_map_ref hTj).symm.trans hx)
      subst ex
      obtain ⟨mv, sv, ov, f1, f2, f3⟩ := w3 j _ hTj
      have hvl := hvs.1
      rw [outsM_len] at hvl
      refine ⟨Ts[j], _, rfl, SqT.of (sx _ _ f1), rfl, _, _, rfl, _, _, rfl, _, _, rfl, rfl, ?_⟩
      refine ⟨rfl, ⟨_, rfl, vs, hM, small1000 (by omega), Same.off sx nM off_upd, vs ++ [ov], upd_same, ?_⟩⟩
      rw [outsM_succ]
      exact (hvs.snoc (f3.keep (Tk.of sx))).keep (tk_upd hM)
    · obtain ⟨sx, vs, hM, hvs⟩ := p
      have en : (Ts.map V.ref).length = es.length := by rw [List.length_map]; exact w2
      rw [en] at hvs
      exact q _ M (s12.trans sx) (none_back s12 nM) ⟨vs, hM, hvs⟩
end
end K86

set_option Elab.async false
set_option linter.all false
set_option maxRecDepth 100000
set_option maxHeartbeats 8000000
namespace K86
open PySem PySem.Spec PyProof.Rows L2 Gd Rm La Cb Pl
def optI : Option Int → V
  | none => .non
  | some d => .int d
/-- the tick at which the down of a dual is sure -/
def decD (L : List (List Actn)) (es : List Ev) (i : Nat) : Option Int :=
  if (evAt es i).d = true ∧ isDl (xAt L es i) = true then
    match sureM es i (xAt L es i) with
    | some n => some (evAt es n).t
    | none => some ((evAt es i).t + timeOf (xAt L es i))
  else none
def decL (L : List (List Actn)) (es : List Ev) (n : Nat) : List (Option Int) := (List.range n).map (decD L es)
/-- the list of the decisions, while it is made -/
def fdV (L : List (List Actn)) (es : List Ev) (n i : Nat) : List V := (List.range n).map fun j => if j < i then optI (decD L es j) else .non
theorem fdV_len {L : List (List Actn)} {es : List Ev} {n i : Nat} : (fdV L es n i).length = n := by unfold fdV; rw [List.length_map, List.length_range]
theorem fdV_zero {L : List (List Actn)} {es : List Ev} {n : Nat} : fdV L es n 0 = List.replicate n V.non := by
  refine List.ext_getElem? fun j => ?_
  unfold fdV
  rw [List.getElem?_map, List.getElem?_replicate]
  by_cases h : j < n
  · rw [List.getElem?_range h, if_pos h]; rfl
  · rw [if_neg h, List.getElem?_eq_none (by rw [List.length_range]; omega)]; rfl
theorem fdV_end {L : List (List Actn)} {es : List Ev} {n : Nat} : fdV L es n n = (decL L es n).map optI := by
  unfold fdV decL
  rw [List.map_map]
  refine List.map_congr_left fun j hj => ?_
  rw [if_pos (List.mem_range.mp hj)]
  rfl
theorem fdV_set {L : List (List Actn)} {es : List Ev} {n i : Nat} {d : Int} (h : decD L es i = some d) : (fdV L es n i).set i (.int d) = fdV L es n (i + 1) := by
  refine List.ext_getElem? fun j => ?_
  rw [List.getElem?_set, fdV_len]
  unfold fdV
  rw [List.getElem?_map, List.getElem?_map]
  by_cases hj : j < n
  · rw [List.getElem?_range hj]
    by_cases e : i = j
    · subst e
      rw [if_pos rfl, if_pos hj]
      show _ = some (if i < i + 1 then optI (decD L es i) else .non)
      rw [if_pos (Nat.lt_succ_self _), h]
      rfl
    · rw [if_neg e]
      show some (if j < i then optI (decD L es j) else .non) = some (if j < i + 1 then optI (decD L es j) else .non)
      by_cases z : j < i
      · rw [if_pos z, if_pos (by omega)]
      · rw [if_neg z, if_neg (by omega)]
  · have : (List.range n)[j]? = none := List.getElem?_eq_none (by rw [List.length_range]; omega)
    rw [this]
    by_cases e : i = j
    · subst e; rw [if_pos rfl, if_neg hj]; rfl
    · rw [if_neg e]; rfl
theorem fdV_skip {L : List (List Actn)} {es : List Ev} {n i : Nat} (h : decD L es i = none) : fdV L es n i = fdV L es n (i + 1) := by
  unfold fdV
  refine List.map_congr_left fun j _ => ?_
  by_cases z : j < i
  · rw [if_pos z, if_pos (by omega)]
  · rw [if_neg z]
    by_cases e : j = i
    · subst e; rw [if_pos (Nat.lt_succ_self _), h]; rfl
    · rw [if_neg (by omega)]
def later (t : Int) : Option Int → Int
  | none => t
  | some d => if d > t then d else t
/-- the done ticks -/
def dnF (es : List Ev) (ds : List (Option Int)) : Nat → Int
  | 0 => later (evAt es 0).t (ds.getD 0 none)
  | i + 1 => if dnF es ds i > later (evAt es (i + 1)).t (ds.getD (i + 1) none) then dnF es ds i else later (evAt es (i + 1)).t (ds.getD (i + 1) none)
def dnL (es : List Ev) (ds : List (Option Int)) (n : Nat) : List Int := (List.range n).map (dnF es ds)
theorem dnL_succ {es : List Ev} {ds : List (Option Int)} {n : Nat} : dnL es ds (n + 1) = dnL es ds n ++ [dnF es ds n] := by
  unfold dnL
  rw [List.range_succ, List.map_append]
  rfl
section
variable {P : Program} {w : World} {K : PySem.W.Frag} {mg : Str → Option Value} {base : Heap}
theorem atI_end {xs : List V} {v : V} (h : xs[xs.length - 1]? = some v) : atI xs (-1) = some v := by
  have hn : xs ≠ [] := by
    intro e
    subst e
    simp at h
  have e := List.getLast?_eq_getElem? (l := xs)
  rw [h] at e
  have hz : xs.dropLast ++ [v] = xs := by
    have := List.dropLast_concat_getLast hn
    rw [List.getLast?_eq_some_getLast hn] at e
    rw [← Option.some.inj e]
    exact this
  rw [← hz]
  exact atI_last _ _
end
end K86

set_option Elab.async false
set_option linter.all false
set_option maxRecDepth 100000
set_option maxHeartbeats 8000000
namespace K86
open PySem PySem.Spec PyProof.Rows L2 Gd Rm La Cb Pl
theorem decL_len {L : List (List Actn)} {es : List Ev} {n : Nat} : (decL L es n).length = n := by unfold decL; rw [List.length_map, List.length_range]
def doneM (L : List (List Actn)) (es : List Ev) : List Int := dnL es (decL L es es.length) es.length
theorem small40' {n : Int} (h : n ≤ 1000000001) : n < 10 ^ 40 := Int.lt_of_le_of_lt h (by decide)
section
variable {P : Program} {w : World} {K : PySem.W.Frag} {mg : Str → Option Value} {base : Heap}
end
end K86

set_option Elab.async false
set_option linter.all false
set_option maxRecDepth 100000
set_option maxHeartbeats 8000000
namespace K86
open PySem PySem.Spec PyProof.Rows L2 Gd Rm La Cb Pl
/-- lists of values that stand for things -/
def AllV {α : Type} (R : Hp → α → V → Prop) (H : Hp) (vs : List V) (xs : List α) : Prop := vs.length = xs.length ∧ ∀ (i : Nat) (v : V) (x : α), vs[i]? = some v → xs[i]? = some x → R H x v
section
variable {α : Type} {R : Hp → α → V → Prop} {H H' : Hp} {vs : List V} {xs : List α} {D : Addr}
theorem AllV.nil : AllV R H [] [] := ⟨rfl, fun i v o h _ => by simp at h⟩
theorem AllV.keep (h : AllV R H vs xs) (k : ∀ x v, R H x v → R H' x v) : AllV R H' vs xs := ⟨h.1, fun i v x a b => k x v (h.2 i v x a b)⟩
theorem AllV.snoc {v : V} {x : α} (h : AllV R H vs xs) (hv : R H x v) : AllV R H (vs ++ [v]) (xs ++ [x]) := by
  refine ⟨by rw [List.length_append, List.length_append, h.1]; rfl, fun i u y a b => ?_⟩
  have hl := h.1
  rcases Nat.lt_or_ge i vs.length with q | q
  · rw [List.getElem?_append_left q] at a
    rw [List.getElem?_append_left (by omega)] at b
    exact h.2 i u y a b
  · have hi : i = vs.length := by
      have := (List.getElem?_eq_some_iff.mp a).1
      rw [List.length_append] at this
      simp at this
      omega
    subst hi
    rw [List.getElem?_append_right (Nat.le_refl _), Nat.sub_self] at a
    rw [List.getElem?_append_right (by omega), show vs.length - xs.length = 0 by omega] at b
    have e1 : v = u := Option.some.inj a
    have e2 : x = y := Option.some.inj b
    subst e1 e2
    exact hv
theorem AllV.dp {K : PySem.W.Frag} {d : α → PyData} (hd : ∀ x v, R H x v → Dp K H v (d x)) : ∀ {vs : List V} {xs : List α}, AllV R H vs xs → DpAll K H vs (xs.map d)
  | [], [], _ => .nil
  | [], _ :: _, h => by have := h.1; simp at this
  | _ :: _, [], h => by have := h.1; simp at this
  | v :: vs, x :: xs, h => .cons (hd _ _ (h.2 0 v x rfl rfl)) (AllV.dp hd ⟨by have := h.1; simpa using this, fun i u y a b => h.2 (i + 1) u y (by simpa using a) (by simpa using b)⟩)
end
/-! ### when events are done -/
theorem decL_at {L : List (List Actn)} {es : List Ev} {n i : Nat} (h : i < n) : (decL L es n).getD i none = decD L es i := by
  unfold decL
  rw [List.getD_eq_getElem?_getD, List.getElem?_map, List.getElem?_range h]
  rfl
/-- the done tick of an event -/
def dnT (L : List (List Actn)) (es : List Ev) (i : Nat) : Int := dnF es (decL L es es.length) i
theorem later_ge {t : Int} {d : Option Int} : t ≤ later t d ∧ (∀ z, d = some z → z ≤ later t d) ∧ (later t d = t ∨ d = some (later t d)) := by
  cases d with
  | none => exact ⟨Int.le_refl _, fun z h => (by cases h), .inl rfl⟩
  | some z =>
    show t ≤ (if z > t then z else t) ∧ (∀ y, some z = some y → y ≤ (if z > t then z else t)) ∧ ((if z > t then z else t) = t ∨ some z = some (if z > t then z else t))
    split
    · exact ⟨by omega, fun y h => (by cases h; exact Int.le_refl _), .inr rfl⟩
    · exact ⟨Int.le_refl _, fun y h => (by cases h; omega), .inl rfl⟩
theorem dnT_ge {L : List (List Actn)} {es : List Ev} {i : Nat} (hi : i < es.length) : (evAt es i).t ≤ dnT L es i ∧ (∀ z, decD L es i = some z → z ≤ dnT L es i) := by
  have hd := decL_at (L := L) (es := es) hi
  unfold dnT
  cases i with
  | zero =>
    obtain ⟨a, b, _⟩ := later_ge (t := (evAt es 0).t) (d := (decL L es es.length).getD 0 none)
    refine ⟨a, fun z hz => b z ?_⟩
    rw [hd]; exact hz
  | succ i =>
    obtain ⟨a, b, _⟩ := later_ge (t := (evAt es (i + 1)).t) (d := (decL L es es.length).getD (i + 1) none)
    have e : dnF es (decL L es es.length) (i + 1) = if dnF es (decL L es es.length) i > later (evAt es (i + 1)).t ((decL L es es.length).getD (i + 1) none) then dnF es (decL L es es.length) i else later (evAt es (i + 1)).t ((decL L es es.length).getD (i + 1) none) := rfl
    rw [e]
    refine ⟨by split <;> omega, fun z hz => ?_⟩
    have := b z (by rw [hd]; exact hz)
    split <;> omega
theorem dnT_succ {L : List (List Actn)} {es : List Ev} {i : Nat} : dnT L es i ≤ dnT L es (i + 1) := by
  have e : dnT L es (i + 1) = if dnF es (decL L es es.length) i > later (evAt es (i + 1)).t ((decL L es es.length).getD (i + 1) none) then dnF es (decL L es es.length) i else later (evAt es (i + 1)).t ((decL L es es.length).getD (i + 1) none) := rfl
  rw [e]
  unfold dnT
  split <;> omega
theorem dnT_mono {L : List (List Actn)} {es : List Ev} {i : Nat} : ∀ {j : Nat}, i ≤ j → dnT L es i ≤ dnT L es j
  | 0, h => by rw [show i = 0 by omega]; exact Int.le_refl _
  | j + 1, h => by
    rcases Nat.lt_or_ge i (j + 1) with q | q
    · have := dnT_mono (L := L) (es := es) (i := i) (j := j) (by omega)
      have := dnT_succ (L := L) (es := es) (i := j)
      omega
    · rw [show i = j + 1 by omega]; exact Int.le_refl _
theorem dnT_le {L : List (List Actn)} {es : List Ev} {i : Nat} {now : Int} (hi : i < es.length) (h1 : ∀ j, j < i → dnT L es j ≤ now) (h2 : (evAt es i).t ≤ now) (h3 : ∀ z, decD L es i = some z → z ≤ now) : dnT L es i ≤ now := by
  have hd := decL_at (L := L) (es := es) hi
  have lt : later (evAt es i).t ((decL L es es.length).getD i none) ≤ now := by
    obtain ⟨_, _, c⟩ := later_ge (t := (evAt es i).t) (d := (decL L es es.length).getD i none)
    rcases c with c | c
    · omega
    · rw [hd] at c; exact h3 _ (by rw [hd]; exact c)
  cases i with
  | zero => exact lt
  | succ i =>
    have e : dnT L es (i + 1) = if dnF es (decL L es es.length) i > later (evAt es (i + 1)).t ((decL L es es.length).getD (i + 1) none) then dnF es (decL L es es.length) i else later (evAt es (i + 1)).t ((decL L es es.length).getD (i + 1) none) := rfl
    rw [e]
    have := h1 i (Nat.lt_succ_self _)
    unfold dnT at this
    split <;> omega

/-! ### a beginning of the record, and the front -/
theorem decEv_take {own : Int} {r : Str} : ∀ {es : List Ev} {inner : List Int} {m : Nat}, decEv own r inner (es.take m) = (decEv own r inner es).bind fun n => if n < m then some n else none
  | [], inner, m => by rw [List.take_nil]; rfl
  | e :: es, inner, 0 => by
    rw [List.take_zero]
    show none = _
    cases decEv own r inner (e :: es) with
    | none => rfl
    | some n => rfl
  | e :: es, inner, m + 1 => by
    rw [List.take_succ_cons]
    have ih := fun l => decEv_take (own := own) (r := r) (es := es) (inner := l) (m := m)
    have go : ∀ l, (decEv own r l (es.take m)).map (· + 1) = ((decEv own r l es).map (· + 1)).bind fun n => if n < m + 1 then some n else none := fun l => by
      rw [ih l]
      cases decEv own r l es with
      | none => rfl
      | some n =>
        show Option.map (· + 1) (if n < m then some n else none) = if n + 1 < m + 1 then some (n + 1) else none
        by_cases z : n < m
        · rw [if_pos z, if_pos (by omega)]; rfl
        · rw [if_neg z, if_neg (by omega)]; rfl
    unfold decEv
    by_cases c1 : e.k = own ∨ r = ("other" : String) ∧ e.d = true
    · rw [if_pos c1, if_pos c1]; rfl
    · rw [if_neg c1, if_neg c1]
      by_cases c2 : e.d = true
      · rw [if_pos c2, if_pos c2]; exact go _
      · rw [if_neg c2, if_neg c2]
        by_cases c3 : r = ("within" : String) ∧ e.k ∈ inner
        · rw [if_pos c3, if_pos c3]; rfl
        · rw [if_neg c3, if_neg c3]; exact go _
/-- the events that have come, and are not done -/
def quE (es : List Ev) (f k : Nat) : List Ev := (es.take k).drop f
theorem quE_len {es : List Ev} {f k : Nat} (hk : k ≤ es.length) : (quE es f k).length = k - f := by unfold quE; rw [List.length_drop, List.length_take]; omega
theorem quE_at {es : List Ev} {f k i : Nat} (h : f + i < k) (hk : k ≤ es.length) : evAt (quE es f k) i = evAt es (f + i) := by
  unfold evAt quE
  rw [List.getD_eq_getElem?_getD, List.getD_eq_getElem?_getD, List.getElem?_drop, List.getElem?_take, if_pos h]
theorem dec_q {es : List Ev} {f k : Nat} {r : Str} (hf : f < k) (hk : k ≤ es.length) : decM (quE es f k) 0 r = (decM es f r).bind fun n => if n < k then some (n - f) else none := by
  have e0 := quE_at (i := 0) hf hk
  unfold evAt at e0
  unfold decM
  rw [e0, Nat.add_zero]
  have eq : (quE es f k).drop (0 + 1) = (es.drop (f + 1)).take (k - (f + 1)) := by
    unfold quE
    rw [List.drop_drop, List.drop_take]
  rw [eq, decEv_take]
  cases decEv (es.getD f ⟨0, 0, false⟩).k r [] (es.drop (f + 1)) with
  | none => rfl
  | some n =>
    show Option.map (· + (0 + 1)) (if n < k - (f + 1) then some n else none) = if n + (f + 1) < k then some (n + (f + 1) - f) else none
    by_cases z : n < k - (f + 1)
    · rw [if_pos z, if_pos (by omega)]
      exact congrArg some (by show n + (0 + 1) = n + (f + 1) - f; omega)
    · rw [if_neg z, if_neg (by omega)]; rfl
theorem sure_q {es : List Ev} {f k : Nat} {x : Actn} (hf : f < k) (hk : k ≤ es.length) : sureM (quE es f k) 0 x = (sureM es f x).bind fun n => if n < k then some (n - f) else none := by
  have e0 := quE_at (i := 0) hf hk
  rw [Nat.add_zero] at e0
  unfold sureM
  rw [dec_q hf hk]
  cases h : decM es f (ruleOf x) with
  | none => rfl
  | some n =>
    obtain ⟨h1, h2⟩ := decM_lt h
    show (match (if n < k then some (n - f) else none) with
      | none => none
      | some n => if (evAt (quE es f k) 0).t + timeOf x ≤ (evAt (quE es f k) n).t then none else some n) = _
    by_cases z : n < k
    · rw [if_pos z]
      have e1 := quE_at (es := es) (f := f) (k := k) (i := n - f) (by omega) hk
      rw [show f + (n - f) = n by omega] at e1
      show (if (evAt (quE es f k) 0).t + timeOf x ≤ (evAt (quE es f k) (n - f)).t then none else some (n - f)) = _
      rw [e0, e1]
      show _ = Option.bind (if (evAt es f).t + timeOf x ≤ (evAt es n).t then none else some n) _
      by_cases y : (evAt es f).t + timeOf x ≤ (evAt es n).t
      · rw [if_pos y, if_pos y]; rfl
      · rw [if_neg y, if_neg y]
        show _ = if n < k then some (n - f) else none
        rw [if_pos z]
    · rw [if_neg z]
      show none = Option.bind (if (evAt es f).t + timeOf x ≤ (evAt es n).t then none else some n) _
      by_cases y : (evAt es f).t + timeOf x ≤ (evAt es n).t
      · rw [if_pos y]; rfl
      · rw [if_neg y]
        show _ = if n < k then some (n - f) else none
        rw [if_neg z]
theorem sure_in {es : List Ev} {f n : Nat} {x : Actn} (h : sureM es f x = some n) : (evAt es n).t < (evAt es f).t + timeOf x := by
  unfold sureM at h
  cases e : decM es f (ruleOf x) with
  | none => rw [e] at h; cases h
  | some m =>
    rw [e] at h
    dsimp only at h
    split at h
    · cases h
    · rename_i z
      cases h
      omega
/-- the front waits: nothing that has come decides it -/
def Waits (L : List (List Actn)) (es : List Ev) (f k : Nat) (now : Int) : Prop := isDl (xAt L es f) = true ∧ (∀ n, sureM es f (xAt L es f) = some n → k ≤ n) ∧ now < (evAt es f).t + timeOf (xAt L es f)
/-- all is done, or the front waits -/
def Still (L : List (List Actn)) (es : List Ev) (f k : Nat) (now : Int) : Prop := f = k ∨ (f < k ∧ (evAt es f).d = true ∧ Waits L es f k now)
theorem dec_none {L : List (List Actn)} {es : List Ev} {f : Nat} (h : (evAt es f).d = false ∨ isDl (xAt L es f) = false) : decD L es f = none := by
  unfold decD
  rw [if_neg (fun z => by rcases h with h | h <;> rw [h] at z; cases z.1; cases z.2)]
theorem dec_some {L : List (List Actn)} {es : List Ev} {f : Nat} (h1 : (evAt es f).d = true) (h2 : isDl (xAt L es f) = true) : decD L es f = match sureM es f (xAt L es f) with
    | some n => some (evAt es n).t
    | none => some ((evAt es f).t + timeOf (xAt L es f)) := by
  unfold decD
  exact (if_pos ⟨h1, h2⟩).trans (by cases sureM es f (xAt L es f) <;> rfl)
/-- what waits at a tick is done later -/
theorem Still.late {L : List (List Actn)} {es : List Ev} {f k : Nat} {now : Int} (h : Still L es f k now) (hk : k ≤ es.length) (h2 : ∀ i, k ≤ i → i < es.length → now < (evAt es i).t) (i : Nat) (h1 : f ≤ i) (h3 : i < k) : now < dnT L es i := by
  rcases h with h | ⟨hf, hd, hl, hw, ht⟩
  · omega
  have m := dnT_mono (L := L) (es := es) h1
  have g := (dnT_ge (L := L) (es := es) (i := f) (by omega)).2
  rw [dec_some hd hl] at g
  cases e : sureM es f (xAt L es f) with
  | none =>
    rw [e] at g
    have := g _ rfl
    omega
  | some n =>
    rw [e] at g
    have := g _ rfl
    have a := hw n e
    have b := (sureM_lt e).2
    have := h2 n a b
    omega
/-- the outputs of some events, with their ticks -/
def outsT (L : List (List Actn)) (es : List Ev) (f g : Nat) : List (Int × Outp) := ((List.range' f (g - f)).filter fun i => isOut (outM L es i)).map fun i => (dnT L es i, outM L es i)
theorem outsT_nil {L : List (List Actn)} {es : List Ev} {f : Nat} : outsT L es f f = [] := by unfold outsT; rw [Nat.sub_self]; rfl
theorem outsT_succ {L : List (List Actn)} {es : List Ev} {f g : Nat} (h : f ≤ g) : outsT L es f (g + 1) = outsT L es f g ++ if isOut (outM L es g) = true then [(dnT L es g, outM L es g)] else [] := by
  unfold outsT
  rw [show g + 1 - f = (g - f) + 1 by omega, List.range'_concat, List.filter_append, List.map_append]
  rw [show f + 1 * (g - f) = g by omega]
  by_cases z : isOut (outM L es g) = true
  · rw [if_pos z, List.filter_cons_of_pos (p := fun i => isOut (outM L es i)) z]; rfl
  · rw [if_neg z, List.filter_cons_of_neg (p := fun i => isOut (outM L es i)) z]; rfl
theorem outsT_app {L : List (List Actn)} {es : List Ev} {f g h : Nat} (h1 : f ≤ g) (h2 : g ≤ h) : outsT L es f g ++ outsT L es g h = outsT L es f h := by
  unfold outsT
  rw [← List.map_append, ← List.filter_append]
  congr 2
  rw [show h - f = (g - f) + (h - g) by omega, ← List.range'_append, show f + 1 * (g - f) = g by omega]
theorem outsT_len {L : List (List Actn)} {es : List Ev} {f g : Nat} : (outsT L es f g).length ≤ g - f := by
  unfold outsT
  rw [List.length_map]
  refine Nat.le_trans (List.length_filter_le ..) ?_
  rw [List.length_range']
  exact Nat.le_refl _
def TripV (H : Hp) (x : Int × Outp) (v : V) : Prop := ∃ T, v = .ref T ∧ H T = some (.tup (.int x.1 :: outL x.2))
theorem TripV.keep {H H' : Hp} {x : Int × Outp} {v : V} (h : TripV H x v) (k : Tk H H') : TripV H' x v := by
  obtain ⟨T, e, h1⟩ := h
  exact ⟨T, e, k _ _ h1⟩
def Trips (H : Hp) (O : Addr) (xs : List (Int × Outp)) : Prop := ∃ vs, H O = some (.lst vs) ∧ AllV TripV H vs xs
theorem Trips.go {H H' : Hp} {O : Addr} {xs : List (Int × Outp)} (h : Trips H O xs) (k : Tk H H') (e : ∀ vs, H O = some (.lst vs) → H' O = some (.lst vs)) : Trips H' O xs := by
  obtain ⟨vs, a, b⟩ := h
  exact ⟨vs, e _ a, b.keep fun x v z => z.keep k⟩
theorem Trips.same {H H' : Hp} {O : Addr} {xs : List (Int × Outp)} (h : Trips H O xs) (s : Same H H') : Trips H' O xs := h.go (Tk.of s) fun _ z => s _ _ z
end K86

set_option Elab.async false
set_option linter.all false
set_option maxRecDepth 100000
set_option maxHeartbeats 8000000
namespace K86
open PySem PySem.Spec PyProof.Rows L2 Gd Rm La Cb Pl
def rflds (p E : Addr) : List (Str × V) := [("player", .ref p), ("events", .ref E)]
theorem rf_player {p E : Addr} : (rflds p E).lookup ("player" : Str) = some (.ref p) := lk_eq
theorem rf_events {p E : Addr} : (rflds p E).lookup ("events" : Str) = some (.ref E) := by
  unfold rflds
  rw [lk_ne (by decide +kernel), lk_eq]
theorem rf_no {p E : Addr} {m : Str} (h : m ∉ ([("player" : String), "events"].map Str.ofString)) : (rflds p E).lookup m = none := by
  simp only [List.map_cons, List.map_nil, List.mem_cons, List.mem_nil_iff, or_false, not_or] at h
  unfold rflds
  rw [lk_ne h.1, lk_ne h.2]
  rfl
theorem rf_new {p E : Addr} : putF "events" (.ref E) (putF "player" (.ref p) []) = rflds p E := by
  show putF "events" (.ref E) [("player", .ref p)] = _
  rw [pf_ne (by decide +kernel)]
  rfl
structure Rp (K : PySem.W.Frag) (C : Addr) : Prop where
  cl : Cls K C
  n1 : NoAttr K C "player"
  n2 : NoAttr K C "events"
/-- a layout and a record -/
structure Pb (Hb : Hp) (c g : Addr) (L : List (List Actn)) (m : Nat) (es : List Ev) : Prop where
  lay : Lay Hb c L
  ok : LayOk L m
  rc : Lst evV Hb g es
  val : Valid es
  len : es.length ≤ 400
  key : ∀ e ∈ es, e.k < (m : Int)
/-- only a row's own objects change -/
def Off5 (p l d e E : Addr) (H H' : Hp) : Prop := ∀ b o, H b = some o → b ≠ p → b ≠ l → b ≠ d → b ≠ e → b ≠ E → H' b = some o
theorem Off5.refl {p l d e E : Addr} (H : Hp) : Off5 p l d e E H H := fun _ _ h _ _ _ _ _ => h
theorem Off5.trans {p l d e E : Addr} {H H1 H2 : Hp} (a : Off5 p l d e E H H1) (b : Off5 p l d e E H1 H2) : Off5 p l d e E H H2 := fun x o h n1 n2 n3 n4 n5 => b x o (a x o h n1 n2 n3 n4 n5) n1 n2 n3 n4 n5
theorem Off5.of {p l d e E : Addr} {H H' : Hp} (s : Same H H') : Off5 p l d e E H H' := fun b o h _ _ _ _ _ => s b o h
theorem Off5.of4 {p l d e E : Addr} {H H' : Hp} (s : Off4 p l d e H H') : Off5 p l d e E H H' := fun b o h n1 n2 n3 n4 _ => s b o h n1 n2 n3 n4
theorem Off5.upE {p l d e E : Addr} {H : Hp} {o : HO} : Off5 p l d e E H (upd H E o) := fun b u hb n1 n2 n3 n4 n5 => by
  rw [upd_ne n5]
  exact hb
/-- a row: the events f to k wait -/
structure RSt (C C1 : Addr) (Hb H : Hp) (rw p c l d e E : Addr) (L : List (List Actn)) (es : List Ev) (f k : Nat) : Prop where
  ob : ∃ dx, H rw = some (.ins C1 dx (rflds p E))
  pl : PAt C H p c l d e f (runS L es f)
  ev : Lst evV H E (quE es f k)
  sb : Same Hb H
  fr : Hb p = none ∧ Hb l = none ∧ Hb d = none ∧ Hb e = none ∧ Hb E = none
  El : E ≠ l
  rp : rw ≠ p
  fk : f ≤ k
  kl : k ≤ es.length
section
variable {C C1 : Addr} {Hb H H' : Hp} {rw p c l d e E : Addr} {L : List (List Actn)} {es : List Ev} {f k : Nat}
theorem RSt.same (h : RSt C C1 Hb H rw p c l d e E L es f k) (s : Same H H') : RSt C C1 Hb H' rw p c l d e E L es f k := by
  obtain ⟨dx, a⟩ := h.ob
  exact { h with ob := ⟨dx, s _ _ a⟩, pl := h.pl.same s, ev := h.ev.same s, sb := h.sb.trans s }
theorem RSt.back (h : RSt C C1 Hb H rw p c l d e E L es f k) (o : Off5 p l d e E H H') : Same Hb H' := fun b u hb => by
  obtain ⟨f1, f2, f3, f4, f5⟩ := h.fr
  exact o _ _ (h.sb _ _ hb) (ne_of_none hb f1) (ne_of_none hb f2) (ne_of_none hb f3) (ne_of_none hb f4) (ne_of_none hb f5)
theorem RSt.tk (h : RSt C C1 Hb H rw p c l d e E L es f k) (o : Off5 p l d e E H H') : Tk H H' := fun b xs hb => by
  obtain ⟨⟨dx, a⟩, b1, ⟨kvs, c1, _⟩, ⟨pvs, d1, _⟩, _⟩ := h.pl
  obtain ⟨as, e1, _⟩ := h.ev
  exact o _ _ hb (ne_of hb a (by intro z; cases z)) (ne_of hb b1 (by intro z; cases z)) (ne_of hb c1 (by intro z; cases z)) (ne_of hb d1 (by intro z; cases z)) (ne_of hb e1 (by intro z; cases z))
theorem RSt.sep (h : RSt C C1 Hb H rw p c l d e E L es f k) : E ≠ p ∧ E ≠ d ∧ E ≠ e ∧ rw ≠ l ∧ rw ≠ d ∧ rw ≠ e ∧ rw ≠ E := by
  obtain ⟨⟨dx, a⟩, b1, ⟨kvs, c1, _⟩, ⟨pvs, d1, _⟩, _⟩ := h.pl
  obtain ⟨as, e1, _⟩ := h.ev
  obtain ⟨dr, r1⟩ := h.ob
  exact ⟨ne_of e1 a (by intro z; cases z), ne_of e1 c1 (by intro z; cases z), ne_of e1 d1 (by intro z; cases z), ne_of r1 b1 (by intro z; cases z), ne_of r1 c1 (by intro z; cases z), ne_of r1 d1 (by intro z; cases z), ne_of r1 e1 (by intro z; cases z)⟩
/-- the player has done what is at the front: that leaves the row -/
theorem RSt.pop {H2 : Hp} {as : List Addr} (h : RSt C C1 Hb H rw p c l d e E L es f k) (o : Off4 p l d e H H2) (P2 : PAt C H2 p c l d e (f + 1) (runS L es (f + 1))) (hE : H E = some (.lst (as.map V.ref))) (hf : f < k) :
    H2 E = some (.lst (as.map V.ref)) ∧ RSt C C1 Hb (upd H2 E (.lst ((as.map V.ref).eraseIdx 0))) rw p c l d e E L es (f + 1) k := by
  obtain ⟨s1, s2, s3, s4, s5, s6, s7⟩ := h.sep
  obtain ⟨dx, r1⟩ := h.ob
  obtain ⟨as', e1, e2⟩ := h.ev
  have ee : as' = as := by
    have := HO.lst.inj (Option.some.inj (e1.symm.trans hE))
    exact List.map_inj_right (fun a b z => V.ref.inj z) |>.mp this
  subst ee
  have hE2 := o _ _ hE s1 h.El s2 s3
  refine ⟨hE2, ?_⟩
  have o5 : Off5 p l d e E H (upd H2 E (.lst ((as'.map V.ref).eraseIdx 0))) := (Off5.of4 o).trans Off5.upE
  have tk := h.tk o5
  refine { h with ob := ⟨dx, by rw [upd_ne s7]; exact o _ _ r1 h.rp s4 s5 s6⟩, pl := P2.updW hE2 s1 h.El s2 s3, ev := ?_, sb := h.back o5, fk := hf }
  refine ⟨as'.drop 1, by rw [upd_same]; congr 2; rw [List.map_drop]; cases as' <;> rfl, ?_⟩
  have eq : quE es (f + 1) k = (quE es f k).drop 1 := by unfold quE; rw [List.drop_drop]
  rw [eq]
  refine ⟨by rw [List.length_drop, List.length_drop, e2.1], fun i a x u v => ?_⟩
  rw [List.getElem?_drop] at u v
  exact tk _ _ (e2.2 _ _ _ u v)
/-- one more event comes -/
theorem RSt.push {b : Addr} {as : List Addr} (h : RSt C C1 Hb H rw p c l d e E L es f k) (hk : k < es.length) (hb : H b = some (.tup (evV es[k]))) (hE : H E = some (.lst (as.map V.ref))) :
    RSt C C1 Hb (upd H E (.lst (as.map V.ref ++ [.ref b]))) rw p c l d e E L es f (k + 1) := by
  obtain ⟨s1, s2, s3, s4, s5, s6, s7⟩ := h.sep
  obtain ⟨dx, r1⟩ := h.ob
  obtain ⟨as', e1, e2⟩ := h.ev
  have ee : as' = as := by
    have := HO.lst.inj (Option.some.inj (e1.symm.trans hE))
    exact List.map_inj_right (fun a b z => V.ref.inj z) |>.mp this
  subst ee
  have o5 : Off5 p l d e E H (upd H E (.lst (as'.map V.ref ++ [.ref b]))) := Off5.upE
  have tk := h.tk o5
  have fk := h.fk
  refine { h with ob := ⟨dx, by rw [upd_ne s7]; exact r1⟩, pl := h.pl.updW hE s1 h.El s2 s3, ev := ?_, sb := h.back o5, fk := by omega, kl := hk }
  have eq : quE es f (k + 1) = quE es f k ++ [es[k]] := by
    unfold quE
    rw [List.take_add_one, List.getElem?_eq_getElem hk, List.drop_append_of_le_length (by rw [List.length_take]; omega)]
    rfl
  rw [eq]
  refine ⟨as' ++ [b], by rw [upd_same, List.map_append]; rfl, Tups.snoc ⟨e2.1, fun i a x u v => tk _ _ (e2.2 i a x u v)⟩ (tk _ _ hb)⟩
/-- the event at the front -/
theorem RSt.front (h : RSt C C1 Hb H rw p c l d e E L es f k) (hf : f < k) : ∃ (as : List Addr) (b : Addr), H E = some (.lst (as.map V.ref)) ∧ as[0]? = some b ∧ H b = some (.tup (evV (evAt es f))) ∧ as.length = k - f := by
  obtain ⟨as, e1, e2⟩ := h.ev
  have hl := quE_len (es := es) (f := f) h.kl
  have h0 : 0 < (quE es f k).length := by omega
  obtain ⟨b, b1, b2⟩ := e2.at_ h0
  refine ⟨as, b, e1, b1, ?_, by rw [e2.1, hl]⟩
  have e0 := quE_at (es := es) (f := f) (k := k) (i := 0) hf h.kl
  rw [evAt_eq h0, Nat.add_zero] at e0
  rw [← e0]
  exact b2
end
section
variable {P : Program} {w : World} {K : PySem.W.Frag} {mg : Str → Option Value} {base : Heap}
def spRInit (C C1 : Addr) : Sp := fun vs H Q _ => ∃ (rw dx c : Addr) (xs : List V), vs = [.ref rw, .ref c] ∧ H rw = some (.ins C1 dx []) ∧ H c = some (.lst xs) ∧ xs.length ≤ 6 ∧
  ∀ (H' : Hp) (p l d e E : Addr), H p = none → H l = none → H d = none → H e = none → H E = none → E ≠ l → PAt C H' p c l d e 0 (init xs.length) → H' E = some (.lst []) → H' rw = some (.ins C1 dx (rflds p E)) → (∀ b o, H b = some o → b ≠ rw → H' b = some o) → Q .non H'
theorem ok_Row_init (bt : Bt mg) {C C1 : Addr} (cp : Cp K C) (rp : Rp K C1) (a : AtI K mg C1 "Row" "Row.__init__" s_Row_init ["self", "layout"]) (c_Player : ClI P w K mg base 1 C "Player" (spPInit C)) : ClI P w K mg base 3 C1 "Row" (spRInit C C1) := by
  refine clIG a sc_Row_init (fun vs H Q E h => ?_) (fun f cdv A outer s H vs Q hg hr h => ?_)
  · obtain ⟨rw, dx, c, xs, rfl, _⟩ := h
    rfl
  · obtain ⟨rw, dx, c, xs, rfl, hrw, hc, hl, q⟩ := h
    refine ⟨_, (pss_cons (ps_fld (pv 0) (pe_clI c_Player hg hr (by decide) (by rfl) (pa_cons (pv 1) pa_nil)) rfl)
      (pss_one (ps_fld (pv 0) (pe_lst pa_nil) rfl))), ?_⟩
    refine ⟨_, rfl, fun p dp np ndp hdp => ?_⟩
    have cp0 : c ≠ p := ne_of_none hc np
    have cdx : c ≠ dp := ne_of_none hc ndp
    refine ⟨p, dp, c, xs, rfl, upd_same, by rw [upd_ne cp0, upd_ne cdx]; exact hc, hl, fun H1 l d e nl nd ne hP hoff => ⟨rfl, ?_⟩⟩
    have s0 : Same H (upd (upd H dp (.own p)) p (.ins C dp [])) := (same_upd ndp).trans (same_upd (by rw [upd_ne (Ne.symm hdp)]; exact np))
    have s1 : Same H H1 := fun b o hb => hoff _ _ (s0 _ _ hb) (ne_of_none hb np)
    have nl' := none_back s0 nl
    have nd' := none_back s0 nd
    have ne' := none_back s0 ne
    clear hoff nl nd ne
    have rwp : rw ≠ p := ne_of_none hrw np
    have hr1 := s1 _ _ hrw
    refine ⟨_, rfl, rw, C1, dx, _, rfl, hr1, rp.cl, rp.n1, (by show 0 < 1000; decide), ?_⟩
    have pl1 : PAt C (upd H1 rw (.ins C1 dx (putF "player" (.ref p) []))) p c l d e 0 (init xs.length) := by
      obtain ⟨⟨dxp, h1⟩, h2, ⟨kvs, h3, h3b⟩, ⟨pvs, h4, h4b⟩, h5⟩ := hP
      have tk : Tk H1 (upd H1 rw (.ins C1 dx (putF "player" (.ref p) []))) := fun b xs hb => by
        rw [upd_ne (ne_of hb hr1 (by intro z; cases z))]; exact hb
      exact ⟨⟨dxp, by rw [upd_ne rwp.symm]; exact h1⟩, by rw [upd_ne (ne_of h2 hr1 (by intro z; cases z))]; exact h2, ⟨kvs, by rw [upd_ne (ne_of h3 hr1 (by intro z; cases z))]; exact h3, h3b.keep tk⟩, ⟨pvs, by rw [upd_ne (ne_of h4 hr1 (by intro z; cases z))]; exact h4, h4b⟩, h5⟩
    have o1 : ∀ b o, H b = some o → b ≠ rw → upd H1 rw (.ins C1 dx (putF "player" (.ref p) [])) b = some o := fun b o hb n => by
      rw [upd_ne n]; exact s1 _ _ hb
    have hr2 := upd_same (H := H1) (a := rw) (o := .ins C1 dx (putF "player" (.ref p) []))
    have hlL := pl1.lk
    generalize upd H1 rw (.ins C1 dx (putF "player" (.ref p) [])) = H2 at pl1 o1 hr2 hlL ⊢
    refine ⟨Nat.zero_le _, fun E nE => ?_⟩
    have kE := same_upd (o := .lst []) nE
    have nE0 : H E = none := by
      cases h : H E with
      | none => rfl
      | some o =>
        by_cases z : E = rw
        · rw [z, hr2] at nE; cases nE
        · rw [o1 _ _ h z] at nE; cases nE
    have El : E ≠ l := fun z => by rw [z, hlL] at nE; cases nE
    have Erw : E ≠ rw := fun z => by rw [z, hr2] at nE; cases nE
    have hr3 := kE _ _ hr2
    have pl2 := pl1.same kE
    have hE3 := upd_same (H := H2) (a := E) (o := .lst [])
    refine ⟨_, rfl, rw, C1, dx, _, rfl, hr3, rp.cl, rp.n2, (by show 1 < 1000; decide), ?_⟩
    have pl3 : PAt C (upd (upd H2 E (.lst [])) rw (.ins C1 dx (putF "events" (.ref E) (putF "player" (.ref p) [])))) p c l d e 0 (init xs.length) := by
      obtain ⟨⟨dxp, h1⟩, h2, ⟨kvs, h3, h3b⟩, ⟨pvs, h4, h4b⟩, h5⟩ := pl2
      have tk : Tk (upd H2 E (.lst [])) (upd (upd H2 E (.lst [])) rw (.ins C1 dx (putF "events" (.ref E) (putF "player" (.ref p) [])))) := fun b xs hb => by
        rw [upd_ne (ne_of hb hr3 (by intro z; cases z))]; exact hb
      exact ⟨⟨dxp, by rw [upd_ne rwp.symm]; exact h1⟩, by rw [upd_ne (ne_of h2 hr3 (by intro z; cases z))]; exact h2, ⟨kvs, by rw [upd_ne (ne_of h3 hr3 (by intro z; cases z))]; exact h3, h3b.keep tk⟩, ⟨pvs, by rw [upd_ne (ne_of h4 hr3 (by intro z; cases z))]; exact h4, h4b⟩, h5⟩
    refine q _ p l d e E np nl' nd' ne' nE0 El pl3 (by rw [upd_ne Erw]; exact hE3) (by rw [upd_same, rf_new]) (fun b o hb n => ?_)
    rw [upd_ne n]
    exact kE _ _ (o1 _ _ hb n)
def spDue (C C1 : Addr) : Sp := fun vs H Q _ => ∃ (Hb : Hp) (rw p c g l d e E : Addr) (L : List (List Actn)) (m : Nat) (es : List Ev) (f k : Nat) (now : Int), vs = [.ref rw] ∧ Pb Hb c g L m es ∧ RSt C C1 Hb H rw p c l d e E L es f k ∧ Still L es f k now ∧
  ∀ H', Same H H' → Q (if f = k then .non else .int ((evAt es f).t + timeOf (xAt L es f))) H'
theorem ok_due (bt : Bt mg) {C C1 : Addr} (cp : Cp K C) (rp : Rp K C1) (a : AtM K C1 "due" "Row.due" s_due ["self"]) (c_taken : ClM P w K mg base 2 C "taken" (spTaken C)) : ClM P w K mg base 3 C1 "due" (spDue C C1) := by
  have cl_Player := cp.cl
  have cl_Row := rp.cl
  refine clMG a sc_due (fun vs H Q E h => ?_) (fun ff cdv A outer s H vs Q hg hr h => ?_)
  · obtain ⟨Hb, rw, p, c, g, l, d, e, E, L, m, es, f, k, now, rfl, _⟩ := h
    rfl
  · obtain ⟨Hb, rw, p, c, g, l, d, e, E, L, m, es, f, k, now, rfl, B, S, hs, q⟩ := h
    refine ⟨_, (pss_cons (ps_if (pt_not (pt_truth (pe_fld (pv 0) rfl) (by intro _; rfl))) (pss_one (ps_ret pe_non)) pss_nil)
      (pss_cons (ps_asg (pe_ix ix_list (pe_fld (pv 0) rfl) pe_int (fun _ _ => rfl)) (pg_tup rfl (pgs_cons (pg_name (i := 1) sc_due.nd rfl (Or.inl rfl)) (pgs_cons (pg_name (i := 2) sc_due.nd rfl (Or.inl rfl)) (pgs_cons (pg_name (i := 3) sc_due.nd rfl (Or.inl rfl)) pgs_nil)))))
      (pss_cons (ps_asg (pe_clM c_taken cl_Player hg hr (by decide) (pe_fld (pv 0) rfl) (pa_cons (pv 2) pa_nil)) (pg_tup rfl (pgs_cons (pg_name (i := 4) sc_due.nd rfl (Or.inl rfl)) (pgs_cons (pg_name (i := 5) sc_due.nd rfl (Or.inl rfl)) pgs_nil))))
      (pss_one (ps_ret (pe_op op_add (pv 1) (pe_ix ix_either (pv 5) pe_int (fun _ _ => rfl)))))))), ?_⟩
    obtain ⟨dx, hrw⟩ := S.ob
    obtain ⟨as, hE, hT⟩ := id S.ev
    have hql := quE_len (es := es) (f := f) S.kl
    have hal : as.length = k - f := by rw [hT.1, hql]
    refine ⟨_, rfl, rw, C1, dx, _, _, rfl, hrw, rp.cl, rp.n2, rf_events, !(as.map V.ref).isEmpty, .inl ⟨_, SqL.of hE, rfl⟩, ?_⟩
    rcases hs with hf | ⟨hf, hd, hw⟩
    · have : (as.map V.ref).isEmpty = true := by
        rw [List.isEmpty_map, List.isEmpty_iff_length_eq_zero]
        omega
      rw [this]
      have := q H (Same.refl _)
      rw [if_pos hf] at this
      exact iteT this
    · have hne : (as.map V.ref).isEmpty = false := by
        rw [List.isEmpty_map]
        cases as with
        | nil => simp at hal; omega
        | cons _ _ => rfl
      rw [hne]
      obtain ⟨as', b, hE', hb0, hb, _⟩ := S.front hf
      have ee : as' = as := by
        have := HO.lst.inj (Option.some.inj (hE'.symm.trans hE))
        exact List.map_inj_right (fun a b z => V.ref.inj z) |>.mp this
      subst ee
      have hfl : f < es.length := by have := S.kl; omega
      have hev := evAt_eq hfl
      have v1 := (B.val f _ (List.getElem?_eq_getElem hfl)).1
      have hkk := B.key _ (List.getElem_mem hfl)
      have hk0 : (evAt es f).k = (((evAt es f).k.toNat : Nat) : Int) := by rw [hev]; omega
      have hS := runS_ok B.ok B.val B.key f (by omega)
      have h4 := B.len
      obtain ⟨dxp, hp⟩ := S.pl.ob
      refine iteF ⟨_, rfl, rw, C1, dx, _, _, rfl, hrw, rp.cl, rp.n2, rf_events, E, _, 0, .ref b, rfl, rfl, SqL.of hE, atI_nat (j := 0) (get_map_ref hb0), b, _, rfl, SqT.of hb, rfl, _, _, rfl, _, _, rfl, _, _, rfl, rfl, ?_⟩
      refine ⟨_, rfl, rw, C1, dx, _, _, rfl, hrw, rp.cl, rp.n1, rf_player, p, dxp, _, rfl, hp, f_no (by decide +kernel), _, rfl, p, c, l, d, e, f, runS L es f, L, m, (evAt es f).k.toNat, congrArg (fun z => [V.ref p, V.int z]) hk0, S.pl, B.lay.same S.sb, B.ok, hS.bds, hS.lk, by have := hS.len; omega, by rw [hev]; omega, fun H4 T4 v s5 hT4 hv => ?_⟩
      have hv : ActV H4 (xAt L es f) v := hv
      obtain ⟨a', b', cc, rfl, ha⟩ := dl_at hv hw.1
      refine ⟨T4, _, rfl, SqT.of hT4, rfl, _, _, rfl, _, _, rfl, rfl, ?_⟩
      refine ⟨_, rfl, _, rfl, .inl ⟨a', _, 3, _, rfl, rfl, SqT.of ha, atI_nat (j := 3) rfl, _, _, rfl, rfl, ?_⟩⟩
      have := q H4 s5
      rw [if_neg (by omega)] at this
      exact this
def spFront (C C1 : Addr) : Sp := fun vs H Q _ => ∃ (Hb : Hp) (rw p c g l d e E : Addr) (L : List (List Actn)) (m : Nat) (es : List Ev) (f k : Nat) (now : Int), vs = [.ref rw, .int now] ∧ Pb Hb c g L m es ∧ RSt C C1 Hb H rw p c l d e E L es f k ∧ f < k ∧ (evAt es f).d = true ∧ (∀ i, k ≤ i → i < es.length → now ≤ (evAt es i).t) ∧
  (∀ H', Same H H' → Waits L es f k now → Q .non H') ∧ (∀ H' v, Same H H' → (∀ z, decD L es f = some z → (∀ i, i < k → (evAt es i).t ≤ now) → z ≤ now) → ActV H' (whatM (xAt L es f) (kindM es f (xAt L es f))) v → Q v H')
theorem ok_front_means (bt : Bt mg) {C C1 : Addr} (cp : Cp K C) (rp : Rp K C1) (a : AtM K C1 "front_means" "Row.front_means" s_front_means ["self", "now"]) (c_taken : ClM P w K mg base 2 C "taken" (spTaken C)) (c_is_dual : Cl P w K mg base 1 "is_dual" spDual) (c_sure_event : Cl P w K mg base 2 "sure_event" spSure) (c_dual_kind : Cl P w K mg base 1 "dual_kind" spKind) (c_what_is_done : Cl P w K mg base 1 "what_is_done" spWhat) : ClM P w K mg base 3 C1 "front_means" (spFront C C1) := by
  have cl_Player := cp.cl
  have cl_Row := rp.cl
  refine clMG a sc_front_means (fun vs H Q E h => ?_) (fun ff cdv A outer s H vs Q hg hr h => ?_)
  · obtain ⟨Hb, rw, p, c, g, l, d, e, E, L, m, es, f, k, now, rfl, _⟩ := h
    rfl
  · obtain ⟨Hb, rw, p, c, g, l, d, e, E, L, m, es, f, k, now, rfl, B, S, hf, hd, hlate, q1, q2⟩ := h
    refine ⟨_, (pss_cons (ps_asg (pe_ix ix_list (pe_fld (pv 0) rfl) pe_int (fun _ _ => rfl)) (pg_tup rfl (pgs_cons (pg_name (i := 2) sc_front_means.nd rfl (Or.inl rfl)) (pgs_cons (pg_name (i := 3) sc_front_means.nd rfl (Or.inl rfl)) (pgs_cons (pg_name (i := 4) sc_front_means.nd rfl (Or.inl rfl)) pgs_nil)))))
      (pss_cons (ps_asg (pe_clM c_taken cl_Player hg hr (by decide) (pe_fld (pv 0) rfl) (pa_cons (pv 3) pa_nil)) (pg_tup rfl (pgs_cons (pg_name (i := 5) sc_front_means.nd rfl (Or.inl rfl)) (pgs_cons (pg_name (i := 6) sc_front_means.nd rfl (Or.inl rfl)) pgs_nil))))
      (pss_cons (ps_if (pt_not (pt_val (pe_cl c_is_dual hg hr (by decide) (by rfl) (pa_cons (pv 6) pa_nil)))) (pss_one (ps_ret (pv 6))) pss_nil)
      (pss_cons (ps_set (i := 7) sc_front_means.nd rfl (Or.inl rfl) (pe_cl c_sure_event hg hr (by decide) (by rfl) (pa_cons (pe_fld (pv 0) rfl) (pa_cons pe_int (pa_cons (pv 6) pa_nil)))))
      (pss_cons (ps_if (PW.pt (pw_and (pt_cmpR op_isN (pv 7) pe_non (nomark _)) (pw_and1 (pt_cmpR op_lt (pv 1) (pe_op op_add (pv 2) (pe_ix ix_either (pv 6) pe_int (fun _ _ => rfl))) (nomark _))))) (pss_one (ps_ret pe_non)) pss_nil)
      (pss_one (ps_ret (pe_cl c_what_is_done hg hr (by decide) (by rfl) (pa_cons (pv 6) (pa_cons (pe_cl c_dual_kind hg hr (by decide) (by rfl) (pa_cons (pe_fld (pv 0) rfl) (pa_cons pe_int (pa_cons (pv 7) pa_nil)))) pa_nil)))))))))), ?_⟩
    obtain ⟨dx, hrw⟩ := S.ob
    obtain ⟨as, b, hE, hb0, hb, hal⟩ := S.front hf
    have kl := S.kl
    have hfl : f < es.length := by omega
    have hev := evAt_eq hfl
    have v1 := (B.val f _ (List.getElem?_eq_getElem hfl)).1
    have hkk := B.key _ (List.getElem_mem hfl)
    have hk0 : (evAt es f).k = (((evAt es f).k.toNat : Nat) : Int) := by rw [hev]; omega
    have hS := runS_ok B.ok B.val B.key f (by omega)
    have h4 := B.len
    obtain ⟨dxp, hp⟩ := S.pl.ob
    have hkm : (evAt es f).k.toNat < m := by rw [hev]; omega
    refine ⟨_, rfl, rw, C1, dx, _, _, rfl, hrw, rp.cl, rp.n2, rf_events, E, _, 0, .ref b, rfl, rfl, SqL.of hE, atI_nat (j := 0) (get_map_ref hb0), b, _, rfl, SqT.of hb, rfl, _, _, rfl, _, _, rfl, _, _, rfl, rfl, ?_⟩
    refine ⟨_, rfl, rw, C1, dx, _, _, rfl, hrw, rp.cl, rp.n1, rf_player, p, dxp, _, rfl, hp, f_no (by decide +kernel), _, rfl, p, c, l, d, e, f, runS L es f, L, m, (evAt es f).k.toNat, congrArg (fun z => [V.ref p, V.int z]) hk0, S.pl, B.lay.same S.sb, B.ok, hS.bds, hS.lk, by have := hS.len; omega, hkm, fun H4 T4 v s5 hT4 hv => ?_⟩
    have hv : ActV H4 (xAt L es f) v := hv
    obtain ⟨t1, t2, t3⟩ := taken_ok B.ok (runS L es f) hkm
    have t2 : ActOk L.length _ (xAt L es f) := t2
    have S4 := S.same s5
    refine ⟨T4, _, rfl, SqT.of hT4, rfl, _, _, rfl, _, _, rfl, rfl, ?_⟩
    refine ⟨_, rfl, v, xAt L es f, _, _, rfl, hv, t2, _, rfl, ?_⟩
    cases hdl : isDl (xAt L es f) with
    | false =>
      have ek : kindM es f (xAt L es f) = ("plain" : String) := by unfold kindM; rw [if_neg (by rw [hdl]; decide)]
      refine iteT ⟨_, rfl, q2 H4 v s5 (fun z hz => ?_) (by rw [ek, what_plain]; exact hv)⟩
      rw [dec_none (.inr hdl)] at hz
      cases hz
    | true =>
      obtain ⟨a', b', cc, rfl, ha⟩ := dl_at hv hdl
      have hql := quE_len (es := es) (f := f) kl
      refine iteF ⟨_, rfl, rw, C1, dx, _, _, rfl, s5 _ _ hrw, rp.cl, rp.n2, rf_events, _, rfl, E, quE es f k, 0, .ref a', xAt L es f, rfl, S4.ev, by omega, by omega, hv, hdl, fun H5 s6 => ?_⟩
      have s56 := s5.trans s6
      have ha5 := s6 _ _ ha
      have hv5 := hv.keep (Tk.of s6)
      have eS := sure_q (es := es) (x := xAt L es f) hf kl
      have ek0 : kindM es f (xAt L es f) = if tapM es f (sureM es f (xAt L es f)) then (("tap" : String) : Str) else (("hold" : String) : Str) := by unfold kindM; rw [if_pos hdl]
      cases hq : sureM (quE es f k) 0 (xAt L es f) with
      | none =>
        have hno : ∀ n, sureM es f (xAt L es f) = some n → k ≤ n := fun n hn => by
          rw [hn, hq] at eS
          rcases Nat.lt_or_ge n k with z | z
          · have eS : none = (if n < k then some (n - f) else none) := eS
            rw [if_pos z] at eS; cases eS
          · exact z
        refine ⟨_, rfl, rfl, true, rfl, iteT ⟨_, rfl, _, rfl, _, rfl, .inl ⟨a', _, 3, _, rfl, rfl, SqT.of ha5, atI_nat (j := 3) rfl, _, _, rfl, rfl, _, _, rfl, rfl, _, rfl, ite2 (fun z => ?_) (fun z => ?_)⟩⟩⟩
        · exact q1 H5 s56 ⟨hdl, hno, of_decide_eq_true z⟩
        · have z : (evAt es f).t + timeOf (xAt L es f) ≤ now := by
            have : ¬ now < (evAt es f).t + timeOf (xAt L es f) := fun y => z (decide_eq_true y)
            omega
          have hnone : sureM es f (xAt L es f) = none := by
            cases hs : sureM es f (xAt L es f) with
            | none => rfl
            | some n =>
              have h1 := hno n hs
              have h2 := (sureM_lt hs).2
              have h3 := hlate n h1 h2
              have h5 := sure_in hs
              omega
          have ek : kindM es f (xAt L es f) = (("hold" : String) : Str) := by rw [ek0, hnone]; rfl
          refine ⟨_, rfl, _, rfl, rw, C1, dx, _, _, rfl, s56 _ _ hrw, rp.cl, rp.n2, rf_events, _, rfl, E, quE es f k, 0, none, rfl, S4.ev.same s6, by omega, fun n hn => (by cases hn), fun H6 s7 => ?_⟩
          rw [show tapM (quE es f k) 0 none = false from rfl, if_neg (by decide)]
          refine ⟨.ref a', xAt L es f, "hold", rfl, hv5.keep (Tk.of s7), .inr ⟨hdl, .inr rfl⟩, fun H7 v7 s8 hv7 => ?_⟩
          refine q2 H7 v7 ((s56.trans s7).trans s8) (fun y hy hcome => ?_) (by rw [ek]; exact hv7)
          rw [dec_some hd hdl, hnone] at hy
          rw [← Option.some.inj hy]
          exact z
      | some n' =>
        have hs : ∃ n, sureM es f (xAt L es f) = some n ∧ n < k ∧ n' = n - f := by
          rw [hq] at eS
          cases hs : sureM es f (xAt L es f) with
          | none => rw [hs] at eS; cases eS
          | some n =>
            rw [hs] at eS
            have eS : some n' = (if n < k then some (n - f) else none) := eS
            by_cases z : n < k
            · rw [if_pos z] at eS; exact ⟨n, rfl, z, Option.some.inj eS⟩
            · rw [if_neg z] at eS; cases eS
        obtain ⟨n, hs, hnk, rfl⟩ := hs
        obtain ⟨n1, n2⟩ := sureM_lt hs
        have et : tapM (quE es f k) 0 (some (n - f)) = tapM es f (some n) := by
          unfold tapM
          dsimp only
          have e1 := quE_at (es := es) (f := f) (k := k) (i := n - f) (by omega) kl
          have e0 := quE_at (es := es) (f := f) (k := k) (i := 0) hf kl
          rw [e1, e0, show f + (n - f) = n by omega, Nat.add_zero]
        refine ⟨_, rfl, rfl, false, rfl, iteF (iteF ?_)⟩
        refine ⟨_, rfl, _, rfl, rw, C1, dx, _, _, rfl, s56 _ _ hrw, rp.cl, rp.n2, rf_events, _, rfl, E, quE es f k, 0, some (n - f), rfl, S4.ev.same s6, by omega, fun j hj => (by cases hj; omega), fun H6 s7 => ?_⟩
        have ek : kindM es f (xAt L es f) = if tapM (quE es f k) 0 (some (n - f)) then (("tap" : String) : Str) else (("hold" : String) : Str) := by rw [ek0, hs, et]
        refine ⟨.ref a', xAt L es f, _, rfl, hv5.keep (Tk.of s7), .inr ⟨hdl, ?_⟩, fun H7 v7 s8 hv7 => ?_⟩
        · cases tapM (quE es f k) 0 (some (n - f)) with
          | true => exact .inl rfl
          | false => exact .inr rfl
        refine q2 H7 v7 ((s56.trans s7).trans s8) (fun y hy hcome => ?_) (by rw [ek]; exact hv7)
        rw [dec_some hd hdl, hs] at hy
        rw [← Option.some.inj hy]
        exact hcome n hnk
end
end K86

set_option Elab.async false
set_option linter.all false
set_option maxRecDepth 100000
set_option maxHeartbeats 8000000
namespace K86
open PySem PySem.Spec PyProof.Rows L2 Gd Rm La Cb Pl
theorem upI {b : Bool} : decide (V.str (wayS b) = V.str "up") = !b := by cases b <;> decide +kernel
theorem isNon (v : V) (h : v ≠ .non) : decide (v = V.non) = false := decide_eq_false h
theorem act_ne {H : Hp} {x : Actn} {v : V} (h : ActV H x v) : v ≠ .non := by
  cases x with
  | none => rw [show v = .str "none" from h]; intro z; cases z
  | thr => rw [show v = .str "through" from h]; intro z; cases z
  | code _ => obtain ⟨a, e, _⟩ := h; rw [e]; intro z; cases z
  | lay _ _ => obtain ⟨a, e, _⟩ := h; rw [e]; intro z; cases z
  | dualC _ _ _ _ => obtain ⟨a, b, e, _⟩ := h; rw [e]; intro z; cases z
  | dualL _ _ _ _ => obtain ⟨a, b, e, _⟩ := h; rw [e]; intro z; cases z
theorem RSt.runOk {C C1 : Addr} {Hb H : Hp} {rw p c l d e E g : Addr} {L : List (List Actn)} {m : Nat} {es : List Ev} {f k : Nat} (h : RSt C C1 Hb H rw p c l d e E L es f k) (B : Pb Hb c g L m es) : St1 L (runS L es f) f := by
  have a := h.fk
  have b := h.kl
  exact runS_ok B.ok B.val B.key f (by omega)
section
variable {P : Program} {w : World} {K : PySem.W.Frag} {mg : Str → Option Value} {base : Heap}
def spLet (C C1 : Addr) : Sp := fun vs H Q _ => ∃ (Hb : Hp) (rw p c g l d e E : Addr) (L : List (List Actn)) (m : Nat) (es : List Ev) (f k : Nat) (now : Int), vs = [.ref rw, .int now] ∧ Pb Hb c g L m es ∧ RSt C C1 Hb H rw p c l d e E L es f k ∧ (∀ i, i < k → (evAt es i).t ≤ now) ∧ (∀ i, k ≤ i → i < es.length → now ≤ (evAt es i).t) ∧ (f < k → now ≤ dnT L es f) ∧ (∀ i, i < f → dnT L es i ≤ now) ∧
  ∀ (H' : Hp) (O : Addr) (f' : Nat), f ≤ f' → f' ≤ k → RSt C C1 Hb H' rw p c l d e E L es f' k → Off5 p l d e E H H' → H O = none → Trips H' O (outsT L es f f') → Still L es f' k now → (∀ i, i < f' → dnT L es i ≤ now) → Q (.ref O) H'
theorem ok_let_out (bt : Bt mg) {C C1 : Addr} (cp : Cp K C) (rp : Rp K C1) (a : AtM K C1 "let_out" "Row.let_out" s_let_out ["self", "now"]) (c_release : ClM P w K mg base 1 C "release" (spRelease C)) (c_press : ClM P w K mg base 1 C "press" (spPress C)) (c_front_means : ClM P w K mg base 3 C1 "front_means" (spFront C C1)) : ClM P w K mg base 4 C1 "let_out" (spLet C C1) := by
  have cl_Player := cp.cl
  have cl_Row := rp.cl
  refine clMG a sc_let_out (fun vs H Q E h => ?_) (fun ff cdv A outer s H vs Q hg hr h => ?_)
  · obtain ⟨Hb, rw, p, c, g, l, d, e, E, L, m, es, f, k, now, rfl, _⟩ := h
    rfl
  · obtain ⟨Hb, rw, p, c, g, l, d, e, E, L, m, es, f, k, now, rfl, B, S, hc1, hc2, hlo, hup, q⟩ := h
    refine ⟨_, (pss_cons (ps_set (i := 2) sc_let_out.nd rfl (Or.inl rfl) (pe_lst pa_nil))
      (pss_cons (ps_while PassesOwn.never (pt_truth (pe_fld (pv 0) rfl) (by intro _; rfl)) (pss_cons (ps_asg (pe_ix ix_list (pe_fld (pv 0) rfl) pe_int (fun _ _ => rfl)) (pg_tup rfl (pgs_cons (pg_name (i := 3) sc_let_out.nd rfl (Or.inl rfl)) (pgs_cons (pg_name (i := 4) sc_let_out.nd rfl (Or.inl rfl)) (pgs_cons (pg_name (i := 5) sc_let_out.nd rfl (Or.inl rfl)) pgs_nil)))))
      (C8.pss_cut (ps_if (pt_cmpR op_eq (pv 5) pe_str (nomark _)) (pss_one (ps_set (i := 6) sc_let_out.nd rfl (Or.inl rfl) (pe_clM c_release cl_Player hg hr (by decide) (pe_fld (pv 0) rfl) (pa_cons (pv 4) pa_nil)))) (pss_cons (ps_set (i := 7) sc_let_out.nd rfl (Or.inl rfl) (pe_clM c_front_means cl_Row hg hr (by decide) (pv 0) (pa_cons (pv 1) pa_nil)))
      (pss_cons (ps_if (pt_cmpR op_isN (pv 7) pe_non (nomark _)) (pss_one (ps_ret (pv 2))) pss_nil)
      (pss_one (ps_set (i := 6) sc_let_out.nd rfl (Or.inl rfl) (pe_clM c_press cl_Player hg hr (by decide) (pe_fld (pv 0) rfl) (pa_cons (pv 4) (pa_cons (pv 7) pa_nil))))))))
      (pss_cons (ps_expr (pe_bm PySem.F.plainAttrs_list PySem.F.slot_list_pop PySem.F.type_list_pop mt_popAt (pe_fld (pv 0) rfl) (pa_cons pe_int pa_nil)))
      (pss_one (ps_if (pt_cmpR (op_neD hr.units) (pv 6) (pe_tup pa_nil) (nomark _)) (pss_one (ps_expr (pe_bm PySem.F.plainAttrs_list PySem.F.slot_list_append PySem.F.type_list_append mt_append (pv 2) (pa_cons (pe_tup (pa_cons (pv 1) (pa_cons (pe_ix ix_tup (pv 6) pe_int (fun _ _ => rfl)) (pa_cons (pe_ix ix_tup (pv 6) pe_int (fun _ _ => rfl)) pa_nil)))) pa_nil)))) pss_nil))))))
      (pss_one (ps_ret (pv 2))))), ?_⟩
    refine ⟨Nat.zero_le _, fun O nO => ?_⟩
    have kO := same_upd (o := .lst []) nO
    have h4 := B.len
    refine ⟨fun n σ H' => ∃ (f' : Nat) (y3 y4 y5 y6 y7 : Option V), n = k - f' ∧ f ≤ f' ∧ σ = [some (.ref rw), some (.int now), some (.ref O), y3, y4, y5, y6, y7] ∧ RSt C C1 Hb H' rw p c l d e E L es f' k ∧ Off5 p l d e E H H' ∧ O ≠ p ∧ O ≠ l ∧ O ≠ d ∧ O ≠ e ∧ O ≠ E ∧ Trips H' O (outsT L es f f') ∧ (f' < k → now ≤ dnT L es f') ∧ (∀ i, i < f' → dnT L es i ≤ now),
      ⟨_, f, _, _, _, _, _, rfl, Nat.le_refl _, rfl, S.same kO, Off5.of kO, ?_, ?_, ?_, ?_, ?_, ⟨[], upd_same, by rw [outsT_nil]; exact AllV.nil⟩, hlo, hup⟩, fun n σ H1 z => ?_⟩
    · intro z; obtain ⟨dx, h⟩ := S.pl.ob; rw [z, h] at nO; cases nO
    · intro z; have h := S.pl.lk; rw [z, h] at nO; cases nO
    · intro z; obtain ⟨_, h, _⟩ := S.pl.bd; rw [z, h] at nO; cases nO
    · intro z; obtain ⟨_, h, _⟩ := S.pl.pr; rw [z, h] at nO; cases nO
    · intro z; obtain ⟨_, h, _⟩ := S.ev; rw [z, h] at nO; cases nO
    obtain ⟨f', y3, y4, y5, y6, y7, rfl, hff, rfl, S1, o1, O1, O2, O3, O4, O5, T1, lo1, up1⟩ := z
    obtain ⟨dx, hrw⟩ := S1.ob
    obtain ⟨as, hE, hT⟩ := id S1.ev
    have kl := S1.kl
    have fk := S1.fk
    have hql := quE_len (es := es) (f := f') kl
    have hal : as.length = k - f' := by rw [hT.1, hql]
    refine ⟨_, rfl, rw, C1, dx, _, _, rfl, hrw, rp.cl, rp.n2, rf_events, !(as.map V.ref).isEmpty, .inl ⟨_, SqL.of hE, rfl⟩, ?_⟩
    rcases Nat.lt_or_ge f' k with hf | hf
    rotate_left
    · have hem : (as.map V.ref).isEmpty = true := by
        rw [List.isEmpty_map, List.isEmpty_iff_length_eq_zero]
        omega
      rw [hem]
      exact iteF ⟨_, rfl, q H1 O f' hff fk S1 o1 nO T1 (.inl (by omega)) up1⟩
    have hne : (as.map V.ref).isEmpty = false := by
      rw [List.isEmpty_map]
      cases as with
      | nil => simp at hal; omega
      | cons _ _ => rfl
    rw [hne]
    refine iteT ⟨_, fun σ' H' z => z, ?_⟩
    obtain ⟨as', b, hE', hb0, hb, _⟩ := S1.front hf
    have ee : as' = as := by
      have := HO.lst.inj (Option.some.inj (hE'.symm.trans hE))
      exact List.map_inj_right (fun a b z => V.ref.inj z) |>.mp this
    subst ee
    have hfl : f' < es.length := by omega
    have hev := evAt_eq hfl
    have hS := S1.runOk B
    have hbl := hS.len
    have hlk := hS.lk
    obtain ⟨dxp, hp⟩ := S1.pl.ob
    refine ⟨_, rfl, rw, C1, dx, _, _, rfl, hrw, rp.cl, rp.n2, rf_events, E, _, 0, .ref b, rfl, rfl, SqL.of hE, atI_nat (j := 0) (get_map_ref hb0), b, _, rfl, SqT.of hb, rfl, _, _, rfl, _, _, rfl, _, _, rfl, rfl, ?_⟩
    refine ⟨fun σ' H' => ∃ (o : V) (y7 : Option V), σ' = [some (.ref rw), some (.int now), some (.ref O), some (.int (evAt es f').t), some (.int (evAt es f').k), some (.str (wayS (evAt es f').d)), some o, y7] ∧ Off4 p l d e H1 H' ∧ PAt C H' p c l d e (f' + 1) (runS L es (f' + 1)) ∧ OutV H' (outM L es f') o ∧ dnT L es f' ≤ now, ⟨_, rfl, rfl, !(evAt es f').d, congrArg V.bl upI, ?_⟩, ?_⟩
    · cases hd : (evAt es f').d with
      | false =>
        refine iteT ⟨_, rfl, rw, C1, dx, _, _, rfl, hrw, rp.cl, rp.n1, rf_player, p, dxp, _, rfl, hp, f_no (by decide +kernel), _, rfl, p, c, l, d, e, f', runS L es f', L.length, (evAt es f').k, rfl, S1.pl, hS.bds, by omega, fun H4 o P4 o4 ho => ?_⟩
        refine ⟨o, _, rfl, o4, by rw [runS_up hd]; exact P4, ?_, ?_⟩
        · unfold outM; rw [if_neg (by rw [hd]; decide)]; exact ho
        · exact dnT_le hfl up1 (hc1 f' hf) (fun z hz => by rw [dec_none (.inl hd)] at hz; cases hz)
      | true =>
        refine iteF ⟨_, rfl, rw, dx, _, rfl, hrw, rf_no (by decide +kernel), _, rfl, Hb, rw, p, c, g, l, d, e, E, L, m, es, f', k, now, rfl, B, S1, hf, hd, hc2, fun H4 s4 hw => ?_, fun H4 v s4 hdec hv => ?_⟩
        · exact ⟨_, rfl, rfl, true, rfl, iteT ⟨_, rfl, q H4 O f' hff fk (S1.same s4) (o1.trans (Off5.of s4)) nO (T1.same s4) (.inr ⟨hf, hd, hw⟩) up1⟩⟩
        · have v1 := (B.val f' _ (List.getElem?_eq_getElem hfl)).1
          have hkk := B.key _ (List.getElem_mem hfl)
          obtain ⟨t1, t2, t3⟩ := taken_ok B.ok (runS L es f') (k := (evAt es f').k.toNat) (by rw [hev]; omega)
          have hW := what_do (es := es) (j := f') (n := L.length) (x := xAt L es f') t2 t3
          rw [← hlk] at hW
          have n6 := B.ok.n6
          refine ⟨_, rfl, rfl, false, congrArg V.bl (isNon v (act_ne hv)), iteF ?_⟩
          refine ⟨_, rfl, rw, C1, dx, _, _, rfl, s4 _ _ hrw, rp.cl, rp.n1, rf_player, p, dxp, _, rfl, s4 _ _ hp, f_no (by decide +kernel), _, rfl, _, rfl, p, c, l, d, e, f', runS L es f', (evAt es f').k, v, _, rfl, S1.pl.same s4, hv, hW, by omega, by omega, by omega, fun H5 o P5 o5 ho => ?_⟩
          refine ⟨o, _, rfl, (Off4.of s4).trans o5, by rw [runS_dn hd]; exact P5, ?_, ?_⟩
          · unfold outM; rw [if_pos hd]; exact ho
          · exact dnT_le hfl up1 (hc1 f' hf) (fun z hz => hdec z hz hc1)
    · rintro σ' H2 ⟨o, y7, rfl, o4, P2, ho, hdn⟩
      obtain ⟨hE2, S2⟩ := S1.pop o4 P2 hE hf
      obtain ⟨s1, s2, s3, s4, s5, s6, s7⟩ := S1.sep
      have hrw2 := o4 _ _ hrw S1.rp s4 s5 s6
      refine ⟨_, rfl, rw, C1, dx, _, _, rfl, hrw2, rp.cl, rp.n2, rf_events, .inl ⟨rfl, _, SqL.of hE2⟩, E, _, 0, 0, .ref b, rfl, rfl, hE2, by decide, by decide, ?_, get_map_ref hb0, ?_⟩
      · rw [List.length_map, hal]
        unfold seqIndex?
        have h0 : (0 : Int) < ((k - f' : Nat) : Int) := by omega
        simp
        omega
      have o2 : Off5 p l d e E H1 (upd H2 E (.lst ((as'.map V.ref).eraseIdx 0))) := (Off5.of4 o4).trans Off5.upE
      have tk2 := S1.tk o2
      have ho2 : OutV (upd H2 E (.lst ((as'.map V.ref).eraseIdx 0))) (outM L es f') o := ho.keep (tk_upd hE2)
      have T2 : Trips (upd H2 E (.lst ((as'.map V.ref).eraseIdx 0))) O (outsT L es f f') := T1.go tk2 fun vs hv => o2 _ _ hv O1 O2 O3 O4 O5
      generalize upd H2 E (.lst ((as'.map V.ref).eraseIdx 0)) = H3 at S2 o2 ho2 T2 ⊢
      have edn : dnT L es f' = now := by have := lo1 hf; omega
      have lo2 : f' + 1 < k → now ≤ dnT L es (f' + 1) := fun _ => by have := dnT_succ (L := L) (es := es) (i := f'); omega
      have up2 : ∀ i, i < f' + 1 → dnT L es i ≤ now := fun i hi => by
        rcases Nat.lt_or_ge i f' with z | z
        · exact up1 i z
        · rw [show i = f' by omega]; omega
      have okO := outM_ok B.ok B.val B.key hfl
      refine ⟨_, rfl, Nat.zero_le _, fun Te nTe => ?_⟩
      have kTe := same_upd (o := .tup []) nTe
      refine ⟨_, _, (ho2.keep (Tk.of kTe)).dp, .tup (SqT.of upd_same) .nil, out_lay okO, by decide +kernel, isOut (outM L es f'), by rw [eqv_out, Bool.not_not], ?_⟩
      have S3 := S2.same kTe
      have T3 := T2.same kTe
      have ho3 := ho2.keep (Tk.of kTe)
      have o3 := o1.trans (o2.trans (Off5.of kTe))
      generalize upd H3 Te (.tup []) = H4 at S3 T3 ho3 o3 ⊢
      have os := outsT_succ (L := L) (es := es) hff
      have ol := outsT_len (L := L) (es := es) (f := f) (g := f')
      obtain ⟨vs, hO4, hvs⟩ := id T3
      have hvl := hvs.1
      cases hio : isOut (outM L es f') with
      | false =>
        rw [hio, if_neg (by decide), List.append_nil] at os
        refine iteF ⟨k - (f' + 1), by omega, f' + 1, _, _, _, _, _, rfl, by omega, rfl, S3, o3, O1, O2, O3, O4, O5, ?_, lo2, up2⟩
        rw [os]; exact T3
      | true =>
        rw [hio, if_pos rfl] at os
        obtain ⟨To, rfl, hTo⟩ := ho3
        have fin : ∀ (w1 : Str) (c1 : Str), outL (outM L es f') = [.str w1, .str c1] → ∀ U : Addr, H4 U = none → Trips (upd (upd H4 U (.tup [.int now, .str w1, .str c1])) O (.lst (vs ++ [.ref U]))) O (outsT L es f (f' + 1)) := fun w1 c1 ew U nU => by
          have kU := same_upd (o := .tup [.int now, .str w1, .str c1]) nU
          rw [os]
          refine ⟨vs ++ [.ref U], upd_same, (AllV.snoc (hvs.keep fun x v z => z.keep (Tk.of kU)) ⟨U, rfl, ?_⟩).keep fun x v z => z.keep (tk_upd (kU _ _ hO4))⟩
          rw [upd_same, edn, ew]
        have go : ∀ (w1 : Str) (c1 : Str), outL (outM L es f') = [.str w1, .str c1] → ∀ U : Addr, H4 U = none → RSt C C1 Hb (upd (upd H4 U (.tup [.int now, .str w1, .str c1])) O (.lst (vs ++ [.ref U]))) rw p c l d e E L es (f' + 1) k ∧ Off5 p l d e E H (upd (upd H4 U (.tup [.int now, .str w1, .str c1])) O (.lst (vs ++ [.ref U]))) := fun w1 c1 ew U nU => by
          have kU := same_upd (o := .tup [.int now, .str w1, .str c1]) nU
          have S4 := S3.same kU
          have hO5 := kU _ _ hO4
          obtain ⟨dx4, hr4⟩ := S4.ob
          have Orw : rw ≠ O := ne_of hr4 hO5 (by intro z; cases z)
          have HbO : Hb O = none := by
            cases h : Hb O with
            | none => rfl
            | some u => have := S.sb _ _ h; rw [this] at nO; cases nO
          refine ⟨{ S4 with ob := ⟨dx4, by rw [upd_ne Orw]; exact hr4⟩, pl := S4.pl.updW hO5 O1 O2 O3 O4, ev := ?_, sb := Same.off S4.sb HbO off_upd }, fun b o hb n1 n2 n3 n4 n5 => ?_⟩
          · obtain ⟨as5, e5, t5⟩ := S4.ev
            exact ⟨as5, by rw [upd_ne O5.symm]; exact e5, t5.1, fun i a x u v => tk_upd hO5 _ _ (t5.2 i a x u v)⟩
          · rw [upd_ne (ne_of_none hb nO)]
            exact kU _ _ (o3 _ _ hb n1 n2 n3 n4 n5)
        cases hoo : outM L es f' with
        | no => rw [hoo] at hio; cases hio
        | pr cc =>
          rw [hoo] at hTo
          refine iteT ⟨_, rfl, .inl ⟨rfl, _, SqL.of hO4⟩, _, rfl, _, rfl, To, _, 0, _, rfl, rfl, SqT.of hTo, atI_nat (j := 0) rfl, _, rfl, To, _, 1, _, rfl, rfl, SqT.of hTo, atI_nat (j := 1) rfl, (by show 3 ≤ sizeLine; decide), fun U nU => ?_⟩
          obtain ⟨g1, g2⟩ := go "press" cc (by rw [hoo]; rfl) U nU
          exact ⟨O, _, .ref U, rfl, rfl, (same_upd nU) _ _ hO4, small1000 (by omega), k - (f' + 1), by omega, f' + 1, _, _, _, _, _, rfl, by omega, rfl, g1, g2, O1, O2, O3, O4, O5, fin "press" cc (by rw [hoo]; rfl) U nU, lo2, up2⟩
        | re cc =>
          rw [hoo] at hTo
          refine iteT ⟨_, rfl, .inl ⟨rfl, _, SqL.of hO4⟩, _, rfl, _, rfl, To, _, 0, _, rfl, rfl, SqT.of hTo, atI_nat (j := 0) rfl, _, rfl, To, _, 1, _, rfl, rfl, SqT.of hTo, atI_nat (j := 1) rfl, (by show 3 ≤ sizeLine; decide), fun U nU => ?_⟩
          obtain ⟨g1, g2⟩ := go "release" cc (by rw [hoo]; rfl) U nU
          exact ⟨O, _, .ref U, rfl, rfl, (same_upd nU) _ _ hO4, small1000 (by omega), k - (f' + 1), by omega, f' + 1, _, _, _, _, _, rfl, by omega, rfl, g1, g2, O1, O2, O3, O4, O5, fin "release" cc (by rw [hoo]; rfl) U nU, lo2, up2⟩
end
end K86

set_option Elab.async false
set_option linter.all false
set_option maxRecDepth 100000
set_option maxHeartbeats 8000000
namespace K86
open PySem PySem.Spec PyProof.Rows L2 Gd Rm La Cb Pl
theorem AllV.app {α : Type} {R : Hp → α → V → Prop} {H : Hp} {vs : List V} {xs : List α} (h : AllV R H vs xs) : ∀ {ws : List V} {ys : List α}, AllV R H ws ys → AllV R H (vs ++ ws) (xs ++ ys) := by
  intro ws ys h2
  have hl := h.1
  refine ⟨by rw [List.length_append, List.length_append, h.1, h2.1], fun i v x a b => ?_⟩
  rcases Nat.lt_or_ge i vs.length with q | q
  · rw [List.getElem?_append_left q] at a
    rw [List.getElem?_append_left (by omega)] at b
    exact h.2 i v x a b
  · rw [List.getElem?_append_right q] at a
    rw [List.getElem?_append_right (by omega), ← hl] at b
    exact h2.2 _ v x a b
/-- a list beside a row -/
structure Bes (H : Hp) (O p l d e E : Addr) : Prop where
  n1 : O ≠ p
  n2 : O ≠ l
  n3 : O ≠ d
  n4 : O ≠ e
  n5 : O ≠ E
section
variable {C C1 : Addr} {Hb H H' : Hp} {rw p c l d e E O : Addr} {L : List (List Actn)} {es : List Ev} {f k : Nat}
theorem RSt.bes (S : RSt C C1 Hb H rw p c l d e E L es f k) (nO : H O = none) : Bes H O p l d e E := by
  refine ⟨?_, ?_, ?_, ?_, ?_⟩
  · intro z; obtain ⟨dx, h⟩ := S.pl.ob; rw [z, h] at nO; cases nO
  · intro z; have h := S.pl.lk; rw [z, h] at nO; cases nO
  · intro z; obtain ⟨_, h, _⟩ := S.pl.bd; rw [z, h] at nO; cases nO
  · intro z; obtain ⟨_, h, _⟩ := S.pl.pr; rw [z, h] at nO; cases nO
  · intro z; obtain ⟨_, h, _⟩ := S.ev; rw [z, h] at nO; cases nO
/-- such a list changes -/
theorem RSt.updO {vs ws : List V} {H0 : Hp} (S : RSt C C1 Hb H rw p c l d e E L es f k) (hb : Bes H0 O p l d e E) (hO : H O = some (.lst vs)) (n : Hb O = none) : RSt C C1 Hb (upd H O (.lst ws)) rw p c l d e E L es f k := by
  obtain ⟨dx, hr⟩ := S.ob
  refine { S with ob := ⟨dx, by rw [upd_ne (ne_of hr hO (by intro z; cases z))]; exact hr⟩, pl := S.pl.updW hO hb.n1 hb.n2 hb.n3 hb.n4, ev := ?_, sb := Same.off S.sb n off_upd }
  obtain ⟨as, e1, e2⟩ := S.ev
  exact ⟨as, by rw [upd_ne hb.n5.symm]; exact e1, e2.1, fun i a x u v => tk_upd hO _ _ (e2.2 i a x u v)⟩
theorem hb_none (S : RSt C C1 Hb H rw p c l d e E L es f k) (nO : H O = none) : Hb O = none := none_back S.sb nO
end
theorem Still.lo {Hb : Hp} {c g : Addr} {L : List (List Actn)} {m : Nat} {es : List Ev} {f k : Nat} {now T : Int} (B : Pb Hb c g L m es) (h : Still L es f k now) (hf : f ≠ k) (hk : k ≤ es.length) (h2 : ∀ i, k ≤ i → i < es.length → T ≤ (evAt es i).t) (hT : (evAt es f).t + timeOf (xAt L es f) ≤ T) : (evAt es f).t + timeOf (xAt L es f) ≤ dnT L es f := by
  rcases h with h | ⟨h, hd, hl, hw, ht⟩
  · exact absurd h hf
  have g := (dnT_ge (L := L) (es := es) (i := f) (by omega)).2
  rw [dec_some hd hl] at g
  cases e : sureM es f (xAt L es f) with
  | none => rw [e] at g; exact g _ rfl
  | some n =>
    have a := hw n e
    have b := (sureM_lt e).2
    have := h2 n a b
    have := sure_in e
    omega
section
variable {P : Program} {w : World} {K : PySem.W.Frag} {mg : Str → Option Value} {base : Heap}
def spClock (C C1 : Addr) : Sp := fun vs H Q _ => ∃ (Hb : Hp) (rw p c g l d e E : Addr) (L : List (List Actn)) (m : Nat) (es : List Ev) (f k : Nat) (now T : Int), vs = [.ref rw, .int T] ∧ Pb Hb c g L m es ∧ RSt C C1 Hb H rw p c l d e E L es f k ∧ Still L es f k now ∧ now ≤ T ∧ (∀ i, i < k → (evAt es i).t ≤ now) ∧ (∀ i, k ≤ i → i < es.length → T ≤ (evAt es i).t) ∧ (∀ i, i < f → dnT L es i ≤ now) ∧
  ∀ (H' : Hp) (O : Addr) (f' : Nat), f ≤ f' → f' ≤ k → RSt C C1 Hb H' rw p c l d e E L es f' k → Off5 p l d e E H H' → H O = none → Trips H' O (outsT L es f f') → Still L es f' k T → (∀ i, i < f' → dnT L es i ≤ T) → Q (.ref O) H'
theorem ok_clock (bt : Bt mg) {C C1 : Addr} (rp : Rp K C1) (a : AtM K C1 "clock" "Row.clock" s_clock ["self", "tick"]) (c_due : ClM P w K mg base 3 C1 "due" (spDue C C1)) (c_let_out : ClM P w K mg base 4 C1 "let_out" (spLet C C1)) : ClM P w K mg base 5 C1 "clock" (spClock C C1) := by
  have cl_Row := rp.cl
  refine clMG a sc_clock (fun vs H Q E h => ?_) (fun ff cdv A outer s H vs Q hg hr h => ?_)
  · obtain ⟨Hb, rw, p, c, g, l, d, e, E, L, m, es, f, k, now, T, rfl, _⟩ := h
    rfl
  · obtain ⟨Hb, rw, p, c, g, l, d, e, E, L, m, es, f, k, now, T, rfl, B, S, st, hnT, hc1, hc2, hup, q⟩ := h
    refine ⟨_, (pss_cons (ps_set (i := 2) sc_clock.nd rfl (Or.inl rfl) (pe_lst pa_nil))
      (pss_cons (ps_set (i := 3) sc_clock.nd rfl (Or.inl rfl) (pe_clM0 c_due cl_Row hg hr (by decide) (pv 0)))
      (pss_cons (ps_while PassesOwn.never (PW.pt (pw_and (pt_cmpR op_notN (pv 3) pe_non (nomark _)) (pw_and1 (pt_cmpR op_le (pv 3) (pv 1) (nomark _))))) (pss_cons (ps_expr (pe_bm PySem.F.plainAttrs_list PySem.F.slot_list_extend PySem.F.type_list_extend mt_extend (pv 2) (pa_cons (pe_clM c_let_out cl_Row hg hr (by decide) (pv 0) (pa_cons (pv 3) pa_nil)) pa_nil)))
      (pss_one (ps_set (i := 3) sc_clock.nd rfl (Or.inl rfl) (pe_clM0 c_due cl_Row hg hr (by decide) (pv 0))))))
      (pss_one (ps_ret (pv 2)))))), ?_⟩
    refine ⟨Nat.zero_le _, fun O nO => ?_⟩
    have kO := same_upd (o := .lst []) nO
    have h4 := B.len
    have S0 := S.same kO
    have bs := S.bes nO
    have nOb := hb_none S nO
    obtain ⟨dx0, hrw0⟩ := S0.ob
    refine ⟨_, rfl, rw, dx0, _, rfl, hrw0, rf_no (by decide +kernel), Hb, rw, p, c, g, l, d, e, E, L, m, es, f, k, now, rfl, B, S0, st, fun H1 s1 => ?_⟩
    refine ⟨fun n σ H' => ∃ (f' : Nat) (now' : Int), n = k - f' ∧ f ≤ f' ∧ now' ≤ T ∧ σ = [some (.ref rw), some (.int T), some (.ref O), some (if f' = k then .non else .int ((evAt es f').t + timeOf (xAt L es f')))] ∧ RSt C C1 Hb H' rw p c l d e E L es f' k ∧ Off5 p l d e E H H' ∧ Trips H' O (outsT L es f f') ∧ Still L es f' k now' ∧ (∀ i, i < k → (evAt es i).t ≤ now') ∧ (∀ i, i < f' → dnT L es i ≤ now'),
      ⟨_, f, now, rfl, Nat.le_refl _, hnT, rfl, S0.same s1, Off5.of (kO.trans s1), ⟨[], s1 _ _ upd_same, by rw [outsT_nil]; exact AllV.nil⟩, st, hc1, hup⟩, fun n σ H2 z => ?_⟩
    obtain ⟨f', now', rfl, hff, hnT', rfl, S1, o1, T1, st1, hc1', up1⟩ := z
    have kl := S1.kl
    have fk := S1.fk
    by_cases hf : f' = k
    · rw [if_pos hf]
      exact ⟨_, rfl, rfl, false, rfl, iteF (iteF ⟨_, rfl, q H2 O f' hff fk S1 o1 nO T1 (.inl hf) (fun i hi => by have := up1 i hi; omega)⟩)⟩
    rw [if_neg hf]
    have hw : f' < k ∧ (evAt es f').d = true ∧ Waits L es f' k now' := by
      rcases st1 with h | h
      · exact absurd h hf
      · exact h
    obtain ⟨hfk, hd, hl, hwt, hnow⟩ := id hw
    refine ⟨_, rfl, rfl, true, rfl, iteT ⟨_, rfl, _, rfl, _, _, rfl, rfl, _, rfl, ite2 (fun z => ?_) (fun z => ?_)⟩⟩
    rotate_left
    · have z : T < (evAt es f').t + timeOf (xAt L es f') := by
        have : ¬ (evAt es f').t + timeOf (xAt L es f') ≤ T := fun y => z (decide_eq_true y)
        omega
      exact ⟨_, rfl, q H2 O f' hff fk S1 o1 nO T1 (.inr ⟨hfk, hd, hl, hwt, z⟩) (fun i hi => by have := up1 i hi; omega)⟩
    have z : (evAt es f').t + timeOf (xAt L es f') ≤ T := of_decide_eq_true z
    have lo := st1.lo B hf kl hc2 z
    refine ⟨_, fun σ' H' z => z, ?_⟩
    obtain ⟨dx, hrw⟩ := S1.ob
    obtain ⟨vs, hO, hvs⟩ := id T1
    refine ⟨_, rfl, .inl ⟨rfl, _, SqL.of hO⟩, ?_⟩
    refine ⟨_, rfl, rw, dx, _, rfl, hrw, rf_no (by decide +kernel), _, rfl, Hb, rw, p, c, g, l, d, e, E, L, m, es, f', k, _, rfl, B, S1, fun i hi => by have := hc1' i hi; omega, fun i h1 h2 => by have := hc2 i h1 h2; omega, fun _ => lo, fun i hi => by have := up1 i hi; omega, fun H4 O4 f2 h1 h2 S4 o4 nO4 T4 st4 up4 => ?_⟩
    have hO4 := o4 _ _ hO bs.n1 bs.n2 bs.n3 bs.n4 bs.n5
    obtain ⟨zs, hZ, hzs⟩ := id T4
    have e1 := hvs.1
    have e2 := hzs.1
    have l1 := outsT_len (L := L) (es := es) (f := f) (g := f')
    have l2 := outsT_len (L := L) (es := es) (f := f') (g := f2)
    have tk4 := S1.tk o4
    have T5 : Trips (upd H4 O (.lst (vs ++ zs))) O (outsT L es f f2) := by
      rw [← outsT_app hff h1]
      refine ⟨_, upd_same, (AllV.app (hvs.keep fun x v z => z.keep tk4) hzs).keep fun x v z => z.keep (tk_upd hO4)⟩
    have S5 := S4.updO (ws := vs ++ zs) bs hO4 nOb
    have o5 : Off5 p l d e E H (upd H4 O (.lst (vs ++ zs))) := fun b o hb n1 n2 n3 n4 n5 => by
      rw [upd_ne (ne_of_none hb nO)]
      exact o4 _ _ (o1 _ _ hb n1 n2 n3 n4 n5) n1 n2 n3 n4 n5
    refine ⟨O, O4, vs, zs, rfl, rfl, hO4, hZ, by rw [sizeLine_eq]; omega, ?_⟩
    generalize upd H4 O (.lst (vs ++ zs)) = H5 at T5 S5 o5 ⊢
    obtain ⟨dx5, hrw5⟩ := S5.ob
    have prog : f' < f2 := by
      rcases Nat.lt_or_ge f' f2 with y | y
      · exact y
      · have e : f2 = f' := by omega
        subst e
        rcases st4 with h | ⟨_, _, _, _, h⟩
        · exact absurd h hf
        · omega
    refine ⟨_, rfl, rw, dx5, _, rfl, hrw5, rf_no (by decide +kernel), Hb, rw, p, c, g, l, d, e, E, L, m, es, f2, k, _, rfl, B, S5, st4, fun H6 s6 => ⟨k - f2, by omega, f2, _, rfl, by omega, z, rfl, S5.same s6, o5.trans (Off5.of s6), T5.same s6, st4, fun i hi => by have := hc1' i hi; omega, up4⟩⟩
def spCome (C C1 : Addr) : Sp := fun vs H Q _ => ∃ (Hb : Hp) (rw p c g l d e E b : Addr) (L : List (List Actn)) (m : Nat) (es : List Ev) (f k : Nat), vs = [.ref rw, .ref b] ∧ Pb Hb c g L m es ∧ RSt C C1 Hb H rw p c l d e E L es f k ∧ k < es.length ∧ H b = some (.tup (evV (evAt es k))) ∧ Still L es f k (evAt es k).t ∧ (∀ i, i < f → dnT L es i ≤ (evAt es k).t) ∧
  ∀ (H' : Hp) (O : Addr) (f' : Nat), f ≤ f' → f' ≤ k + 1 → RSt C C1 Hb H' rw p c l d e E L es f' (k + 1) → Off5 p l d e E H H' → H O = none → Trips H' O (outsT L es f f') → Still L es f' (k + 1) (evAt es k).t → (∀ i, i < f' → dnT L es i ≤ (evAt es k).t) → Q (.ref O) H'
theorem val_mono {es : List Ev} (hV : Valid es) {i j : Nat} (h : i ≤ j) (hj : j < es.length) : (evAt es i).t ≤ (evAt es j).t := by
  rcases Nat.lt_or_ge i j with q | q
  · rw [evAt_eq (by omega : i < es.length), evAt_eq hj]
    exact (hV j _ (List.getElem?_eq_getElem hj)).2.2 i _ q (List.getElem?_eq_getElem (by omega))
  · rw [show i = j by omega]; exact Int.le_refl _
theorem ok_come (bt : Bt mg) {C C1 : Addr} (rp : Rp K C1) (a : AtM K C1 "come" "Row.come" s_come ["self", "event"]) (c_let_out : ClM P w K mg base 4 C1 "let_out" (spLet C C1)) : ClM P w K mg base 5 C1 "come" (spCome C C1) := by
  have cl_Row := rp.cl
  refine clMG a sc_come (fun vs H Q E h => ?_) (fun ff cdv A outer s H vs Q hg hr h => ?_)
  · obtain ⟨Hb, rw, p, c, g, l, d, e, E, b, L, m, es, f, k, rfl, _⟩ := h
    rfl
  · obtain ⟨Hb, rw, p, c, g, l, d, e, E, b, L, m, es, f, k, rfl, B, S, hk, hb, st, hup, q⟩ := h
    refine ⟨_, (pss_cons (ps_expr (pe_bm PySem.F.plainAttrs_list PySem.F.slot_list_append PySem.F.type_list_append mt_append (pe_fld (pv 0) rfl) (pa_cons (pv 1) pa_nil)))
      (pss_one (ps_ret (pe_clM c_let_out cl_Row hg hr (by decide) (pv 0) (pa_cons (pe_ix ix_tup (pv 1) pe_int (fun _ _ => rfl)) pa_nil))))), ?_⟩
    obtain ⟨dx, hrw⟩ := S.ob
    obtain ⟨as, hE, hT⟩ := id S.ev
    have hql := quE_len (es := es) (f := f) S.kl
    have hal : as.length = k - f := by rw [hT.1, hql]
    have h4 := B.len
    have hev := evAt_eq hk
    have S2 := S.push hk (by rw [← hev]; exact hb) hE
    have o2 : Off5 p l d e E H (upd H E (.lst (as.map V.ref ++ [.ref b]))) := Off5.upE
    have hb2 := S.tk o2 _ _ hb
    refine ⟨_, rfl, rw, C1, dx, _, _, rfl, hrw, rp.cl, rp.n2, rf_events, .inl ⟨rfl, _, SqL.of hE⟩, _, rfl, E, _, .ref b, rfl, rfl, hE, by rw [List.length_map]; exact small1000 (by omega), ?_⟩
    generalize upd H E (.lst (as.map V.ref ++ [.ref b])) = H2 at S2 o2 hb2 ⊢
    obtain ⟨dx2, hrw2⟩ := S2.ob
    refine ⟨_, rfl, rw, dx2, _, rfl, hrw2, rf_no (by decide +kernel), _, rfl, b, _, 0, _, rfl, rfl, SqT.of hb2, atI_nat (j := 0) rfl, Hb, rw, p, c, g, l, d, e, E, L, m, es, f, k + 1, _, rfl, B, S2, fun i hi => val_mono B.val (by omega) hk, fun i h1 h2 => val_mono B.val (by omega) h2, fun hf => ?_, hup, fun H4 O f' h1 h2 S4 o4 nO T4 st4 up4 => q H4 O f' h1 h2 S4 (o2.trans o4) ?_ T4 st4 up4⟩
    · rcases st with h | ⟨h, hd, hl, hw, ht⟩
      · rw [h]; exact (dnT_ge (L := L) hk).1
      · have g := (dnT_ge (L := L) (es := es) (i := f) (by omega)).2
        rw [dec_some hd hl] at g
        cases e : sureM es f (xAt L es f) with
        | none =>
          rw [e] at g
          have := g _ rfl
          omega
        | some n =>
          rw [e] at g
          have := g _ rfl
          have a := hw n e
          have b := (sureM_lt e).2
          have := val_mono B.val a b
          omega
    · cases h : H O with
      | none => rfl
      | some u =>
        have bs := S2.bes nO
        rw [o2 _ _ h bs.n1 bs.n2 bs.n3 bs.n4 bs.n5] at nO
        cases nO
def spComeAll (C C1 : Addr) : Sp := fun vs H Q _ => ∃ (Hb : Hp) (rw p c g l d e E G : Addr) (L : List (List Actn)) (m : Nat) (es : List Ev) (n : Nat) (as : List Addr), vs = [.ref rw, .ref G] ∧ Pb Hb c g L m es ∧ RSt C C1 Hb H rw p c l d e E L es 0 0 ∧ n ≤ es.length ∧ Hb G = some (.lst (as.map V.ref)) ∧ Tups Hb evV as (es.take n) ∧
  ∀ (H' : Hp) (O : Addr) (f' : Nat) (now : Int), f' ≤ n → RSt C C1 Hb H' rw p c l d e E L es f' n → Off5 p l d e E H H' → H O = none → Trips H' O (outsT L es 0 f') → Still L es f' n now → (∀ i, i < n → (evAt es i).t ≤ now) → (∀ i, i < f' → dnT L es i ≤ now) → (n = 0 ∨ now = (evAt es (n - 1)).t) → Q (.ref O) H'
theorem ok_come_all (bt : Bt mg) {C C1 : Addr} (rp : Rp K C1) (a : At K mg "come_all" s_come_all ["machine", "events"]) (c_clock : ClM P w K mg base 5 C1 "clock" (spClock C C1)) (c_come : ClM P w K mg base 5 C1 "come" (spCome C C1)) : Cl P w K mg base 6 "come_all" (spComeAll C C1) := by
  have cl_Row := rp.cl
  refine clG a sc_come_all (fun vs H Q E h => ?_) (fun ff cdv A outer s H vs Q hg hr h => ?_)
  · obtain ⟨Hb, rw, p, c, g, l, d, e, E, G, L, m, es, n, as, rfl, _⟩ := h
    rfl
  · obtain ⟨Hb, rw, p, c, g, l, d, e, E, G, L, m, es, n, as, rfl, B, S, hn, hG, hT, q⟩ := h
    refine ⟨_, (pss_cons (ps_set (i := 2) sc_come_all.nd rfl (Or.inl rfl) (pe_lst pa_nil))
      (pss_cons (ps_for PassesOwn.never rfl (pi_list (pv 1)) (pg_name (i := 3) sc_come_all.nd rfl (Or.inl rfl)) (pss_cons (ps_expr (pe_bm PySem.F.plainAttrs_list PySem.F.slot_list_extend PySem.F.type_list_extend mt_extend (pv 2) (pa_cons (pe_clM c_clock cl_Row hg hr (by decide) (pv 0) (pa_cons (pe_ix ix_tup (pv 3) pe_int (fun _ _ => rfl)) pa_nil)) pa_nil)))
      (pss_one (ps_expr (pe_bm PySem.F.plainAttrs_list PySem.F.slot_list_extend PySem.F.type_list_extend mt_extend (pv 2) (pa_cons (pe_clM c_come cl_Row hg hr (by decide) (pv 0) (pa_cons (pv 3) pa_nil)) pa_nil))))))
      (pss_one (ps_ret (pv 2))))), ?_⟩
    refine ⟨Nat.zero_le _, fun O nO => ?_⟩
    have kO := same_upd (o := .lst []) nO
    have h4 := B.len
    have S0 := S.same kO
    have bs := S.bes nO
    have nOb := hb_none S nO
    have htl : (es.take n).length = n := by rw [List.length_take]; omega
    have hal : as.length = n := by rw [hT.1, htl]
    have hlen : (as.map V.ref).length = n := by rw [List.length_map]; exact hal
    refine ⟨_, rfl, G, rfl, ⟨_, SqL.of (S0.sb _ _ hG)⟩, for_it (walk_list (xs := as.map V.ref)) (fun i σ H' => ∃ (f' : Nat) (now : Int) (y3 : Option V), σ = [some (.ref rw), some (.ref G), some (.ref O), y3] ∧ f' ≤ i ∧ RSt C C1 Hb H' rw p c l d e E L es f' i ∧ Off5 p l d e E H H' ∧ Trips H' O (outsT L es 0 f') ∧ Still L es f' i now ∧ (∀ j, j < i → (evAt es j).t ≤ now) ∧ (∀ j, j < f' → dnT L es j ≤ now) ∧ (i = 0 ∨ now = (evAt es (i - 1)).t))
      ⟨0, 0, _, rfl, Nat.le_refl _, S0, Off5.of kO, ⟨[], upd_same, by rw [outsT_nil]; exact AllV.nil⟩, .inl rfl, fun j h => absurd h (Nat.not_lt_zero _), fun j h => absurd h (Nat.not_lt_zero _), .inl rfl⟩ (fun i σ H' _ z => by obtain ⟨_, _, _, _, _, S1, _⟩ := z; exact SqL.of (S1.sb _ _ hG)) (fun i x σ H1 H1b hi z y => ?_) (fun σ H1 z => ?_)⟩
    · obtain ⟨f', now, y3, rfl, hfi, S1, o1, T1, st1, hc1, up1, hn1⟩ := z
      obtain ⟨rfl, hx⟩ := y
      have hin : i < n := by omega
      have hie : i < es.length := by omega
      obtain ⟨b, hb0, hb⟩ := hT.at_ (i := i) (by rw [htl]; exact hin)
      have ex : V.ref b = x := Option.some.inj ((get_map_ref hb0).symm.trans hx)
      subst ex
      have hb1 := S1.sb _ _ hb
      have eei : (es.take n)[i]'(by rw [htl]; exact hin) = evAt es i := by rw [List.getElem_take, evAt_eq hie]
      rw [eei] at hb1
      obtain ⟨dx, hrw⟩ := S1.ob
      obtain ⟨vs, hO, hvs⟩ := id T1
      have e1 := hvs.1
      have l1 := outsT_len (L := L) (es := es) (f := 0) (g := f')
      obtain ⟨now0, h01, h02, h03, h04⟩ : ∃ now0, now0 ≤ (evAt es i).t ∧ Still L es f' i now0 ∧ (∀ j, j < i → (evAt es j).t ≤ now0) ∧ (∀ j, j < f' → dnT L es j ≤ now0) := by
        rcases hn1 with h | h
        · refine ⟨(evAt es i).t, Int.le_refl _, .inl (by omega), fun j hj => by omega, fun j hj => by omega⟩
        · exact ⟨now, by rw [h]; exact val_mono B.val (by omega) hie, st1, hc1, up1⟩
      refine ⟨_, rfl, .inl ⟨rfl, _, SqL.of hO⟩, ?_⟩
      refine ⟨_, rfl, rw, dx, _, rfl, hrw, rf_no (by decide +kernel), _, rfl, b, _, 0, _, rfl, rfl, SqT.of hb1, atI_nat (j := 0) rfl, Hb, rw, p, c, g, l, d, e, E, L, m, es, f', i, now0, _, rfl, B, S1, h02, h01, h03, fun j h1 h2 => val_mono B.val h1 h2, h04, fun H4 O4 f2 h1 h2 S4 o4 nO4 T4 st4 up4 => ?_⟩
      have hO4 := o4 _ _ hO bs.n1 bs.n2 bs.n3 bs.n4 bs.n5
      obtain ⟨zs, hZ, hzs⟩ := id T4
      have e2 := hzs.1
      have l2 := outsT_len (L := L) (es := es) (f := f') (g := f2)
      have tk4 := S1.tk o4
      have T5 : Trips (upd H4 O (.lst (vs ++ zs))) O (outsT L es 0 f2) := by
        rw [← outsT_app (Nat.zero_le _) h1]
        exact ⟨_, upd_same, (AllV.app (hvs.keep fun x v z => z.keep tk4) hzs).keep fun x v z => z.keep (tk_upd hO4)⟩
      have S5 := S4.updO (ws := vs ++ zs) bs hO4 nOb
      have o5 : Off5 p l d e E H (upd H4 O (.lst (vs ++ zs))) := fun b o hb n1 n2 n3 n4 n5 => by
        rw [upd_ne (ne_of_none hb nO)]
        exact o4 _ _ (o1 _ _ hb n1 n2 n3 n4 n5) n1 n2 n3 n4 n5
      refine ⟨O, O4, vs, zs, rfl, rfl, hO4, hZ, by rw [sizeLine_eq]; omega, ?_⟩
      generalize upd H4 O (.lst (vs ++ zs)) = H5 at T5 S5 o5 ⊢
      obtain ⟨dx5, hrw5⟩ := S5.ob
      obtain ⟨vs5, hO5, hvs5⟩ := id T5
      have e5 := hvs5.1
      have l5 := outsT_len (L := L) (es := es) (f := 0) (g := f2)
      have hb5 := S5.sb _ _ hb
      rw [eei] at hb5
      refine ⟨_, rfl, .inl ⟨rfl, _, SqL.of hO5⟩, ?_⟩
      refine ⟨_, rfl, rw, dx5, _, rfl, hrw5, rf_no (by decide +kernel), _, rfl, Hb, rw, p, c, g, l, d, e, E, b, L, m, es, f2, i, rfl, B, S5, hie, hb5, st4, up4, fun H6 O6 f3 h3 h4' S6 o6 nO6 T6 st6 up6 => ?_⟩
      have hO6 := o6 _ _ hO5 bs.n1 bs.n2 bs.n3 bs.n4 bs.n5
      obtain ⟨zs6, hZ6, hzs6⟩ := id T6
      have e6 := hzs6.1
      have l6 := outsT_len (L := L) (es := es) (f := f2) (g := f3)
      have tk6 := S5.tk o6
      have T7 : Trips (upd H6 O (.lst (vs5 ++ zs6))) O (outsT L es 0 f3) := by
        rw [← outsT_app (Nat.zero_le _) h3]
        exact ⟨_, upd_same, (AllV.app (hvs5.keep fun x v z => z.keep tk6) hzs6).keep fun x v z => z.keep (tk_upd hO6)⟩
      have S7 := S6.updO (ws := vs5 ++ zs6) bs hO6 nOb
      have o7 : Off5 p l d e E H (upd H6 O (.lst (vs5 ++ zs6))) := fun b o hb n1 n2 n3 n4 n5 => by
        rw [upd_ne (ne_of_none hb nO)]
        exact o6 _ _ (o5 _ _ hb n1 n2 n3 n4 n5) n1 n2 n3 n4 n5
      exact ⟨O, O6, vs5, zs6, rfl, rfl, hO6, hZ6, by rw [sizeLine_eq]; omega, f3, _, _, rfl, h4', S7, o7, T7, st6, fun j hj => val_mono B.val (by omega) hie, up6, .inr rfl⟩
    · obtain ⟨f', now, y3, rfl, hfi, S1, o1, T1, st1, hc1, up1, hn1⟩ := z
      rw [hlen] at hfi S1 st1 hc1 hn1
      exact ⟨_, rfl, q H1 O f' now hfi S1 o1 nO T1 st1 hc1 up1 hn1⟩
end
end K86

set_option Elab.async false
set_option linter.all false
set_option maxRecDepth 100000
set_option maxHeartbeats 8000000
namespace K86
open PySem PySem.Spec PyProof.Rows L2 Gd Rm La Cb Pl
section
variable {P : Program} {w : World} {K : PySem.W.Frag} {mg : Str → Option Value} {base : Heap}
def spRunOut (C C1 : Addr) : Sp := fun vs H Q _ => ∃ (Hb : Hp) (rw p c g l d e E : Addr) (L : List (List Actn)) (m : Nat) (es : List Ev) (f : Nat) (now : Int), vs = [.ref rw] ∧ Pb Hb c g L m es ∧ RSt C C1 Hb H rw p c l d e E L es f es.length ∧ Still L es f es.length now ∧ (∀ i, i < es.length → (evAt es i).t ≤ now) ∧ (∀ i, i < f → dnT L es i ≤ now) ∧
  ∀ (H' : Hp) (O : Addr), RSt C C1 Hb H' rw p c l d e E L es es.length es.length → Off5 p l d e E H H' → H O = none → Trips H' O (outsT L es f es.length) → Q (.ref O) H'
theorem ok_run_out (bt : Bt mg) {C C1 : Addr} (rp : Rp K C1) (a : At K mg "run_out" s_run_out ["machine"]) (c_due : ClM P w K mg base 3 C1 "due" (spDue C C1)) (c_clock : ClM P w K mg base 5 C1 "clock" (spClock C C1)) : Cl P w K mg base 6 "run_out" (spRunOut C C1) := by
  have cl_Row := rp.cl
  refine clG a sc_run_out (fun vs H Q E h => ?_) (fun ff cdv A outer s H vs Q hg hr h => ?_)
  · obtain ⟨Hb, rw, p, c, g, l, d, e, E, L, m, es, f, now, rfl, _⟩ := h
    rfl
  · obtain ⟨Hb, rw, p, c, g, l, d, e, E, L, m, es, f, now, rfl, B, S, st, hc1, hup, q⟩ := h
    refine ⟨_, (pss_cons (ps_set (i := 1) sc_run_out.nd rfl (Or.inl rfl) (pe_lst pa_nil))
      (pss_cons (ps_set (i := 2) sc_run_out.nd rfl (Or.inl rfl) (pe_clM0 c_due cl_Row hg hr (by decide) (pv 0)))
      (pss_cons (ps_while PassesOwn.never (pt_cmpR op_notN (pv 2) pe_non (nomark _)) (pss_cons (ps_expr (pe_bm PySem.F.plainAttrs_list PySem.F.slot_list_extend PySem.F.type_list_extend mt_extend (pv 1) (pa_cons (pe_clM c_clock cl_Row hg hr (by decide) (pv 0) (pa_cons (pv 2) pa_nil)) pa_nil)))
      (pss_one (ps_set (i := 2) sc_run_out.nd rfl (Or.inl rfl) (pe_clM0 c_due cl_Row hg hr (by decide) (pv 0))))))
      (pss_one (ps_ret (pv 1)))))), ?_⟩
    refine ⟨Nat.zero_le _, fun O nO => ?_⟩
    have kO := same_upd (o := .lst []) nO
    have h4 := B.len
    have S0 := S.same kO
    have bs := S.bes nO
    have nOb := hb_none S nO
    obtain ⟨dx0, hrw0⟩ := S0.ob
    refine ⟨_, rfl, rw, dx0, _, rfl, hrw0, rf_no (by decide +kernel), Hb, rw, p, c, g, l, d, e, E, L, m, es, f, es.length, now, rfl, B, S0, st, fun H1 s1 => ?_⟩
    refine ⟨fun n σ H' => ∃ (f' : Nat) (now' : Int), n = es.length - f' ∧ f ≤ f' ∧ σ = [some (.ref rw), some (.ref O), some (if f' = es.length then .non else .int ((evAt es f').t + timeOf (xAt L es f')))] ∧ RSt C C1 Hb H' rw p c l d e E L es f' es.length ∧ Off5 p l d e E H H' ∧ Trips H' O (outsT L es f f') ∧ Still L es f' es.length now' ∧ (∀ i, i < es.length → (evAt es i).t ≤ now') ∧ (∀ i, i < f' → dnT L es i ≤ now'),
      ⟨_, f, now, rfl, Nat.le_refl _, rfl, S0.same s1, Off5.of (kO.trans s1), ⟨[], s1 _ _ upd_same, by rw [outsT_nil]; exact AllV.nil⟩, st, hc1, hup⟩, fun n σ H2 z => ?_⟩
    obtain ⟨f', now', rfl, hff, rfl, S1, o1, T1, st1, hc1', up1⟩ := z
    have fk := S1.fk
    by_cases hf : f' = es.length
    · rw [if_pos hf]
      rw [hf] at T1 S1
      exact ⟨_, rfl, rfl, false, rfl, iteF ⟨_, rfl, q H2 O S1 o1 nO T1⟩⟩
    rw [if_neg hf]
    have hw : f' < es.length ∧ (evAt es f').d = true ∧ Waits L es f' es.length now' := by
      rcases st1 with h | h
      · exact absurd h hf
      · exact h
    obtain ⟨hfk, hd, hl, hwt, hnow⟩ := id hw
    refine ⟨_, rfl, rfl, true, rfl, iteT ⟨_, fun σ' H' z => z, ?_⟩⟩
    obtain ⟨dx, hrw⟩ := S1.ob
    obtain ⟨vs, hO, hvs⟩ := id T1
    refine ⟨_, rfl, .inl ⟨rfl, _, SqL.of hO⟩, ?_⟩
    refine ⟨_, rfl, rw, dx, _, rfl, hrw, rf_no (by decide +kernel), _, rfl, Hb, rw, p, c, g, l, d, e, E, L, m, es, f', es.length, now', _, rfl, B, S1, st1, by omega, hc1', fun i h1 h2 => by omega, up1, fun H4 O4 f2 h1 h2 S4 o4 nO4 T4 st4 up4 => ?_⟩
    have hO4 := o4 _ _ hO bs.n1 bs.n2 bs.n3 bs.n4 bs.n5
    obtain ⟨zs, hZ, hzs⟩ := id T4
    have e1 := hvs.1
    have e2 := hzs.1
    have l1 := outsT_len (L := L) (es := es) (f := f) (g := f')
    have l2 := outsT_len (L := L) (es := es) (f := f') (g := f2)
    have tk4 := S1.tk o4
    have T5 : Trips (upd H4 O (.lst (vs ++ zs))) O (outsT L es f f2) := by
      rw [← outsT_app hff h1]
      refine ⟨_, upd_same, (AllV.app (hvs.keep fun x v z => z.keep tk4) hzs).keep fun x v z => z.keep (tk_upd hO4)⟩
    have S5 := S4.updO (ws := vs ++ zs) bs hO4 nOb
    have o5 : Off5 p l d e E H (upd H4 O (.lst (vs ++ zs))) := fun b o hb n1 n2 n3 n4 n5 => by
      rw [upd_ne (ne_of_none hb nO)]
      exact o4 _ _ (o1 _ _ hb n1 n2 n3 n4 n5) n1 n2 n3 n4 n5
    refine ⟨O, O4, vs, zs, rfl, rfl, hO4, hZ, by rw [sizeLine_eq]; omega, ?_⟩
    generalize upd H4 O (.lst (vs ++ zs)) = H5 at T5 S5 o5 ⊢
    obtain ⟨dx5, hrw5⟩ := S5.ob
    have prog : f' < f2 := by
      rcases Nat.lt_or_ge f' f2 with y | y
      · exact y
      · have e : f2 = f' := by omega
        subst e
        rcases st4 with h | ⟨_, _, _, _, h⟩
        · exact absurd h hf
        · omega
    refine ⟨_, rfl, rw, dx5, _, rfl, hrw5, rf_no (by decide +kernel), Hb, rw, p, c, g, l, d, e, E, L, m, es, f2, es.length, _, rfl, B, S5, st4, fun H6 s6 => ⟨es.length - f2, by omega, f2, _, rfl, by omega, rfl, S5.same s6, o5.trans (Off5.of s6), T5.same s6, st4, fun i hi => by have := hc1' i hi; omega, up4⟩⟩
def spOutputs : Sp := fun vs H Q _ => ∃ (c g : Addr) (L : List (List Actn)) (m : Nat) (es : List Ev), vs = [.ref c, .ref g] ∧ Lay H c L ∧ LayOk L m ∧ Lst evV H g es ∧ Valid es ∧ es.length ≤ 400 ∧ (∀ e ∈ es, e.k < (m : Int)) ∧
  ∀ (H' : Hp) (D : Addr), Same H H' → H D = none → Trips H' D (outsT L es 0 es.length) → Q (.ref D) H'
theorem ok_outputs (bt : Bt mg) {C C1 : Addr} (cp : Cp K C) (rp : Rp K C1) (a : At K mg "outputs" s_outputs ["layout", "record"]) (c_check_playable : Cl P w K mg base 8 "check_playable" spPlayable) (c_Row : ClI P w K mg base 3 C1 "Row" (spRInit C C1)) (c_come_all : Cl P w K mg base 6 "come_all" (spComeAll C C1)) (c_run_out : Cl P w K mg base 6 "run_out" (spRunOut C C1)) : Cl P w K mg base 9 "outputs" spOutputs := by
  have cl_Row := rp.cl
  refine clG a sc_outputs (fun vs H Q E h => ?_) (fun ff cdv A outer s H vs Q hg hr h => ?_)
  · obtain ⟨c, g, L, m, es, rfl, _⟩ := h
    rfl
  · obtain ⟨c, g, L, m, es, rfl, hL, hO, hG, hV, h4, hkm, q⟩ := h
    refine ⟨_, (pss_cons (ps_expr (pe_cl c_check_playable hg hr (by decide) (by rfl) (pa_cons (pv 0) (pa_cons (pv 1) pa_nil))))
      (pss_cons (ps_set (i := 2) sc_outputs.nd rfl (Or.inl rfl) (pe_clI c_Row hg hr (by decide) (by rfl) (pa_cons (pv 0) pa_nil)))
      (pss_one (ps_ret (pe_op op_cat (pe_cl c_come_all hg hr (by decide) (by rfl) (pa_cons (pv 2) (pa_cons (pv 1) pa_nil))) (pe_cl c_run_out hg hr (by decide) (by rfl) (pa_cons (pv 2) pa_nil))))))), ?_⟩
    refine ⟨_, rfl, _, rfl, c, g, L, m, es, rfl, hL, hO, hG, hV, h4, hkm, fun H2 s2 => ?_⟩
    obtain ⟨as, hg2, hT2⟩ := hG.same s2
    have B : Pb H2 c g L m es := ⟨hL.same s2, hO, hG.same s2, hV, h4, hkm⟩
    obtain ⟨rs, hc, hR⟩ := B.lay
    have n6 := hO.n6
    have hrl : (rs.map V.ref).length = L.length := by rw [List.length_map]; exact hR.1
    refine ⟨_, rfl, fun rw_ dx nrw ndx hdx => ?_⟩
    have crw : c ≠ rw_ := ne_of_none hc nrw
    have cdx : c ≠ dx := ne_of_none hc ndx
    have s0 : Same H2 (upd (upd H2 dx (.own rw_)) rw_ (.ins C1 dx [])) := (same_upd ndx).trans (same_upd (by rw [upd_ne (Ne.symm hdx)]; exact nrw))
    refine ⟨rw_, dx, c, _, rfl, upd_same, by rw [upd_ne crw, upd_ne cdx]; exact hc, by omega, fun H3 p l d e E np nl nd ne nE El hP hE3 hr3 hoff => ⟨rfl, ?_⟩⟩
    rw [hrl] at hP
    have sb3 : Same H2 H3 := fun b o hb => hoff _ _ (s0 _ _ hb) (ne_of_none hb nrw)
    have rwp : rw_ ≠ p := fun z => by
      rw [← z, upd_same] at np
      cases np
    have S3 : RSt C C1 H2 H3 rw_ p c l d e E L es 0 0 := ⟨⟨dx, hr3⟩, hP, ⟨[], hE3, Tups.nil⟩, sb3, ⟨none_back s0 np, none_back s0 nl, none_back s0 nd, none_back s0 ne, none_back s0 nE⟩, El, rwp, Nat.le_refl _, Nat.zero_le _⟩
    refine ⟨_, rfl, _, rfl, H2, rw_, p, c, g, l, d, e, E, g, L, m, es, es.length, as, rfl, B, S3, Nat.le_refl _, hg2, by rw [List.take_length]; exact hT2, fun H5 O5 f5 now hf5 S5 o5 nO5 T5 st5 hc5 up5 hn5 => ?_⟩
    refine ⟨_, rfl, H2, rw_, p, c, g, l, d, e, E, L, m, es, f5, now, rfl, B, S5, st5, hc5, up5, fun H6 O6 S6 o6 nO6 T6 => ?_⟩
    have bs := S3.bes nO5
    obtain ⟨us, hU, hus⟩ := id T5
    obtain ⟨ws, hW, hws⟩ := id T6
    have hU6 := o6 _ _ hU bs.n1 bs.n2 bs.n3 bs.n4 bs.n5
    have tk6 := S5.tk o6
    have e1 := hus.1
    have e2 := hws.1
    have l1 := outsT_len (L := L) (es := es) (f := 0) (g := f5)
    have l2 := outsT_len (L := L) (es := es) (f := f5) (g := es.length)
    refine ⟨O5, O6, us, ws, rfl, rfl, hU6, hW, by rw [sizeLine_eq]; omega, fun D nD => ?_⟩
    have kD := same_upd (o := .lst (us ++ ws)) nD
    have st := s2.trans S6.sb
    refine q _ D (st.trans kD) (none_back st nD) ?_
    rw [← outsT_app (Nat.zero_le _) hf5]
    exact ⟨_, upd_same, (AllV.app (hus.keep fun x v z => z.keep tk6) hws).keep fun x v z => z.keep (Tk.of kD)⟩
end
/-! ### the displays of outputs with ticks -/
def tripD (x : Int × Outp) : PyData := .tuple (.int x.1 :: match x.2 with
  | .no => []
  | .pr c => [.str "press", .str c]
  | .re c => [.str "release", .str c])
theorem TripV.dp {K : PySem.W.Frag} {H : Hp} {x : Int × Outp} {v : V} (h : TripV H x v) : Dp K H v (tripD x) := by
  obtain ⟨T, rfl, hT⟩ := h
  obtain ⟨t, o⟩ := x
  cases o with
  | no => exact .tup (SqT.of hT) (.cons (.int _) .nil)
  | pr c => exact .tup (SqT.of hT) (.cons (.int _) (.cons (.str _) (.cons (.str _) .nil)))
  | re c => exact .tup (SqT.of hT) (.cons (.int _) (.cons (.str _) (.cons (.str _) .nil)))
theorem trip_eq (x : Int × Outp) : PyData.eqv (tripD x) (tripD x) = true := by
  obtain ⟨t, o⟩ := x
  cases o <;> simp [tripD, PyData.eqv, PyData.eqvAll]
theorem trips_eq : ∀ xs : List (Int × Outp), PyData.eqvAll (xs.map tripD) (xs.map tripD) = true
  | [] => rfl
  | x :: xs => by
    show (PyData.eqv (tripD x) (tripD x) && PyData.eqvAll (xs.map tripD) (xs.map tripD)) = true
    rw [trip_eq, trips_eq xs]; rfl
theorem tripsL_eq (xs : List (Int × Outp)) : PyData.eqv (.list (xs.map tripD)) (.list (xs.map tripD)) = true := trips_eq xs
theorem trips_lay : ∀ {xs : List (Int × Outp)}, (∀ x ∈ xs, OutOk x.2) → PyData.canLayAll0 (xs.map tripD) = true ∧ PyData.depthAll (xs.map tripD) ≤ 1
  | [], _ => ⟨rfl, Nat.zero_le _⟩
  | x :: xs, h => by
    obtain ⟨a, b⟩ := trips_lay (xs := xs) fun y hy => h y (List.mem_cons_of_mem _ hy)
    have hx := h x (List.mem_cons_self ..)
    obtain ⟨t, o⟩ := x
    have h1 : PyData.canLay0 (tripD (t, o)) = true := by
      cases o with
      | no => rfl
      | pr c => simp [tripD, PyData.canLay0, PyData.canLayAll0, (by decide +kernel : PyData.strOk "press" = true), strOk_code hx]
      | re c => simp [tripD, PyData.canLay0, PyData.canLayAll0, (by decide +kernel : PyData.strOk "release" = true), strOk_code hx]
    have h2 : PyData.depth (tripD (t, o)) ≤ 1 := by cases o <;> exact Nat.le_refl _
    refine ⟨?_, ?_⟩
    · show (PyData.canLay0 (tripD (t, o)) && PyData.canLayAll0 (xs.map tripD)) = true
      rw [h1, a]; rfl
    · show max (PyData.depth (tripD (t, o))) (PyData.depthAll (xs.map tripD)) ≤ 1
      omega
theorem trips_shaped {xs : List (Int × Outp)} (h : ∀ x ∈ xs, OutOk x.2) : SeqAt.shaped (.list (xs.map tripD)) = true := by
  obtain ⟨a, b⟩ := trips_lay h
  show (PyData.canLayAll0 (xs.map tripD) && decide (PyData.depthAll (xs.map tripD) + 1 ≤ 64)) = true
  rw [a, decide_eq_true (by omega)]
  rfl
theorem Trips.dp {K : PySem.W.Frag} {H : Hp} {D : Addr} {xs : List (Int × Outp)} (h : Trips H D xs) : Dp K H (.ref D) (.list (xs.map tripD)) := by
  obtain ⟨vs, a, b⟩ := h
  exact .lst (SqL.of a) (b.dp fun x v z => z.dp)
theorem outsT_ok {L : List (List Actn)} {es : List Ev} {m : Nat} (hO : LayOk L m) (hV : Valid es) (hk : ∀ e ∈ es, e.k < (m : Int)) {f g : Nat} (hg : g ≤ es.length) : ∀ x ∈ outsT L es f g, OutOk x.2 := fun x hx => by
  unfold outsT at hx
  obtain ⟨i, hi, rfl⟩ := List.mem_map.mp hx
  have hi := (List.mem_filter.mp hi).1
  obtain ⟨j, hj, rfl⟩ := List.mem_range'.mp hi
  exact outM_ok hO hV hk (by omega)
end K86

set_option Elab.async false
set_option linter.all false
set_option maxRecDepth 100000
set_option maxHeartbeats 8000000
namespace K86
open PySem PySem.Spec PyProof.Rows L2 Gd Rm La Cb Pl
section
variable {P : Program} {w : World} {K : PySem.W.Frag} {mg : Str → Option Value} {base : Heap}
def onLs (s : Sm) (n : Nat) : List Int := ((List.range n).filter (onL s)).map fun i : Nat => (i : Int)
def spOnLs (C : Addr) : Sp := fun vs H Q _ => ∃ (p c l d e : Addr) (n : Nat) (s : Sm) (m : Int) (xs : List V), vs = [.ref p] ∧ PAt C H p c l d e n s ∧ H c = some (.lst xs) ∧ xs.length = s.lk.length ∧ xs.length ≤ 6 ∧ BdsOk m s.bd ∧ s.bd.length ≤ 1000 ∧
  ∀ (H' : Hp) (D : Addr), Same H H' → H D = none → H' D = some (.lst ((onLs s s.lk.length).map V.int)) → Q (.ref D) H'
theorem ok_on_layers (bt : Bt mg) {C : Addr} (cp : Cp K C) (a : AtM K C "on_layers" "Player.on_layers" s_on_layers ["self"]) (c_is_on : ClM P w K mg base 1 C "is_on" (spOn C)) : ClM P w K mg base 2 C "on_layers" (spOnLs C) := by
  have cl_Player := cp.cl
  refine clMG a sc_on_layers (fun vs H Q E h => ?_) (fun f cdv A outer s H vs Q hg hr h => ?_)
  · obtain ⟨p, c, l, d, e, n, s, m, xs, rfl, _⟩ := h
    rfl
  · obtain ⟨p, c, l, d, e, n, s, m, xs, rfl, hP, hc, hxl, hx6, hB, hbl, q⟩ := h
    refine ⟨_, (pss_one (ps_ret (pe_lc (own := [("layer", 1)]) (g := (gName 1)) (by rfl) sc_on_layers.nd (pi_range1 (by rfl) bt.m_range (pa_cons (pe_callB call_len_seq (by rfl) bt.m_len (by decide +kernel) (pa_cons (pe_fld (pv 0) rfl) pa_nil)) pa_nil)) (blkOk_by (N := n_on_layers) (sc := defScope s_on_layers) (by decide +kernel)) (fun _ _ _ _ _ => (pg_name (i := 1) sc_on_layers.nd rfl (Or.inl rfl))) (fun _ _ _ _ _ => (pts_one (pt_val (pe_clM c_is_on cl_Player hg hr (by decide) (pv 0) (pa_cons (pv 1) pa_nil))))) (fun _ _ _ _ _ => (pv 1))))), ?_⟩
    obtain ⟨dx, hp⟩ := hP.ob
    refine ⟨_, rfl, p, C, dx, _, _, rfl, hp, cp.cl, cp.n1, f_lay, c, xs, rfl, .inl (SqL.of hc), xs.length, rfl, by omega, by omega, fun M nM => lc_it walk_range (fun j H' => Same H H' ∧ H' M = some (.lst ((onLs s j).map V.int))) ⟨same_upd nM, upd_same⟩ (fun _ _ _ _ => True.intro) (fun j x Hx Hy hj z y => ?_) (fun H2 z => ?_)⟩
    · obtain ⟨sx, hM⟩ := z
      obtain ⟨rfl, ex⟩ := y
      have ex : x = .int (j : Nat) := ex.trans (congrArg V.int (Int.zero_add _))
      subst ex
      have hj' : j < s.lk.length := by omega
      have okl : (onLs s j).length ≤ 6 := by
        unfold onLs
        rw [List.length_map]
        exact Nat.le_trans (List.length_filter_le ..) (by rw [List.length_range]; omega)
      refine ⟨rfl, _, rfl, p, dx, _, rfl, sx _ _ hp, f_no (by decide +kernel), _, rfl, p, c, l, d, e, n, s, m, j, rfl, hP.same sx, hB, hj', hbl, fun H3 s3 => ⟨_, rfl, ?_⟩⟩
      have hM3 := s3 _ _ hM
      have s4 := sx.trans s3
      have eo : onLs s (j + 1) = onLs s j ++ if onL s j = true then [(j : Int)] else [] := by
        unfold onLs
        rw [List.range_succ, List.filter_append, List.map_append]
        cases ho : onL s j with
        | true => rw [List.filter_cons_of_pos ho]; rfl
        | false => rw [List.filter_cons_of_neg (by rw [ho]; decide)]; rfl
      rw [eo]
      cases ho : onL s j with
      | true =>
        refine iteT ⟨_, rfl, _, hM3, small1000 (by rw [List.length_map]; omega), Same.off s4 nM off_upd, ?_⟩
        rw [upd_same, if_pos rfl, List.map_append]
        rfl
      | false =>
        refine iteF ⟨s4, ?_⟩
        rw [if_neg (by decide), List.append_nil]
        exact hM3
    · obtain ⟨sx, hM⟩ := z
      rw [Int.toNat_natCast, hxl] at hM
      exact q _ M sx nM hM
def spLayersOn (C : Addr) : Sp := fun vs H Q _ => ∃ (c g : Addr) (L : List (List Actn)) (m : Nat) (es : List Ev), vs = [.ref c, .ref g] ∧ Lay H c L ∧ LayOk L m ∧ Lst evV H g es ∧ Valid es ∧ es.length ≤ 400 ∧ (∀ e ∈ es, e.k < (m : Int)) ∧
  ∀ (H' : Hp) (D : Addr), Same H H' → H D = none → H' D = some (.lst ((onLs (runS L es es.length) L.length).map V.int)) → Q (.ref D) H'
theorem ok_layers_on (bt : Bt mg) {C : Addr} (cp : Cp K C) (a : At K mg "layers_on" s_layers_on ["layout", "record"]) (c_check_playable : Cl P w K mg base 8 "check_playable" spPlayable) (c_play : Cl P w K mg base 3 "play" (spPlay C)) (c_on_layers : ClM P w K mg base 2 C "on_layers" (spOnLs C)) : Cl P w K mg base 9 "layers_on" (spLayersOn C) := by
  have cl_Player := cp.cl
  refine clG a sc_layers_on (fun vs H Q E h => ?_) (fun f cdv A outer s H vs Q hg hr h => ?_)
  · obtain ⟨c, g, L, m, es, rfl, _⟩ := h
    rfl
  · obtain ⟨c, g, L, m, es, rfl, hL, hO, hG, hV, h4, hkm, q⟩ := h
    refine ⟨_, (pss_cons (ps_expr (pe_cl c_check_playable hg hr (by decide) (by rfl) (pa_cons (pv 0) (pa_cons (pv 1) pa_nil))))
      (pss_cons (ps_asg (pe_cl c_play hg hr (by decide) (by rfl) (pa_cons (pv 0) (pa_cons (pv 1) pa_nil))) (pg_tup rfl (pgs_cons (pg_name (i := 2) sc_layers_on.nd rfl (Or.inl rfl)) (pgs_cons (pg_name (i := 3) sc_layers_on.nd rfl (Or.inl rfl)) pgs_nil))))
      (pss_one (ps_ret (pe_clM0 c_on_layers cl_Player hg hr (by decide) (pv 2)))))), ?_⟩
    refine ⟨_, rfl, _, rfl, c, g, L, m, es, rfl, hL, hO, hG, hV, h4, hkm, fun H1 s1 => ?_⟩
    refine ⟨_, rfl, _, rfl, c, g, L, m, es, rfl, hL.same s1, hO, hG.same s1, hV, h4, hkm, fun H2 T p l d e W s2 hT hP hW => ?_⟩
    have s12 := s1.trans s2
    obtain ⟨rs, hc, hR⟩ := hL.same s12
    obtain ⟨dx, hp⟩ := hP.ob
    have hS := runS_ok hO hV hkm es.length (Nat.le_refl _)
    have n6 := hO.n6
    have hrl : (rs.map V.ref).length = L.length := by rw [List.length_map]; exact hR.1
    refine ⟨T, _, rfl, SqT.of hT, rfl, _, _, rfl, _, _, rfl, rfl, ?_⟩
    refine ⟨_, rfl, p, dx, _, rfl, hp, f_no (by decide +kernel), p, c, l, d, e, es.length, runS L es es.length, L.length, rs.map V.ref, rfl, hP, hc, by rw [hS.lk]; exact hrl, by omega, hS.bds, by have := hS.len; omega, fun H3 D s3 nD hD => ?_⟩
    rw [hS.lk] at hD
    exact q _ D (s12.trans s3) (none_back s12 nD) hD
end
end K86

set_option Elab.async false
set_option linter.all false
set_option maxRecDepth 100000
set_option maxHeartbeats 8000000
namespace K86
open PySem PySem.Spec PyProof.Rows L2 Gd Rm La Cb Pl
section
variable {P : Program} {w : World} {K : PySem.W.Frag} {mg : Str → Option Value} {base : Heap}
/-! ### the program's small tests -/
def spBelowN : Sp := fun vs H Q _ => ∃ k : Int, vs = [.int k, .non] ∧ Q (.bl true) H
theorem ok_is_belowN (a : At K mg "is_below" s_is_below ["key", "many"]) : Cl P w K mg base 1 "is_below" spBelowN := by
  refine clG a sc_is_below (fun vs H Q E h => ?_) (fun f cdv A outer s H vs Q hg hr h => ?_)
  · obtain ⟨k, rfl, _⟩ := h
    rfl
  · obtain ⟨k, rfl, q⟩ := h
    refine ⟨_, (pss_one (ps_ret (pe_or (pe_cmpR op_isN (pv 1) pe_non (nomark _)) (pe_one (pe_cmpR op_lt (pv 0) (pv 1) (nomark _)))))), ?_⟩
    exact ⟨_, rfl, rfl, _, rfl, iteT q⟩
def spCheckN : Sp := fun vs H Q _ => ∃ (c : Addr) (es : List Ev), vs = [.ref c, .non] ∧ Lst evV H c es ∧ Valid es ∧ es.length ≤ 400 ∧ ∀ H', Same H H' → Q .non H'
theorem ok_check_recordN (bt : Bt mg) (a : AtX K mg "check_record" s_check_record ["value", "many"] [.none]) (c_is_short_list : Cl P w K mg base 1 "is_short_list" spShort) (c_is_event : Cl P w K mg base 3 "is_event" spEvent) (c_can_follow : Cl P w K mg base 2 "can_follow" spFollow) (c_is_below : Cl P w K mg base 1 "is_below" spBelowN) :
    ClD P w K mg base 4 "check_record" spCheckN [.non] := by
  refine clXD a (.cons rfl .nil) sc_check_record (fun vs H Q E h => ?_) (fun f cdv A outer s H vs Q hg hr h => ?_)
  · obtain ⟨a, e, rfl, _⟩ := h
    rfl
  · obtain ⟨c, es, rfl, hL, hV, hl, q⟩ := h
    refine ⟨_, (pss_cons (ps_if (pt_not (pt_val (pe_cl c_is_short_list hg hr (by decide) (by rfl) (pa_cons (pv 0) pa_nil)))) pss_never pss_nil)
      (pss_cons (ps_set (i := 2) sc_check_record.nd rfl (Or.inl rfl) pe_dnewK)
      (pss_one (ps_for PassesOwn.never rfl (pi_enum (by rfl) bt.m_enumerate (pa_cons (pv 0) pa_nil)) (pg_tup rfl (pgs_cons (pg_name (i := 3) sc_check_record.nd rfl (Or.inl rfl)) (pgs_cons (pg_name (i := 4) sc_check_record.nd rfl (Or.inl rfl)) pgs_nil))) (pss_cons (ps_if (PW.pt (pw_or (pt_not (pt_val (pe_cl c_is_event hg hr (by decide) (by rfl) (pa_cons (pv 4) pa_nil)))) (pw_or1 (pt_not (pt_truth (pe_cl c_is_below hg hr (by decide) (by rfl) (pa_cons (pe_ix ix_tup (pv 4) pe_int (fun _ _ => rfl)) (pa_cons (pv 1) pa_nil))) (by intro _; rfl)))))) pss_never pss_nil)
      (pss_one (ps_if (pt_not (pt_val (pe_cl c_can_follow hg hr (by decide) (by rfl) (pa_cons (pv 4) (pa_cons (pe_ifExp (pt_cmpR op_gt (pv 3) pe_int (nomark _)) (pe_ix ix_list (pv 0) (pe_op op_sub (pv 3) pe_int) (fun _ _ => rfl)) pe_non) (pa_cons (pv 2) pa_nil)))))) pss_never pss_nil))))))), ?_⟩
    obtain ⟨as, hc, hT⟩ := hL
    have hlen : (as.map V.ref).length = es.length := by rw [List.length_map]; exact hT.1
    refine ⟨_, rfl, c, _, rfl, hc, by omega, _, rfl, iteF ?_⟩
    intro d nd
    refine ⟨_, rfl, c, _, rfl, SqL.of ((same_upd nd) _ _ hc), for_it (walk_enum (xs := as.map V.ref))
      (fun i σ H' => Same H H' ∧ ∃ kvs y2 y3, σ = [some (.ref c), some .non, some (.ref d), y2, y3] ∧ H' d = some (.dK kvs) ∧ kvs.length ≤ i ∧ HeldK kvs (heldB (es.take i)))
      ⟨same_upd nd, _, _, _, rfl, upd_same, Nat.le_refl _, HeldK.nil⟩ (fun _ _ H' _ p => SqL.of (p.1 _ _ hc)) (fun i x σ H1 H2 hi p y => ?_) (fun σ H1 p => ?_)⟩
    · obtain ⟨s1, kvs, y2, y3, rfl, hd, hkl, hk⟩ := p
      obtain ⟨T, u, v, rfl, nT, rfl, e1, e2⟩ := y
      have hi' : i < es.length := by omega
      obtain ⟨b, hb, hbt⟩ := hT.at_ hi'
      have he : es[i]? = some es[i] := List.getElem?_eq_getElem hi'
      obtain ⟨v1, v2, v3⟩ := hV i _ he
      have e2' : v = .ref b := by
        have e2 : (as.map V.ref)[i]? = some v := e2
        rw [List.getElem?_map, hb] at e2
        exact (Option.some.inj e2).symm
      subst e2'
      have e1' : u = .int (i : Nat) := (Option.some.inj e1).symm
      subst e1'
      have s2 : Same H (upd H1 T (.tup [.int (i : Nat), .ref b])) := s1.trans (same_upd nT)
      have hb2 := s2 _ _ hbt
      refine ⟨T, _, rfl, SqT.of upd_same, rfl, _, _, rfl, _, _, rfl, rfl, ?_⟩
      refine ⟨_, rfl, b, _, rfl, hb2, v1, fun H3 s3 => ?_⟩
      have s4 := s2.trans s3
      have hb4 := s4 _ _ hbt
      refine ⟨_, rfl, iteF ?_⟩
      refine ⟨_, rfl, b, _, _, _, rfl, rfl, SqT.of hb4, atI_nat (j := 1) rfl, _, rfl, es[i].k, rfl, _, rfl, iteF ?_⟩
      have hd4 : H3 d = some (.dK kvs) := s3 _ _ ((same_upd nT) _ _ hd)
      have fin : Same H (upd H3 d (.dK (putK kvs (Sum.inl es[i].k) (.bl es[i].d)))) ∧ ∃ kvs' y2 y3, [some (V.ref c), some V.non, some (V.ref d), some (V.int (i : Nat)), some (V.ref b)] = [some (V.ref c), some V.non, some (V.ref d), y2, y3] ∧
          upd H3 d (.dK (putK kvs (Sum.inl es[i].k) (.bl es[i].d))) d = some (.dK kvs') ∧ kvs'.length ≤ i + 1 ∧ HeldK kvs' (heldB (es.take (i + 1))) := by
        refine ⟨Same.off s4 nd off_upd, _, _, _, rfl, upd_same, ?_, ?_⟩
        · have := put_len kvs (Sum.inl es[i].k) (.bl es[i].d); omega
        · rw [List.take_add_one, he]
          exact hk.put
      have hv : (valV kvs (Sum.inl es[i].k)).getD (.bl false) = .bl (!es[i].d) := by rw [hk.at_, v2]
      have hz : kvs.length < sizeLine := small1000 (by omega)
      refine ⟨_, rfl, _, rfl, _, _, rfl, rfl, _, rfl, ite2 (fun e => ?_) (fun e => ?_)⟩
      · have e0 : (0 : Int) < (i : Nat) := of_decide_eq_true e
        obtain ⟨b', hb', hbt'⟩ := hT.at_ (i := i - 1) (by omega)
        have hle := v3 (i - 1) _ (by omega) (List.getElem?_eq_getElem (by omega))
        have g : (as.map V.ref)[i - 1]? = some (.ref b') := by rw [List.getElem?_map, hb']; rfl
        refine ⟨_, rfl, _, rfl, _, _, rfl, rfl, c, _, _, .ref b', rfl, rfl, SqL.of (s4 _ _ hc), at_of (j := i - 1) (by omega) g, _, rfl, ?_⟩
        exact ⟨b, d, es[i], .ref b', kvs, rfl, hb4, .inr ⟨b', _, rfl, s4 _ _ hbt', hle⟩, hd4, hz, hv, _, rfl, iteF fin⟩
      · exact ⟨_, rfl, b, d, es[i], .non, kvs, rfl, hb4, .inl rfl, hd4, hz, hv, _, rfl, iteF fin⟩
    · exact q _ p.1
end
end K86

set_option Elab.async false
set_option linter.all false
set_option maxRecDepth 100000
set_option maxHeartbeats 8000000
namespace K86
open PySem PySem.Spec PyProof.Rows L2 Gd Rm La Cb Pl
/-- a new list of new tuples, one more -/
structure Grown {α : Type} (f : α → List V) (H0 : Hp) (L : Addr) (es : List α) (H : Hp) : Prop where
  same : Same H0 H
  ls : Lst f H L es
theorem Grown.start {α : Type} {f : α → List V} {H0 : Hp} {L : Addr} (n : H0 L = none) : Grown f H0 L [] (upd H0 L (.lst [])) := ⟨same_upd n, [], upd_same, Tups.nil⟩
theorem Grown.more {α : Type} {f : α → List V} {H0 H : Hp} {L p : Addr} {es : List α} {e : α} (g : Grown f H0 L es H) (n : H0 L = none) (np : H p = none) :
    ∃ acc : List V, upd H p (.tup (f e)) L = some (.lst acc) ∧ acc.length = es.length ∧ Grown f H0 L (es ++ [e]) (upd (upd H p (.tup (f e))) L (.lst (acc ++ [.ref p]))) := by
  obtain ⟨s, as, h, t⟩ := g
  have pl : L ≠ p := ne_of_none h np
  have h1 : upd H p (.tup (f e)) L = some (.lst (as.map V.ref)) := (same_upd np) _ _ h
  refine ⟨as.map V.ref, h1, by rw [List.length_map]; exact t.1, Same.off (s.trans (same_upd np)) n off_upd, as ++ [p], ?_, ?_⟩
  · rw [upd_same, List.map_append]; rfl
  · refine Tups.snoc ((t.same (same_upd np)).off h1 off_upd) ?_
    rw [upd_ne pl.symm]
    exact upd_same
section
variable {P : Program} {w : World} {K : PySem.W.Frag} {mg : Str → Option Value} {base : Heap}
def spCheckO : Sp := fun vs H Q _ => ∃ (c : Addr) (es : List Ev), vs = [.ref c, .non] ∧ Lst stV H c es ∧ ValidO es ∧ es.length ≤ 400 ∧ ∀ H', Same H H' → Q .non H'
theorem ok_check_order (bt : Bt mg) (a : AtX K mg "check_order" s_check_order ["value", "many"] [.none]) (c_is_short_list : Cl P w K mg base 1 "is_short_list" spShort) (c_is_step : Cl P w K mg base 2 "is_step" spStep) (c_takes_turn : Cl P w K mg base 1 "takes_turn" spTurn) (c_is_below : Cl P w K mg base 1 "is_below" spBelowN) :
    ClD P w K mg base 3 "check_order" spCheckO [.non] := by
  refine clXD a (.cons rfl .nil) sc_check_order (fun vs H Q E h => ?_) (fun f cdv A outer s H vs Q hg hr h => ?_)
  · obtain ⟨a, e, rfl, _⟩ := h
    rfl
  · obtain ⟨c, es, rfl, hL, hV, hl, q⟩ := h
    refine ⟨_, (pss_cons (ps_if (pt_not (pt_val (pe_cl c_is_short_list hg hr (by decide) (by rfl) (pa_cons (pv 0) pa_nil)))) pss_never pss_nil)
      (pss_cons (ps_set (i := 2) sc_check_order.nd rfl (Or.inl rfl) pe_dnewK)
      (pss_one (ps_for PassesOwn.never rfl (pi_enum (by rfl) bt.m_enumerate (pa_cons (pv 0) pa_nil)) (pg_tup rfl (pgs_cons (pg_name (i := 3) sc_check_order.nd rfl (Or.inl rfl)) (pgs_cons (pg_name (i := 4) sc_check_order.nd rfl (Or.inl rfl)) pgs_nil))) (pss_cons (ps_if (PW.pt (pw_or (pt_not (pt_val (pe_cl c_is_step hg hr (by decide) (by rfl) (pa_cons (pv 4) pa_nil)))) (pw_or1 (pt_not (pt_truth (pe_cl c_is_below hg hr (by decide) (by rfl) (pa_cons (pe_ix ix_tup (pv 4) pe_int (fun _ _ => rfl)) (pa_cons (pv 1) pa_nil))) (by intro _; rfl)))))) pss_never pss_nil)
      (pss_one (ps_if (pt_not (pt_val (pe_cl c_takes_turn hg hr (by decide) (by rfl) (pa_cons (pv 2) (pa_cons (pe_ix ix_tup (pv 4) pe_int (fun _ _ => rfl)) (pa_cons (pe_ix ix_tup (pv 4) pe_int (fun _ _ => rfl)) pa_nil)))))) pss_never pss_nil))))))), ?_⟩
    obtain ⟨as, hc, hT⟩ := hL
    have hlen : (as.map V.ref).length = es.length := by rw [List.length_map]; exact hT.1
    refine ⟨_, rfl, c, _, rfl, hc, by omega, _, rfl, iteF ?_⟩
    intro d nd
    refine ⟨_, rfl, c, _, rfl, SqL.of ((same_upd nd) _ _ hc), for_it (walk_enum (xs := as.map V.ref))
      (fun i σ H' => Same H H' ∧ ∃ kvs y2 y3, σ = [some (.ref c), some .non, some (.ref d), y2, y3] ∧ H' d = some (.dK kvs) ∧ kvs.length ≤ i ∧ HeldK kvs (heldB (es.take i)))
      ⟨same_upd nd, _, _, _, rfl, upd_same, Nat.le_refl _, HeldK.nil⟩ (fun _ _ H' _ p => SqL.of (p.1 _ _ hc)) (fun i x σ H1 H2 hi p y => ?_) (fun σ H1 p => ?_)⟩
    · obtain ⟨s1, kvs, y2, y3, rfl, hd, hkl, hk⟩ := p
      obtain ⟨T, u, v, rfl, nT, rfl, e1, e2⟩ := y
      have hi' : i < es.length := by omega
      obtain ⟨b, hb, hbt⟩ := hT.at_ hi'
      have he : es[i]? = some es[i] := List.getElem?_eq_getElem hi'
      obtain ⟨v1, v2⟩ := hV i _ he
      have e2' : v = .ref b := Option.some.inj ((show (as.map V.ref)[i]? = some v from e2).symm.trans (get_map_ref hb))
      subst e2'
      have e1' : u = .int (i : Nat) := (Option.some.inj e1).symm
      subst e1'
      have s2 : Same H (upd H1 T (.tup [.int (i : Nat), .ref b])) := s1.trans (same_upd nT)
      have hb2 := s2 _ _ hbt
      refine ⟨T, _, rfl, SqT.of upd_same, rfl, _, _, rfl, _, _, rfl, rfl, ?_⟩
      refine ⟨_, rfl, b, _, rfl, hb2, v1, fun H3 s3 => ?_⟩
      have s4 := s2.trans s3
      have hb4 := s4 _ _ hbt
      have hd4 : H3 d = some (.dK kvs) := s3 _ _ ((same_upd nT) _ _ hd)
      have hv : (valV kvs (Sum.inl es[i].k)).getD (.bl false) = .bl (!es[i].d) := by rw [hk.at_, v2]
      have hz : kvs.length < sizeLine := small1000 (by omega)
      refine ⟨_, rfl, iteF ?_⟩
      refine ⟨_, rfl, b, _, _, _, rfl, rfl, SqT.of hb4, atI_nat (j := 0) rfl, _, rfl, es[i].k, rfl, _, rfl, iteF ?_⟩
      refine ⟨_, rfl, _, rfl, b, _, _, _, rfl, rfl, SqT.of hb4, atI_nat (j := 0) rfl, _, rfl, b, _, _, _, rfl, rfl, SqT.of hb4, atI_nat (j := 1) rfl, ?_⟩
      refine ⟨d, kvs, es[i].k, es[i].d, rfl, hd4, hz, hv, _, rfl, iteF ⟨Same.off s4 nd off_upd, _, _, _, rfl, upd_same, ?_, ?_⟩⟩
      · have := put_len kvs (Sum.inl es[i].k) (.bl es[i].d); omega
      · rw [List.take_add_one, he]
        exact hk.put
    · exact q _ p.1
def spHeld : Sp := fun vs H Q _ => ∃ (c : Addr) (es : List Ev), vs = [.ref c] ∧ Lst evV H c es ∧ es.length ≤ 1000 ∧
  ∀ (H' : Hp) (p : Addr) (ns : List Int), Same H H' → H p = none → H' p = some (.lst (ns.map V.int)) → ns.Pairwise (· ≤ ·) → ns.Nodup → (∀ k, k ∈ ns ↔ heldB es k = true) → ns.length ≤ es.length → Q (.ref p) H'
theorem ok_held_keys (bt : Bt mg) (a : At K mg "held_keys" s_held_keys ["record"]) : Cl P w K mg base 1 "held_keys" spHeld := by
  refine clG a sc_held_keys (fun vs H Q E h => ?_) (fun f cdv A outer s H vs Q hg hr h => ?_)
  · obtain ⟨a, e, rfl, _⟩ := h
    rfl
  · obtain ⟨c, es, rfl, hL, hl, q⟩ := h
    refine ⟨_, (pss_cons (ps_set (i := 1) sc_held_keys.nd rfl (Or.inr rfl) pe_dnewK)
      (pss_cons (ps_for PassesOwn.never rfl (pi_list (pv 0)) (pg_tup rfl (pgs_cons (pg_name (i := 2) sc_held_keys.nd rfl (Or.inl rfl)) (pgs_cons (pg_name (i := 3) sc_held_keys.nd rfl (Or.inl rfl)) (pgs_cons (pg_name (i := 4) sc_held_keys.nd rfl (Or.inl rfl)) pgs_nil)))) (pss_one (ps_dput (hu_of hr) (pv 1) (pv 3) (pe_cmpR op_eq (pv 4) pe_str (nomark _)) rfl)))
      (pss_one (ps_ret (pe_callB cr_sortedI (by rfl) bt.m_sorted (by decide +kernel) (pa_cons (pe_lock (pe_lc (own := [("key", 3)]) (g := (gName 3)) (by rfl) sc_held_keys.nd (pi_keys (pv 1)) (blkOk_by (N := n_held_keys) (sc := defScope s_held_keys) (by decide +kernel)) (fun _ _ _ _ _ => (pg_name (i := 3) sc_held_keys.nd rfl (Or.inl rfl))) (fun _ _ _ _ _ => (pts_one (pt_val (pe_dget (hu_of hr) (pv 1) (pv 3) (fun _ _ => rfl))))) (fun _ _ _ _ _ => (pv 3)))) pa_nil)))))), ?_⟩
    obtain ⟨as, hc, hT⟩ := hL
    have hlen : (as.map V.ref).length = es.length := by rw [List.length_map]; exact hT.1
    intro d nd
    refine ⟨_, rfl, c, rfl, ⟨_, SqL.of ((same_upd nd) _ _ hc)⟩, for_it (walk_list (xs := as.map V.ref))
      (fun i σ H' => Same H H' ∧ ∃ kvs y2 y3 y4, σ = [some (.ref c), some (.ref d), y2, y3, y4] ∧ H' d = some (.dK kvs) ∧ kvs.length ≤ i ∧ HeldK kvs (heldB (es.take i)))
      ⟨same_upd nd, _, _, _, _, rfl, upd_same, Nat.le_refl _, HeldK.nil⟩ (fun _ _ H' _ p => SqL.of (p.1 _ _ hc)) (fun i x σ H1 H2 hi p y => ?_) (fun σ H1 p => ?_)⟩
    · obtain ⟨s1, kvs, y2, y3, y4, rfl, hd, hkl, hk⟩ := p
      obtain ⟨rfl, e2⟩ := y
      have hi' : i < es.length := by omega
      obtain ⟨b, hb, hbt⟩ := hT.at_ hi'
      have he : es[i]? = some es[i] := List.getElem?_eq_getElem hi'
      have e2' : x = .ref b := Option.some.inj (e2.symm.trans (get_map_ref hb))
      subst e2'
      have hb1 := s1 _ _ hbt
      refine ⟨b, _, rfl, SqT.of hb1, rfl, _, _, rfl, _, _, rfl, _, _, rfl, rfl, ?_⟩
      refine ⟨_, rfl, rfl, ?_⟩
      rw [wayS_down]
      refine ⟨_, rfl, _, rfl, d, _, rfl, DPut.k (k := Sum.inl es[i].k) hd (small1000 (by omega)), Same.off s1 nd off_upd, _, _, _, _, rfl, upd_same, ?_, ?_⟩
      · have := put_len kvs (Sum.inl es[i].k) (.bl es[i].d); omega
      · rw [List.take_add_one, he]
        exact hk.put
    · obtain ⟨s1, kvs, y2, y3, y4, rfl, hd, hkl, hk⟩ := p
      rw [hlen] at hkl hk
      rw [List.take_length] at hk
      refine ⟨d, _, hd, True.intro, fun od => ?_⟩
      refine ⟨_, rfl, d, od, rfl, .inl ⟨kvs, upd_same, fun L nL => ?_⟩⟩
      have dL : d ≠ L := ne_of_none (upd_same (H := H1) (a := d) (o := .frz od (.dK kvs))) nL
      refine lc_it walk_keys (fun i H' => H' = upd (upd H1 d (.frz od (.dK kvs))) L (.lst ((downs (kvs.take i)).map V.int))) rfl (fun i H' _ p => by subst p; rw [upd_ne dL]; exact upd_same) (fun i x H2 H3 hi p y => ?_) (fun H2 p => ?_)
      · obtain ⟨rfl, k, v, hkv, rfl⟩ := y
        subst p
        obtain ⟨kk, b, hp⟩ := hk.fm _ (List.mem_of_getElem? hkv)
        obtain ⟨rfl, rfl⟩ := Prod.mk.inj hp
        have hv := val_at hk.nd hkv
        have ht := downs_take hkv
        have hfr : upd (upd H1 d (.frz od (.dK kvs))) L (.lst ((downs (kvs.take i)).map V.int)) d = some (.frz od (.dK kvs)) := by rw [upd_ne dL]; exact upd_same
        refine ⟨rfl, _, rfl, _, rfl, d, _, rfl, .inl ⟨kvs, Sum.inl kk, .inr ⟨od, hfr⟩, rfl, hv.symm⟩, b, rfl, ?_⟩
        cases b with
        | true =>
          refine iteT ⟨_, rfl, _, upd_same, ?_, ?_⟩
          · rw [List.length_map]
            have := downs_len (kvs.take i)
            rw [List.length_take] at this
            exact small1000 (by omega)
          · rw [upd_upd, ht]
            simp [kV]
        | false =>
          refine iteF ?_
          rw [ht]
          rfl
      · subst p
        rw [List.take_length]
        refine ⟨by rw [upd_ne dL]; exact upd_same, L, downs kvs, rfl, ?_, fun ns p hp ho np => ?_⟩
        · refine SqL.of ?_
          rw [upd_ne dL.symm]
          exact upd_same
        · have S : Same H (upd (upd (upd H1 d (.frz od (.dK kvs))) L (.lst ((downs kvs).map V.int))) d (.dK kvs)) :=
            Same.off s1 nd (Off.trans off_upd (Off.trans (Off.of (same_upd nL)) off_upd))
          have hn := downs_nd hk.fm hk.nd
          refine q _ p ns (S.trans (same_upd np)) (S.free np) upd_same ho (hp.nodup_iff.mpr hn) (fun k => ?_) ?_
          · rw [hp.mem_iff, hk.mem]
          · rw [hp.length_eq]
            have := downs_len kvs
            omega
def Rise (ts : List Int) : Prop := ∀ (i : Nat) (x y : Int), ts[i]? = some x → ts[i + 1]? = some y → x ≤ y
def spTicks : Sp := fun vs H Q _ => ∃ (c : Addr) (ts : List Int) (n : Nat), vs = [.ref c, .int (n : Int)] ∧ H c = some (.lst (ts.map V.int)) ∧ ts.length = n ∧ n ≤ 1000 ∧ Rise ts ∧ ∀ H', Same H H' → Q (.bl true) H'
theorem ok_are_ticks (bt : Bt mg) (a : At K mg "are_ticks" s_are_ticks ["value", "many"]) (c_is_an_integer : Cl P w K mg base 1 "is_an_integer" spInt) : Cl P w K mg base 2 "are_ticks" spTicks := by
  refine clG a sc_are_ticks (fun vs H Q E h => ?_) (fun f cdv A outer s H vs Q hg hr h => ?_)
  · obtain ⟨a, e, n, rfl, _⟩ := h
    rfl
  · obtain ⟨c, ts, n, rfl, hc, hn, hl, hR, q⟩ := h
    refine ⟨_, (pss_cons (ps_if (PW.pt (pw_or (pt_not (pt_val (pe_callB call_isi (by rfl) bt.m_isinstance (by decide +kernel) (pa_cons (pv 0) (pa_cons (pe_bltn (v := .ty "list") (by rfl) bt.m_list (by decide +kernel) rfl) pa_nil))))) (pw_or1 (pt_cmpR op_ne (pe_callB call_len_seq (by rfl) bt.m_len (by decide +kernel) (pa_cons (pv 0) pa_nil)) (pv 1) (nomark _))))) (pss_one (ps_ret pe_bl)) pss_nil)
      (pss_cons (ps_if (pt_not (pt_val (pe_callB (cr_all rfl) (by rfl) bt.m_all (by decide +kernel) (pa_cons (pe_lc (own := [("tick", 3)]) (g := (gName 3)) (by rfl) sc_are_ticks.nd (pi_list (pv 0)) (blkOk_by (N := n_are_ticks) (sc := defScope s_are_ticks) (by decide +kernel)) (fun _ _ _ _ _ => (pg_name (i := 3) sc_are_ticks.nd rfl (Or.inl rfl))) (fun _ _ _ _ _ => pts_nil) (fun _ _ _ _ _ => (pe_cl c_is_an_integer hg hr (by decide) (by rfl) (pa_cons (pv 3) pa_nil)))) pa_nil)))) (pss_one (ps_ret pe_bl)) pss_nil)
      (pss_one (ps_ret (pe_callB (cr_all rfl) (by rfl) bt.m_all (by decide +kernel) (pa_cons (pe_lc (own := [("at", 2)]) (g := (gName 2)) (by rfl) sc_are_ticks.nd (pi_range2 (by rfl) bt.m_range (pa_cons pe_int (pa_cons (pv 1) pa_nil))) (blkOk_by (N := n_are_ticks) (sc := defScope s_are_ticks) (by decide +kernel)) (fun _ _ _ _ _ => (pg_name (i := 2) sc_are_ticks.nd rfl (Or.inl rfl))) (fun _ _ _ _ _ => pts_nil) (fun _ _ _ _ _ => (pe_cmpR op_le (pe_ix (r := rIxL K) ix_list (pv 0) (pe_op op_sub (pv 2) pe_int) (fun _ _ => rfl)) (pe_ix (r := rIxL K) ix_list (pv 0) (pv 2) (fun _ _ => rfl)) (nomark _)))) pa_nil)))))), ?_⟩
    refine ⟨_, rfl, _, _, _, _, true, rfl, .ty "list", .base (.lst hc), kit_ty (by decide +kernel), _, rfl, ?_⟩
    have hlen : (ts.map V.int).length = n := by rw [List.length_map]; exact hn
    refine iteF ⟨_, rfl, c, _, rfl, .inl (SqL.of hc), _, rfl, rfl, _, rfl, iteNS (by rw [hlen]) ?_⟩
    refine ⟨_, rfl, c, rfl, ⟨_, SqL.of hc⟩, fun L nL => lc_it (walk_list (xs := ts.map V.int)) (fun i H' => H' = upd H L (.lst ((List.replicate i true).map V.bl))) rfl
      (fun i H' _ p => by subst p; exact SqL.of ((same_upd nL) _ _ hc)) (fun i x H2 H3 hi p y => ?_) (fun H2 p => ?_)⟩
    · obtain ⟨rfl, hx⟩ := y
      subst p
      have hi' : i < ts.length := by omega
      have ex : V.int ts[i] = x := Option.some.inj ((get_map_int (List.getElem?_eq_getElem hi')).symm.trans hx)
      subst ex
      refine ⟨rfl, ⟨_, rfl, _, rfl, _, upd_same, ?_, ?_⟩⟩
      · rw [List.length_map, List.length_replicate]; exact small1000 (by omega)
      · rw [upd_upd, List.replicate_succ', List.map_append]; rfl
    · subst p
      refine ⟨L, _, rfl, SqL.of upd_same, _, rfl, ?_⟩
      rw [allTrue]
      have hc1 : upd H L (.lst ((List.replicate (ts.map V.int).length true).map V.bl)) c = some (.lst (ts.map V.int)) := (same_upd nL) _ _ hc
      have s1 : Same H (upd H L (.lst ((List.replicate (ts.map V.int).length true).map V.bl))) := same_upd nL
      generalize upd H L (.lst ((List.replicate (ts.map V.int).length true).map V.bl)) = H1 at hc1 s1
      refine iteF ⟨_, rfl, 1, (n : Int), rfl, ⟨by omega, by omega, by omega, by omega⟩, fun M nM => lc_it walk_range (fun i H' => H' = upd H1 M (.lst ((List.replicate i true).map V.bl))) rfl (fun _ _ _ _ => True.intro) (fun i x H2 H3 hi p y => ?_) (fun H2 p => ?_)⟩
      · obtain ⟨rfl, rfl⟩ := y
        subst p
        have hc2 : upd H1 M (.lst ((List.replicate i true).map V.bl)) c = some (.lst (ts.map V.int)) := (same_upd nM) _ _ hc1
        have h1 : i < ts.length := by omega
        have h2 : i + 1 < ts.length := by omega
        have hle := hR i _ _ (List.getElem?_eq_getElem h1) (List.getElem?_eq_getElem h2)
        refine ⟨rfl, ⟨_, rfl, _, rfl, _, _, rfl, rfl, c, _, _, _, rfl, rfl, SqL.of hc2, at_of (j := i) (by omega) (get_map_int (List.getElem?_eq_getElem h1)), _, rfl, _, rfl, c, _, _, _, rfl, rfl, SqL.of hc2, at_of (j := i + 1) (by omega) (get_map_int (List.getElem?_eq_getElem h2)), _, _, rfl, rfl, _, upd_same, ?_, ?_⟩⟩
        · rw [List.length_map, List.length_replicate]; exact small1000 (by omega)
        · show upd (upd H1 M _) M (.lst (_ ++ [V.bl (decide (ts[i] ≤ ts[i + 1]))])) = _
          rw [decide_eq_true hle, upd_upd, List.replicate_succ', List.map_append]; rfl
      · subst p
        refine ⟨M, _, rfl, SqL.of upd_same, ?_⟩
        rw [allTrue]
        exact q _ (s1.trans (same_upd nM))
def lastT (es : List Ev) : Int := (es.getLast?.map (·.t)).getD 0
def upAt (t : Int) (k : Int) : Ev := ⟨t, k, false⟩
def spEnded : Sp := fun vs H Q _ => ∃ (c : Addr) (es : List Ev), vs = [.ref c] ∧ Lst evV H c es ∧ Valid es ∧ es.length ≤ 400 ∧
  ∀ (H' : Hp) (p : Addr) (ns : List Int), Same H H' → H p = none → Lst evV H' p (es ++ ns.map (upAt (lastT es + 1000000000))) → ns.Pairwise (· ≤ ·) → ns.Nodup → (∀ k, k ∈ ns ↔ heldB es k = true) → ns.length ≤ es.length → Q (.ref p) H'
theorem ok_ended (bt : Bt mg) {tk : Tok} (m_TICKS_BEHIND : mg "TICKS_BEHIND" = some (.int 1000000000 tk)) (a : At K mg "ended" s_ended ["record"]) (c_check_record : ClD P w K mg base 4 "check_record" spCheckN [.non]) (c_held_keys : Cl P w K mg base 1 "held_keys" spHeld) : Cl P w K mg base 5 "ended" spEnded := by
  refine clG a sc_ended (fun vs H Q E h => ?_) (fun f cdv A outer s H vs Q hg hr h => ?_)
  · obtain ⟨a, e, rfl, _⟩ := h
    rfl
  · obtain ⟨c, es, rfl, hL, hV, hl, q⟩ := h
    refine ⟨_, (pss_cons (ps_expr (pe_clD c_check_record hg hr (by decide) (by rfl) (pa_cons (pv 0) pa_nil)))
      (pss_cons (ps_set (i := 1) sc_ended.nd rfl (Or.inl rfl) (pe_cl c_held_keys hg hr (by decide) (by rfl) (pa_cons (pv 0) pa_nil)))
      (pss_cons (ps_if (pt_not (pt_truth (pv 1) (by intro _; rfl))) (pss_one (ps_ret (pe_callTy call_list_of (by rfl) bt.m_list (by decide +kernel) (pa_cons (pv 0) pa_nil)))) pss_nil)
      (pss_cons (ps_set (i := 2) sc_ended.nd rfl (Or.inr rfl) (pe_op op_add (pe_ix ix_tup (pe_ix ix_list (pv 0) (pe_un un_neg pe_int) (fun _ _ => rfl)) pe_int (fun _ _ => rfl)) (pe_glob (v := .int 1000000000) (by rfl) m_TICKS_BEHIND ⟨_, rfl⟩)))
      (pss_one (ps_ret (pe_op op_cat (pv 0) (pe_lc (own := [("key", 3)]) (g := (gName 3)) (by rfl) sc_ended.nd (pi_list (pv 1)) (blkOk_by (N := n_ended) (sc := defScope s_ended) (by decide +kernel)) (fun _ _ _ _ _ => (pg_name (i := 3) sc_ended.nd rfl (Or.inl rfl))) (fun _ _ _ _ _ => pts_nil) (fun _ _ _ _ _ => (pe_tup (pa_cons (pv 2) (pa_cons (pv 3) (pa_cons pe_str pa_nil))))))))))))), ?_⟩
    refine ⟨_, rfl, c, es, rfl, hL, hV, hl, fun H1 s1 => ?_⟩
    have hL1 := hL.same s1
    refine ⟨_, rfl, c, es, rfl, hL1, by omega, fun H2 k ns s2 nk hk hs hn hm hlen => ?_⟩
    have s02 := s1.trans s2
    obtain ⟨as, hc, hT⟩ := hL.same s02
    refine ⟨_, rfl, _, .inl ⟨_, SqL.of hk, rfl⟩, ?_⟩
    cases ns with
    | nil =>
      refine iteT ⟨_, rfl, c, _, rfl, .inl (SqL.of hc), fun p np => ?_⟩
      exact q _ p [] (s02.trans (same_upd np)) (s02.free np) ⟨as, upd_same, by rw [List.map_nil, List.append_nil]; exact hT.same (same_upd np)⟩ hs hn hm hlen
    | cons n0 nr =>
      have hpos : 0 < es.length := by rw [List.length_cons] at hlen; omega
      obtain ⟨b, hb, hbt⟩ := hT.at_ (i := es.length - 1) (by omega)
      have hal := hT.1
      have hlast : (as.map V.ref)[(as.map V.ref).length - 1]? = some (.ref b) := by rw [List.length_map, hal]; exact get_map_ref hb
      have hT0 : lastT es = es[es.length - 1].t := by
        unfold lastT
        rw [List.getLast?_eq_getElem?, List.getElem?_eq_getElem (by omega)]
        rfl
      refine iteF ⟨_, rfl, 1, rfl, c, _, -1, .ref b, rfl, rfl, SqL.of hc, atI_end hlast, b, _, _, _, rfl, rfl, SqT.of hbt, atI_nat (j := 0) rfl, _, _, rfl, rfl, ?_⟩
      refine ⟨_, rfl, _, rfl, k, rfl, ⟨_, SqL.of hk⟩, fun L nL => lc_it (walk_list (xs := (n0 :: nr).map V.int)) (fun i H' => Grown evV H2 L (((n0 :: nr).take i).map (upAt (lastT es + 1000000000))) H') (Grown.start nL)
        (fun i H' _ p => SqL.of (p.same _ _ hk)) (fun i x H3 H4 hi p y => ?_) (fun H3 p => ?_)⟩
      · obtain ⟨rfl, hx⟩ := y
        have hi' : i < (n0 :: nr).length := by rw [List.length_map] at hi; exact hi
        have hx' := List.getElem?_eq_getElem hi'
        have ex : V.int (n0 :: nr)[i] = x := Option.some.inj ((get_map_int hx').symm.trans hx)
        subst ex
        refine ⟨rfl, ⟨_, rfl, _, rfl, (by show 3 ≤ sizeLine; decide), fun p' np => ?_⟩⟩
        obtain ⟨acc, ha, hal', hg'⟩ := p.more (e := upAt (lastT es + 1000000000) (n0 :: nr)[i]) nL np
        have hev : evV (upAt (lastT es + 1000000000) (n0 :: nr)[i]) = [.int (es[es.length - 1].t + 1000000000), .int (n0 :: nr)[i], .str "up"] := by rw [hT0]; rfl
        rw [hev] at ha hg'
        refine ⟨acc, ha, ?_, ?_⟩
        · rw [hal', List.length_map, List.length_take]; exact small1000 (by omega)
        · rw [List.take_add_one, hx', List.map_append]
          exact hg'
      · rw [List.length_map, List.take_length] at p
        obtain ⟨sG, bs, hLb, hTb⟩ := p
        have hc3 := sG _ _ hc
        refine ⟨c, L, _, _, rfl, rfl, hc3, hLb, ?_, fun p np => ?_⟩
        · rw [List.length_map, List.length_map, hTb.1, List.length_map, hal]
          exact small400 (by omega)
        · refine q _ p (n0 :: nr) ((s02.trans sG).trans (same_upd np)) ((s02.trans sG).free np) ⟨as ++ bs, by rw [upd_same, List.map_append], ?_⟩ hs hn hm hlen
          exact ((hT.same sG).append hTb).same (same_upd np)
def timed (t : Int) (e : Ev) : Ev := ⟨t, e.k, e.d⟩
def spWith : Sp := fun vs H Q _ => ∃ (o c : Addr) (es : List Ev) (ts : List Int), vs = [.ref o, .ref c] ∧ Lst stV H o es ∧ ValidO es ∧ es.length ≤ 400 ∧ H c = some (.lst (ts.map V.int)) ∧ ts.length = es.length ∧ Rise ts ∧
  ∀ (H' : Hp) (p : Addr), Same H H' → H p = none → Lst evV H' p (List.zipWith timed ts es) → Q (.ref p) H'
theorem zip_take {ts : List Int} {es : List Ev} {i : Nat} (h1 : i < ts.length) (h2 : i < es.length) : List.zipWith timed (ts.take (i + 1)) (es.take (i + 1)) = List.zipWith timed (ts.take i) (es.take i) ++ [timed ts[i] es[i]] := by
  rw [List.take_add_one, List.take_add_one, List.getElem?_eq_getElem h1, List.getElem?_eq_getElem h2]
  rw [show (some ts[i]).toList = [ts[i]] from rfl, show (some es[i]).toList = [es[i]] from rfl, List.zipWith_append]
  · rfl
  · rw [List.length_take, List.length_take]; omega
theorem ok_with_ticks (bt : Bt mg) (a : At K mg "with_ticks" s_with_ticks ["order", "ticks"]) (c_check_order : ClD P w K mg base 3 "check_order" spCheckO [.non]) (c_are_ticks : Cl P w K mg base 2 "are_ticks" spTicks) : Cl P w K mg base 4 "with_ticks" spWith := by
  refine clG a sc_with_ticks (fun vs H Q E h => ?_) (fun f cdv A outer s H vs Q hg hr h => ?_)
  · obtain ⟨a, e, _, _, rfl, _⟩ := h
    rfl
  · obtain ⟨o, c, es, ts, rfl, hO, hV, hl, hc, hn, hR, q⟩ := h
    refine ⟨_, (pss_cons (ps_expr (pe_clD c_check_order hg hr (by decide) (by rfl) (pa_cons (pv 0) pa_nil)))
      (pss_cons (ps_if (pt_not (pt_val (pe_cl c_are_ticks hg hr (by decide) (by rfl) (pa_cons (pv 1) (pa_cons (pe_callB call_len_seq (by rfl) bt.m_len (by decide +kernel) (pa_cons (pv 0) pa_nil)) pa_nil))))) pss_never pss_nil)
      (pss_one (ps_ret (pe_lc (own := [("tick", 2), ("key", 3), ("way", 4)]) (g := (gTup K 2 (gCons (gName 2) (gCons (gTup K 2 (gCons (gName 3) (gCons (gName 4) gNil))) gNil)))) (by rfl) sc_with_ticks.nd (pi_zip (by rfl) bt.m_zip (pa_cons (pv 1) (pa_cons (pv 0) pa_nil))) (blkOk_by (N := n_with_ticks) (sc := defScope s_with_ticks) (by decide +kernel)) (fun _ _ _ _ _ => (pg_tup rfl (pgs_cons (pg_name (i := 2) sc_with_ticks.nd rfl (Or.inl rfl)) (pgs_cons (pg_tup rfl (pgs_cons (pg_name (i := 3) sc_with_ticks.nd rfl (Or.inl rfl)) (pgs_cons (pg_name (i := 4) sc_with_ticks.nd rfl (Or.inl rfl)) pgs_nil))) pgs_nil)))) (fun _ _ _ _ _ => pts_nil) (fun _ _ _ _ _ => (pe_tup (pa_cons (pv 2) (pa_cons (pv 3) (pa_cons (pv 4) pa_nil)))))))))), ?_⟩
    refine ⟨_, rfl, o, es, rfl, hO, hV, hl, fun H1 s1 => ?_⟩
    obtain ⟨as, ho, hT⟩ := hO.same s1
    have hc1 := s1 _ _ hc
    have hal := hT.1
    refine ⟨_, rfl, _, rfl, o, _, rfl, .inl (SqL.of ho), ?_⟩
    rw [List.length_map, hal]
    refine ⟨c, ts, es.length, rfl, hc1, hn, by omega, hR, fun H2 s2 => ⟨_, rfl, iteF ?_⟩⟩
    have hc2 := s2 _ _ hc1
    have ho2 := s2 _ _ ho
    have hT2 := hT.same s2
    have s02 := s1.trans s2
    refine ⟨_, rfl, _, rfl, c, o, _, _, rfl, SqL.of hc2, SqL.of ho2, fun L nL => lc_it (walk_zip (n := es.length) (xs := ts.map V.int) (ys := as.map V.ref) (by rw [List.length_map, List.length_map]; omega)) (fun i H' => Grown evV H2 L (List.zipWith timed (ts.take i) (es.take i)) H') (Grown.start nL)
      (fun i H' _ p => ⟨SqL.of (p.same _ _ hc2), SqL.of (p.same _ _ ho2)⟩) (fun i x H3 H4 hi p y => ?_) (fun H3 p => ?_)⟩
    · obtain ⟨T, u, v, rfl, nT, rfl, e1, e2⟩ := y
      have hi2 : i < ts.length := by omega
      obtain ⟨b, hb, hbt⟩ := hT2.at_ hi
      have eu : V.int ts[i] = u := Option.some.inj ((get_map_int (List.getElem?_eq_getElem hi2)).symm.trans e1)
      have ev : V.ref b = v := Option.some.inj ((get_map_ref hb).symm.trans e2)
      subst eu ev
      have sT : Same H2 (upd H3 T (.tup [.int ts[i], .ref b])) := p.same.trans (same_upd nT)
      refine ⟨T, _, rfl, SqT.of upd_same, rfl, _, _, rfl, _, _, rfl, ⟨b, _, rfl, SqT.of (sT _ _ hbt), rfl, _, _, rfl, _, _, rfl, rfl, rfl, rfl, ?_⟩⟩
      have pT : Grown evV H2 L (List.zipWith timed (ts.take i) (es.take i)) (upd H3 T (.tup [.int ts[i], .ref b])) := ⟨sT, p.ls.same (same_upd nT)⟩
      refine ⟨_, rfl, _, rfl, _, rfl, (by show 3 ≤ sizeLine; decide), fun p' np => ?_⟩
      obtain ⟨acc, ha, hal', hg'⟩ := pT.more (e := timed ts[i] es[i]) nL np
      refine ⟨acc, ha, ?_, ?_⟩
      · rw [hal', List.length_zipWith, List.length_take, List.length_take]; exact small1000 (by omega)
      · rw [zip_take hi2 hi]
        exact hg'
    · rw [List.take_of_length_le (by omega), List.take_of_length_le (Nat.le_refl _)] at p
      exact q _ L (s02.trans p.same) (s02.free nL) p.ls
end
end K86

set_option Elab.async false
set_option linter.all false
set_option maxRecDepth 100000
set_option maxHeartbeats 8000000
namespace K86
open PySem PySem.Spec PyProof.Rows L2 Gd Rm La Cb Pl
def optV : Option Int → V
  | none => .non
  | some t => .int t
def optD : Option Int → PyData
  | none => .none
  | some t => .int t
def lensN (es : List Ev) (n : Nat) : List (Option Int) := (List.range es.length).map fun i => lenN es n i
theorem lensN_len (es : List Ev) (n : Nat) : (lensN es n).length = es.length := by unfold lensN; rw [List.length_map, List.length_range]
theorem lensN_at {es : List Ev} {n i : Nat} (h : i < es.length) : (lensN es n)[i]? = some (lenN es n i) := by
  unfold lensN
  rw [List.getElem?_map, List.getElem?_range h]
  rfl
theorem lensN_zero (es : List Ev) : lensN es 0 = List.replicate es.length none := by
  refine List.ext_getElem? fun i => ?_
  rcases Nat.lt_or_ge i es.length with q | q
  · rw [lensN_at q, List.getElem?_replicate, if_pos q]
    unfold lenN
    rw [List.getElem?_eq_getElem q]
    show some (if es[i].d = true ∧ i < 0 then _ else none) = _
    rw [if_neg (by omega)]
  · rw [List.getElem?_eq_none (by rw [lensN_len]; exact q), List.getElem?_eq_none (by rw [List.length_replicate]; exact q)]
theorem lensN_up {es : List Ev} {n d : Nat} {e x : Ev} (he : es[n]? = some e) (hd : e.d = false) (o : Open es n e.k d) (hx : es[d]? = some x) : lensN es (n + 1) = (lensN es n).set d (some (e.t - x.t)) := by
  refine List.ext_getElem? fun i => ?_
  rcases Nat.lt_or_ge i es.length with q | q
  · rw [lensN_at q, lenN_up he hd o hx, List.getElem?_set]
    by_cases z : d = i
    · subst z
      rw [if_pos rfl, if_pos rfl, if_pos (by rw [lensN_len]; exact q)]
    · rw [if_neg (fun y => z y.symm), if_neg z, lensN_at q]
  · rw [List.getElem?_eq_none (by rw [lensN_len]; exact q), List.getElem?_eq_none (by rw [List.length_set, lensN_len]; exact q)]
theorem lensN_down {es : List Ev} {n : Nat} {e : Ev} (hV : Valid es) (he : es[n]? = some e) (hd : e.d = true) : lensN es (n + 1) = lensN es n := by
  unfold lensN
  refine List.map_congr_left fun i _ => lenN_down hV he hd i
section
variable {P : Program} {w : World} {K : PySem.W.Frag} {mg : Str → Option Value} {base : Heap}
def spWhole : Sp := fun vs H Q _ => ∃ (c : Addr) (es : List Ev) (b : Bool), vs = [.ref c] ∧ Lst evV H c es ∧ Valid es ∧ es.length ≤ 400 ∧ (b = true ↔ ∀ k, heldB es k = false) ∧ ∀ H', Same H H' → Q (.bl b) H'
theorem ok_is_whole (bt : Bt mg) (a : At K mg "is_whole" s_is_whole ["record"]) (c_check_record : ClD P w K mg base 4 "check_record" spCheckN [.non]) (c_held_keys : Cl P w K mg base 1 "held_keys" spHeld) : Cl P w K mg base 5 "is_whole" spWhole := by
  refine clG a sc_is_whole (fun vs H Q E h => ?_) (fun f cdv A outer s H vs Q hg hr h => ?_)
  · obtain ⟨c, es, b, rfl, _⟩ := h
    rfl
  · obtain ⟨c, es, b, rfl, hL, hV, hl, hb, q⟩ := h
    refine ⟨_, (pss_cons (ps_expr (pe_clD c_check_record hg hr (by decide) (by rfl) (pa_cons (pv 0) pa_nil)))
      (pss_one (ps_ret (pe_cmpR (op_eqD hr.units) (pe_cl c_held_keys hg hr (by decide) (by rfl) (pa_cons (pv 0) pa_nil)) (pe_lst pa_nil) (nomark _))))), ?_⟩
    refine ⟨_, rfl, c, es, rfl, hL, hV, hl, fun H1 s1 => ?_⟩
    refine ⟨_, rfl, c, es, rfl, hL.same s1, by omega, fun H2 p ns s2 np hp hs hn hm hlen => ⟨Nat.zero_le _, fun Z nZ => ?_⟩⟩
    refine ⟨_, _, .lst (SqL.of ((same_upd nZ) _ _ hp)) (dpInts ns), .lst (SqL.of upd_same) .nil, shaped_ints ns, shaped_nil, ?_⟩
    have e : PyData.eqv (.list (ns.map PyData.int)) (.list []) = b := by
      rw [eqv_nil]
      cases ns with
      | nil =>
        refine (hb.mpr fun k => ?_).symm
        cases z : heldB es k with
        | false => rfl
        | true => exact absurd ((hm k).mpr z) (by simp)
      | cons n ns =>
        cases b with
        | false => rfl
        | true =>
          have := hb.mp rfl n
          rw [(hm n).mp List.mem_cons_self] at this
          cases this
    rw [e]
    exact q _ ((s1.trans s2).trans (same_upd nZ))
def spOrder : Sp := fun vs H Q _ => ∃ (c : Addr) (es : List Ev), vs = [.ref c] ∧ Lst evV H c es ∧ Valid es ∧ es.length ≤ 400 ∧ ∀ H' p, Same H H' → H p = none → Lst stV H' p es → Q (.ref p) H'
theorem ok_order_of (bt : Bt mg) (a : At K mg "order_of" s_order_of ["record"]) (c_check_record : ClD P w K mg base 4 "check_record" spCheckN [.non]) : Cl P w K mg base 5 "order_of" spOrder := by
  refine clG a sc_order_of (fun vs H Q E h => ?_) (fun f cdv A outer s H vs Q hg hr h => ?_)
  · obtain ⟨c, es, rfl, _⟩ := h
    rfl
  · obtain ⟨c, es, rfl, hL, hV, hl, q⟩ := h
    refine ⟨_, (pss_cons (ps_expr (pe_clD c_check_record hg hr (by decide) (by rfl) (pa_cons (pv 0) pa_nil)))
      (pss_one (ps_ret (pe_lc (own := [("tick", 1), ("key", 2), ("way", 3)]) (g := (gTup K 3 (gCons (gName 1) (gCons (gName 2) (gCons (gName 3) gNil))))) (by rfl) sc_order_of.nd (pi_list (pv 0)) (blkOk_by (N := n_order_of) (sc := defScope s_order_of) (by decide +kernel)) (fun _ _ _ _ _ => (pg_tup rfl (pgs_cons (pg_name (i := 1) sc_order_of.nd rfl (Or.inl rfl)) (pgs_cons (pg_name (i := 2) sc_order_of.nd rfl (Or.inl rfl)) (pgs_cons (pg_name (i := 3) sc_order_of.nd rfl (Or.inl rfl)) pgs_nil))))) (fun _ _ _ _ _ => pts_nil) (fun _ _ _ _ _ => (pe_tup (pa_cons (pv 2) (pa_cons (pv 3) pa_nil)))))))), ?_⟩
    refine ⟨_, rfl, c, es, rfl, hL, hV, hl, fun H1 s1 => ?_⟩
    obtain ⟨as, hc, hT⟩ := hL.same s1
    have hal := hT.1
    refine ⟨_, rfl, c, rfl, ⟨_, SqL.of hc⟩, fun M nM => lc_it (walk_list (xs := as.map V.ref)) (fun i H' => Grown stV H1 M (es.take i) H') (Grown.start nM) (fun i H' _ p => SqL.of (p.same _ _ hc)) (fun i x Hx H3 hi p y => ?_) (fun H3 p => ?_)⟩
    · obtain ⟨rfl, e2⟩ := y
      have hi' : i < es.length := by rw [List.length_map] at hi; omega
      obtain ⟨b, hb, hbt⟩ := hT.at_ hi'
      have e2' : x = .ref b := Option.some.inj (e2.symm.trans (get_map_ref hb))
      subst e2'
      refine ⟨b, _, rfl, SqT.of (p.same _ _ hbt), rfl, _, _, rfl, _, _, rfl, _, _, rfl, rfl, rfl, ⟨_, rfl, _, rfl, (by show 2 ≤ sizeLine; decide), fun p' np => ?_⟩⟩
      obtain ⟨acc, ha, hal', hg'⟩ := p.more (e := es[i]) nM np
      refine ⟨acc, ha, ?_, ?_⟩
      · rw [hal', List.length_take]; exact small1000 (by omega)
      · rw [List.take_add_one, List.getElem?_eq_getElem hi']
        exact hg'
    · rw [List.length_map, hal, List.take_length] at p
      exact q _ M (s1.trans p.same) (s1.free nM) p.ls
def spLens : Sp := fun vs H Q _ => ∃ (c : Addr) (es : List Ev), vs = [.ref c] ∧ Lst evV H c es ∧ Valid es ∧ es.length ≤ 400 ∧ ∀ H' p, Same H H' → H p = none → H' p = some (.lst ((lens es).map optV)) → Q (.ref p) H'
theorem ok_lengths (bt : Bt mg) (a : At K mg "lengths" s_lengths ["record"]) (c_check_record : ClD P w K mg base 4 "check_record" spCheckN [.non]) : Cl P w K mg base 5 "lengths" spLens := by
  refine clG a sc_lengths (fun vs H Q E h => ?_) (fun f cdv A outer s H vs Q hg hr h => ?_)
  · obtain ⟨c, es, rfl, _⟩ := h
    rfl
  · obtain ⟨c, es, rfl, hL, hV, hl, q⟩ := h
    refine ⟨_, (pss_cons (ps_expr (pe_clD c_check_record hg hr (by decide) (by rfl) (pa_cons (pv 0) pa_nil)))
      (pss_cons (ps_set (i := 1) sc_lengths.nd rfl (Or.inl rfl) (pe_op op_rep (pe_lst (pa_cons pe_non pa_nil)) (pe_callB call_len_seq (by rfl) bt.m_len (by decide +kernel) (pa_cons (pv 0) pa_nil))))
      (pss_cons (ps_set (i := 2) sc_lengths.nd rfl (Or.inl rfl) pe_dnewK)
      (pss_cons (ps_for PassesOwn.never rfl (pi_enum (by rfl) bt.m_enumerate (pa_cons (pv 0) pa_nil)) (pg_tup rfl (pgs_cons (pg_name (i := 3) sc_lengths.nd rfl (Or.inl rfl)) (pgs_cons (pg_tup rfl (pgs_cons (pg_name (i := 4) sc_lengths.nd rfl (Or.inl rfl)) (pgs_cons (pg_name (i := 5) sc_lengths.nd rfl (Or.inl rfl)) (pgs_cons (pg_name (i := 6) sc_lengths.nd rfl (Or.inl rfl)) pgs_nil)))) pgs_nil))) (pss_one (ps_if (pt_cmpR op_eq (pv 6) pe_str (nomark _)) (pss_one (ps_dput (hu_of hr) (pv 2) (pv 5) (pv 3) rfl)) (pss_cons (ps_set (i := 7) sc_lengths.nd rfl (Or.inl rfl) (pe_dget (hu_of hr) (pv 2) (pv 5) (fun _ _ => rfl)))
      (pss_one (ps_asg (pe_op op_sub (pv 4) (pe_ix ix_tup (pe_ix ix_list (pv 0) (pv 7) (fun _ _ => rfl)) pe_int (fun _ _ => rfl))) (pg_sub (pv 1) (pv 7) set_list)))))))
      (pss_one (ps_ret (pv 1))))))), ?_⟩
    refine ⟨_, rfl, c, es, rfl, hL, hV, hl, fun H1 s1 => ?_⟩
    obtain ⟨as, hc, hT⟩ := hL.same s1
    have hal := hT.1
    refine ⟨(by show 1 ≤ sizeLine; decide), fun Z nZ => ⟨_, rfl, c, _, rfl, .inl (SqL.of ((same_upd nZ) _ _ hc)), Z, _, _, rfl, rfl, upd_same, ?_, ?_, ?_, fun F nF => ?_⟩⟩
    · rw [List.length_map, hal]; omega
    · rw [List.length_map, hal]; omega
    · rw [List.length_map, hal, Int.toNat_natCast]
      show 1 * es.length ≤ sizeLine
      rw [sizeLine_eq]; omega
    have hF0 : (List.replicate (((as.map V.ref).length : Nat) : Int).toNat [V.non]).flatten = (lensN es 0).map optV := by
      rw [List.length_map, hal, Int.toNat_natCast, lensN_zero, List.map_replicate]
      clear hV hL hl hal hT
      induction es.length with
      | zero => rfl
      | succ m ih => rw [List.replicate_succ, List.flatten_cons, ih, List.replicate_succ]; rfl
    rw [hF0]
    intro D nD
    have sZ := same_upd (o := .lst [.non]) nZ
    have sF := same_upd (o := .lst ((lensN es 0).map optV)) nF
    have sD := same_upd (o := .dK []) nD
    have nF1 : H1 F = none := sZ.free nF
    have nD1 : H1 D = none := (sZ.trans sF).free nD
    have FD : F ≠ D := ne_of_none upd_same nD
    have hc0 := ((sZ.trans sF).trans sD) _ _ hc
    refine ⟨_, rfl, c, _, rfl, SqL.of hc0, for_it (walk_enum (xs := as.map V.ref)) (fun n σ H' => Same H1 H' ∧ ∃ kvs y3 y4 y5 y6 y7, σ = [some (.ref c), some (.ref F), some (.ref D), y3, y4, y5, y6, y7] ∧ H' F = some (.lst ((lensN es n).map optV)) ∧ H' D = some (.dK kvs) ∧ kvs.length ≤ n ∧
        ∀ k, heldB (es.take n) k = true → ∃ d : Nat, valV kvs (Sum.inl k) = some (.int (d : Int)) ∧ Open es n k d)
      ⟨(sZ.trans sF).trans sD, _, _, _, _, _, _, rfl, sD _ _ upd_same, upd_same, Nat.le_refl _, fun k h => by cases h⟩ (fun _ _ H' _ p => SqL.of (p.1 _ _ hc)) (fun n x σ H2 H3 hi p y => ?_) (fun σ H2 p => ?_)⟩
    · obtain ⟨s2, kvs, y3, y4, y5, y6, y7, rfl, hF, hD, hkl, hop⟩ := p
      obtain ⟨T, u, v, rfl, nT, rfl, e1, e2⟩ := y
      have hn : n < es.length := by rw [List.length_map] at hi; omega
      obtain ⟨b, hb, hbt⟩ := hT.at_ hn
      have he : es[n]? = some es[n] := List.getElem?_eq_getElem hn
      have e2' : v = .ref b := Option.some.inj ((show (as.map V.ref)[n]? = some v from e2).symm.trans (get_map_ref hb))
      subst e2'
      have e1' : u = .int (n : Nat) := (Option.some.inj e1).symm
      subst e1'
      have sT := same_upd (o := .tup [.int (n : Nat), .ref b]) nT
      have hF3 := sT _ _ hF
      have hD3 := sT _ _ hD
      have s3 := s2.trans sT
      obtain ⟨v1, v2, _⟩ := hV n _ he
      have hsz : kvs.length < sizeLine := small1000 (by omega)
      refine ⟨T, _, rfl, SqT.of upd_same, rfl, _, _, rfl, _, _, rfl, ⟨b, _, rfl, SqT.of (s3 _ _ hbt), rfl, _, _, rfl, _, _, rfl, _, _, rfl, rfl, rfl, ?_⟩⟩
      refine ⟨_, rfl, rfl, _, rfl, ite2 (fun z => ?_) (fun z => ?_)⟩
      · rw [wayS_down] at z
        refine ⟨_, rfl, _, rfl, _, rfl, D, _, rfl, DPut.k (k := Sum.inl es[n].k) hD3 hsz, Same.off s3 nD1 off_upd, putK kvs (Sum.inl es[n].k) (.int (n : Int)), _, _, _, _, _, rfl, ?_, upd_same, ?_, fun k hk => ?_⟩
        · rw [upd_ne FD, lensN_down hV he z]; exact hF3
        · have := put_len kvs (Sum.inl es[n].k) (.int (n : Int)); omega
        · rw [valV_put]
          by_cases y : k = es[n].k
          · subst y
            rw [if_pos rfl]
            exact ⟨n, rfl, Open.new he z⟩
          · rw [if_neg (fun q => y (Sum.inl.inj q))]
            rw [heldB_take he] at hk
            unfold after at hk
            rw [if_neg y] at hk
            obtain ⟨d, h1, h2⟩ := hop k hk
            exact ⟨d, h1, h2.step he (fun q => y q.symm)⟩
      · rw [wayS_down] at z
        have hd : es[n].d = false := by
          cases q : es[n].d with
          | false => rfl
          | true => exact absurd q z
        rw [hd] at v2
        obtain ⟨d, hv, ho⟩ := hop es[n].k v2
        obtain ⟨x, hx, hxk, hxd⟩ := ho.ev
        have dl := ho.lt
        obtain ⟨bd, hbd, hbdt⟩ := hT.at_ (i := d) (by omega)
        have ex : es[d] = x := by
          rw [List.getElem?_eq_getElem (by omega)] at hx
          exact Option.some.inj hx
        rw [ex] at hbdt
        have hix : ixN ((lensN es n).map optV).length (d : Int) = some d := by
          unfold ixN
          rw [List.length_map, lensN_len, if_pos (by omega), if_pos (by omega)]
          rfl
        have dg : DGet (upd H2 T (.tup [.int (n : Nat), .ref b])) D (.int es[n].k) (some (.int (d : Int))) := hv ▸ DGet.k (k := Sum.inl es[n].k) hD3
        refine ⟨_, rfl, _, rfl, D, _, rfl, dg, ?_⟩
        refine ⟨_, rfl, _, rfl, _, rfl, c, _, (d : Int), .ref bd, rfl, rfl, SqL.of (s3 _ _ hc), atI_nat (get_map_ref hbd), bd, _, 0, .int x.t, rfl, rfl, SqT.of (s3 _ _ hbdt), atI_nat (j := 0) rfl, _, _, rfl, rfl, _, rfl, _, rfl, F, _, (d : Int), d, rfl, rfl, hF3, hix, ?_⟩
        refine ⟨Same.off s3 nF1 off_upd, kvs, _, _, _, _, _, rfl, ?_, ?_, by omega, fun k hk => ?_⟩
        · rw [upd_same, lensN_up he hd ho hx, List.map_set]
          rfl
        · rw [upd_ne FD.symm]; exact hD3
        · rw [heldB_take he] at hk
          unfold after at hk
          by_cases y : k = es[n].k
          · rw [if_pos y, hd] at hk
            cases hk
          · rw [if_neg y] at hk
            obtain ⟨d', h1, h2⟩ := hop k hk
            exact ⟨d', h1, h2.step he (fun q => y q.symm)⟩
    · obtain ⟨s2, kvs, y3, y4, y5, y6, y7, rfl, hF, hD, hkl, hop⟩ := p
      rw [List.length_map, hal] at hF
      exact ⟨_, rfl, q _ F (s1.trans s2) (s1.free nF1) hF⟩
end
end K86

set_option Elab.async false
set_option linter.all false
set_option maxRecDepth 100000
set_option maxHeartbeats 8000000
namespace K86
open PySem PySem.Spec PyProof.Rows L2 Gd Rm La Cb Pl
/-! ### numbers as texts -/
def LowN (i : Int) : Prop := -(10 ^ 30) < i ∧ i < 10 ^ 30
theorem p30 : (10 : Int) ^ 30 = 1000000000000000000000000000000 := by decide
theorem num_neg {i : Int} (h : i < 0) : TL.tl (Tx.numS i) = 45 :: TL.numL (-i).toNat := by
  obtain ⟨m, rfl⟩ : ∃ m : Nat, i = Int.negSucc m := ⟨(-i - 1).toNat, by omega⟩
  have e : (-(Int.negSucc m)).toNat = m + 1 := by rw [Int.neg_negSucc]; rfl
  rw [e]
  have h2 : TL.tl (Str.ofString (toString ((m + 1 : Nat) : Int))) = TL.numL (m + 1) := TL.tl_num _
  rw [TL.tl_ofString] at h2
  unfold Tx.numS
  rw [TL.tl_ofString, ← h2]
  have e3 : (toString (Int.negSucc m) : String) = "-" ++ toString ((m + 1 : Nat) : Int) := rfl
  rw [e3, String.toList_append, List.map_append]
  rfl
theorem num_val (n : Nat) : NumText.AllDigits (TL.numL n) ∧ NumText.digitsVal (TL.numL n) = n := ⟨TL.numL_digits n, TL.numL_val n⟩
theorem numL_30 {n : Nat} (h : n < 10 ^ 30) : (TL.numL n).length ≤ 30 := TL.numL_len (by decide) h
theorem num_len {i : Int} (h : LowN i) : (Tx.numS i).length ≤ 31 := by
  have := p30
  unfold LowN at h
  have q : (10 : Nat) ^ 30 = 1000000000000000000000000000000 := by decide
  rw [TL.len_tl]
  rcases Int.lt_or_le i 0 with z | z
  · rw [num_neg z, List.length_cons]
    have := numL_30 (n := (-i).toNat) (by omega)
    omega
  · rw [Tx.numS_tl z]
    have := numL_30 (n := i.toNat) (by omega)
    omega
theorem num_int {i : Int} (h : LowN i) : intText? (Tx.numS i) = some i := by
  have l := num_len h
  rcases Int.lt_or_le i 0 with z | z
  · have e : (Tx.numS i).cps.toList = 45 :: TL.numL (-i).toNat := num_neg z
    rw [intText_neg e (TL.numL_digits _) (TL.numL_ne _) (by omega), TL.numL_val]
    congr 1
    omega
  · have e : i = ((i.toNat : Nat) : Int) := by omega
    rw [TL.len_tl, Tx.numS_tl z] at l
    have := TL.int_num (n := i.toNat) (by omega)
    unfold Tx.numS
    rw [e]
    exact this
def signW (d : Bool) : Str := if d then (("+" : String) : Str) else (("-" : String) : Str)
theorem sign_tl (d : Bool) : TL.tl (signW d) = [if d then 43 else 45] := by cases d <;> decide +kernel
theorem sign_len (d : Bool) : (signW d).length = 1 := by rw [TL.len_tl, sign_tl]; rfl
theorem sign_at (d : Bool) : signW d = ⟨#[if d then 43 else 45]⟩ := by cases d <;> decide +kernel
/-- the word for an event -/
def evT (e : Ev) : Str := Tx.numS e.k ++ signW e.d ++ Tx.numS e.t
structure EvLow (e : Ev) : Prop where
  k0 : 0 ≤ e.k
  k1 : e.k < 10 ^ 30
  t : LowN e.t
theorem EvLow.k {e : Ev} (h : EvLow e) : LowN e.k := ⟨by have := p30; have := h.k0; omega, h.k1⟩
theorem ev_len {e : Ev} (h : EvLow e) : (evT e).length ≤ 63 := by
  unfold evT
  rw [Tx.len_app, Tx.len_app, sign_len]
  have := num_len h.k
  have := num_len h.t
  omega
theorem ev_tl {e : Ev} : TL.tl (evT e) = TL.tl (Tx.numS e.k) ++ ([if e.d then 43 else 45] ++ TL.tl (Tx.numS e.t)) := by
  unfold evT
  rw [TL.tl_append, TL.tl_append, sign_tl, List.append_assoc]
theorem num_signs {i : Int} (c : Nat) (h : c ∈ TL.tl (Tx.numS i)) : (48 ≤ c ∧ c ≤ 57) ∨ (c = 45 ∧ i < 0) := by
  rcases Int.lt_or_le i 0 with z | z
  · rw [num_neg z] at h
    rcases List.mem_cons.mp h with h | h
    · exact .inr ⟨h, z⟩
    · exact .inl (Tx.numL_low h)
  · rw [Tx.numS_tl z] at h
    exact .inl (Tx.numL_low h)
theorem plus_in {e : Ev} : decide (43 ∈ (evT e).cps.toList) = e.d := by
  have ht : (evT e).cps.toList = _ := ev_tl (e := e)
  rw [ht]
  cases hd : e.d with
  | true => exact decide_eq_true (by simp)
  | false =>
    refine decide_eq_false fun h => ?_
    rcases List.mem_append.mp h with h | h
    · rcases num_signs _ h with q | q <;> omega
    · rcases List.mem_cons.mp h with h | h
      · exact absurd h (by decide)
      · rcases num_signs _ h with q | q <;> omega
theorem ev_part {e : Ev} (h : EvLow e) : Txt.partition (evT e) (signW e.d) = (Tx.numS e.k, signW e.d, Tx.numS e.t) := by
  refine TL.partition_app (sign_tl e.d) fun z => ?_
  have := h.k0
  rcases num_signs _ z with q | q
  · revert q; cases e.d <;> (intro q; simp at q)
  · omega
theorem ev_free {e : Ev} : ∀ c ∈ TL.tl (evT e), c ≠ 32 := fun c h => by
  rw [ev_tl] at h
  rcases List.mem_append.mp h with h | h
  · rcases num_signs _ h with q | q <;> omega
  · rcases List.mem_append.mp h with h | h
    · have := List.mem_singleton.mp h
      rw [this]
      cases e.d <;> decide
    · rcases num_signs _ h with q | q <;> omega
/-- the text of a record -/
def recT (es : List Ev) : Str := Txt.join ((" " : String) : Str) (es.map evT)
theorem rec_split {es : List Ev} (h : es ≠ []) : Txt.split (recT es) ((" " : String) : Str) = es.map evT :=
  TL.split_join Tx.tl_s3 (by decide +kernel) (by simpa using h) fun p hp z => by
    obtain ⟨e, _, rfl⟩ := List.mem_map.mp hp
    exact ev_free _ z rfl
theorem rec_len {es : List Ev} (h : ∀ e ∈ es, EvLow e) : (recT es).length ≤ es.length * 64 := by
  have := Tx.join_len (y := ((" " : String) : Str)) (ps := es.map evT) (k := 63) (fun p hp => by
    obtain ⟨e, he, rfl⟩ := List.mem_map.mp hp
    exact ev_len (h e he)) Tx.sp_len
  rw [List.length_map] at this
  exact this
theorem rec_nil : recT [] = Str.empty := by decide +kernel
theorem numS_ne (i : Int) : TL.tl (Tx.numS i) ≠ [] := by
  rcases Int.lt_or_le i 0 with z | z
  · rw [num_neg z]; simp
  · rw [Tx.numS_tl z]; exact TL.numL_ne _
theorem ev_pos (e : Ev) : 1 ≤ (evT e).length := by
  rw [TL.len_tl, ev_tl, List.length_append, List.length_append]
  show 1 ≤ _ + (1 + _)
  omega
theorem rec_pos {es : List Ev} (h : es ≠ []) : 1 ≤ (recT es).length := by
  cases es with
  | nil => exact absurd rfl h
  | cons e r =>
    unfold recT
    rw [TL.len_tl, Tx.join_tl]
    have := ev_pos e
    rw [TL.len_tl] at this
    cases r with
    | nil => exact this
    | cons f r =>
      show 1 ≤ (TL.tl (evT e) ++ _).length
      rw [List.length_append]
      omega
theorem digs_in : ∀ c < 58, 48 ≤ c → c ∈ ((("0123456789" : String) : Str)).cps.toList := by decide +kernel
theorem cut_one {x : Str} {c : Nat} {r : List Nat} (h : TL.tl x = c :: r) : cutS x none (some 1) = ⟨#[c]⟩ ∧ TL.tl (cutS x (some 1) none) = r := by
  have e : x = ⟨#[c]⟩ ++ ⟨r.toArray⟩ := TL.ext_tl (by rw [TL.tl_append, h]; rfl)
  rw [e, Tx.cut_head, Tx.cut_tail]
  exact ⟨rfl, rfl⟩
section
variable {P : Program} {w : World} {K : PySem.W.Frag} {mg : Str → Option Value} {base : Heap}
def spNum : Sp := fun vs H Q _ => ∃ (s : Str) (n : Nat), vs = [.str s] ∧ TL.tl s = TL.numL n ∧ s.length ≤ 30 ∧ ∀ H', Same H H' → Q (.bl true) H'
theorem ok_is_number (bt : Bt mg) {tk1 tk2 : Tok} (m_MOST_DIGITS : mg "MOST_DIGITS" = some (.int 30 tk1)) (m_DIGITS : mg "DIGITS" = some (.str "0123456789" tk2)) (a : At K mg "is_number" s_is_number ["text"]) : Cl P w K mg base 1 "is_number" spNum := by
  refine clG a sc_is_number (fun vs H Q E h => ?_) (fun f cdv A outer s H vs Q hg hr h => ?_)
  · obtain ⟨c, b, rfl, _⟩ := h
    rfl
  · obtain ⟨c, n, rfl, ht, hl, q⟩ := h
    refine ⟨_, (pss_cons (ps_if (PW.pt (pw_or (pt_not (pt_chain op_le op_le pe_int (pe_callB call_len_str (by rfl) bt.m_len (by decide +kernel) (pa_cons (pv 0) pa_nil)) (pe_glob (v := .int 30) (by rfl) m_MOST_DIGITS ⟨_, rfl⟩))) (pw_or1 (pt_not (pt_val (pe_callB (cr_all rfl) (by rfl) bt.m_all (by decide +kernel) (pa_cons (pe_lc (own := [("sign", 1)]) (g := (gName 1)) (by rfl) sc_is_number.nd (pi_str (pv 0)) (blkOk_by (N := n_is_number) (sc := defScope s_is_number) (by decide +kernel)) (fun _ _ _ _ _ => (pg_name (i := 1) sc_is_number.nd rfl (Or.inl rfl))) (fun _ _ _ _ _ => pts_nil) (fun _ _ _ _ _ => (pe_cmpR op_in_sign (pv 1) (pe_glob (v := .str "0123456789") (by rfl) m_DIGITS ⟨_, rfl⟩) rfl))) pa_nil))))))) (pss_one (ps_ret pe_bl)) pss_nil)
      (pss_one (ps_ret (pe_or (pe_cmpR op_eq (pv 0) pe_str (nomark _)) (pe_one (pe_cmpR op_ne (pe_ix ix_str (pv 0) pe_int (fun _ _ => rfl)) pe_str (nomark _))))))), ?_⟩
    have hdig : ∀ x ∈ c.cps.toList, x ∈ ((("0123456789" : String) : Str)).cps.toList := fun x hx => by
      have hx' : x ∈ TL.tl c := hx
      rw [ht] at hx'
      have := Tx.numL_low hx'
      exact digs_in x (by omega) this.1
    obtain ⟨d, r, er⟩ : ∃ d r, TL.numL n = d :: r := by
      cases e : TL.numL n with
      | nil => exact absurd e (TL.numL_ne n)
      | cons d r => exact ⟨d, r, rfl⟩
    have l1 : 1 ≤ c.length := by rw [TL.len_tl, ht, er]; exact Nat.succ_le_succ (Nat.zero_le _)
    have hcl : c.cps.toList.length = c.length := Array.length_toList
    refine ⟨_, rfl, c, rfl, (by rw [sizeLine_eq]; omega), _, _, rfl, rfl, true, congrArg V.bl (decide_eq_true (by omega)), iteT ⟨_, _, rfl, rfl, true, congrArg V.bl (decide_eq_true (by omega)), ?_⟩⟩
    refine iteF ⟨_, rfl, c, rfl, fun L nL => lc_it (walk_str (z := c)) (fun i H' => H' = upd H L (.lst ((List.replicate i true).map V.bl))) rfl (fun _ _ _ _ => True.intro) (fun i x H2 H3 hi p y => ?_) (fun H2 p => ?_)⟩
    · obtain ⟨rfl, d, hd, rfl⟩ := y
      subst p
      have hm := hdig d (by rw [Array.mem_toList_iff]; exact Array.mem_of_getElem? hd)
      refine ⟨rfl, ⟨_, rfl, d, _, rfl, rfl, _, upd_same, ?_, ?_⟩⟩
      · have hi' : i < c.length := hi
        rw [List.length_map, List.length_replicate]; exact small1000 (by omega)
      · rw [decide_eq_true hm, upd_upd, List.replicate_succ', List.map_append]; rfl
    · subst p
      refine ⟨L, _, rfl, SqL.of upd_same, _, rfl, ?_⟩
      rw [allTrue]
      refine iteF ?_
      rcases Nat.eq_zero_or_pos n with z | z
      · have e0 : c = (("0" : String) : Str) := TL.ext_tl (by rw [ht, z]; decide +kernel)
        refine ⟨_, rfl, rfl, true, eqS (decide_eq_true e0), iteT ?_⟩
        exact q _ (same_upd nL)
      · obtain ⟨d', r', er', hd⟩ := Tx.numL_head n z
        rw [er] at er'
        obtain ⟨rfl, rfl⟩ := List.cons.inj er'
        have n0 : decide (c = (("0" : String) : Str)) = false := decide_eq_false fun z => by
          have e := congrArg TL.tl z
          rw [ht, er] at e
          have e2 : TL.tl (("0" : String) : Str) = [48] := by decide +kernel
          rw [e2] at e
          exact hd (List.cons.inj e).1
        refine ⟨_, rfl, rfl, false, eqS n0, iteF ⟨_, rfl, c, 0, d, rfl, rfl, (by rw [sizeLine_eq]; omega), ?_, ?_⟩⟩
        · have e : TL.tl c = d :: r := ht.trans er
          exact atI_nat (j := 0) (by show (TL.tl c)[0]? = some d; rw [e]; rfl)
        · refine ⟨rfl, ?_⟩
          have e0 : (("0" : String) : Str) = ⟨#[48]⟩ := by decide +kernel
          have e : decide (V.str ⟨#[d]⟩ = V.str (("0" : String) : Str)) = false := decide_eq_false fun z => by
            rw [e0] at z
            have := V.str.inj z
            injection this with this
            injection this with this
            exact hd (List.cons.inj this).1
          show Q (.bl (!decide (V.str ⟨#[d]⟩ = V.str (("0" : String) : Str)))) _
          rw [e]
          exact q _ (same_upd nL)
def spSNum : Sp := fun vs H Q _ => ∃ i : Int, vs = [.str (Tx.numS i)] ∧ LowN i ∧ ∀ H', Same H H' → Q (.bl true) H'
theorem ok_is_signed_number (a : At K mg "is_signed_number" s_is_signed_number ["text"]) (c_is_number : Cl P w K mg base 1 "is_number" spNum) : Cl P w K mg base 2 "is_signed_number" spSNum := by
  refine clG a sc_is_signed_number (fun vs H Q E h => ?_) (fun f cdv A outer s H vs Q hg hr h => ?_)
  · obtain ⟨i, rfl, _⟩ := h
    rfl
  · obtain ⟨i, rfl, hi, q⟩ := h
    refine ⟨_, (pss_cons (ps_if (pt_cmpR op_eq (pe_slice sl_str (pv 0) po_none (po_some pe_int)) pe_str (nomark _)) (pss_one (ps_ret (pe_and (pe_cmpR op_ne (pv 0) pe_str (nomark _)) (pe_one (pe_cl c_is_number hg hr (by decide) (by rfl) (pa_cons (pe_slice sl_str (pv 0) (po_some pe_int) po_none) pa_nil)))))) pss_nil)
      (pss_one (ps_ret (pe_cl c_is_number hg hr (by decide) (by rfl) (pa_cons (pv 0) pa_nil))))), ?_⟩
    have l := num_len hi
    have eM : (("-" : String) : Str) = ⟨#[45]⟩ := by decide +kernel
    rcases Int.lt_or_le i 0 with z | z
    · have et := num_neg z
      obtain ⟨c1, c2⟩ := cut_one et
      refine ⟨_, rfl, 1, rfl, _, rfl, (by rw [sizeLine_eq]; omega), rfl, true, eqS (by rw [c1, eM]; exact decide_eq_true rfl), iteT ?_⟩
      refine ⟨_, rfl, rfl, true, ?_, iteT ?_⟩
      · have n0 : decide (V.str (Tx.numS i) = V.str (("-0" : String) : Str)) = false := decide_eq_false fun y => by
          have e := congrArg TL.tl (V.str.inj y)
          rw [et] at e
          have e2 : TL.tl (("-0" : String) : Str) = [45, 48] := by decide +kernel
          rw [e2] at e
          have e3 := (List.cons.inj e).2
          obtain ⟨d', r', er', hd⟩ := Tx.numL_head (-i).toNat (by omega)
          rw [er'] at e3
          exact hd (List.cons.inj e3).1
        rw [n0]
        rfl
      · refine ⟨_, rfl, 1, rfl, _, rfl, (by rw [sizeLine_eq]; omega), _, (-i).toNat, rfl, c2, ?_, fun H1 s1 => q _ s1⟩
        rw [TL.len_tl, c2]
        rw [TL.len_tl, et, List.length_cons] at l
        omega
    · have et := Tx.numS_tl z
      cases e : TL.numL i.toNat with
      | nil => exact absurd e (TL.numL_ne _)
      | cons d r =>
        rw [e] at et
        obtain ⟨c1, c2⟩ := cut_one et
        have hd := Tx.numL_low (n := i.toNat) (c := d) (by rw [e]; exact List.mem_cons_self)
        refine ⟨_, rfl, 1, rfl, _, rfl, (by rw [sizeLine_eq]; omega), rfl, false, eqS (by
          rw [c1, eM]
          refine decide_eq_false fun y => ?_
          injection y with y
          injection y with y
          have := (List.cons.inj y).1
          omega), iteF ?_⟩
        refine ⟨_, rfl, _, i.toNat, rfl, Tx.numS_tl z, ?_, fun H1 s1 => q _ s1⟩
        have := numL_30 (n := i.toNat) (by
          have := hi.2
          have := p30
          have q : (10 : Nat) ^ 30 = 1000000000000000000000000000000 := by decide
          omega)
        rw [TL.len_tl, Tx.numS_tl z]
        omega
def spSign : Sp := fun vs H Q _ => ∃ d : Bool, vs = [.str (wayS d)] ∧ Q (.str (signW d)) H
theorem ok_way_sign (a : At K mg "way_sign" s_way_sign ["way"]) : Cl P w K mg base 1 "way_sign" spSign := by
  refine clG a sc_way_sign (fun vs H Q E h => ?_) (fun f cdv A outer s H vs Q hg hr h => ?_)
  · obtain ⟨d, rfl, _⟩ := h
    rfl
  · obtain ⟨d, rfl, q⟩ := h
    refine ⟨_, (pss_one (ps_ret (pe_ifExp (pt_cmpR op_eq (pv 0) pe_str (nomark _)) pe_str pe_str))), ?_⟩
    refine ⟨_, rfl, rfl, d, by rw [wayS_down], ?_⟩
    cases d with
    | true => exact iteT q
    | false => exact iteF q
theorem log_low {i : Int} (h : LowN i) : i.natAbs.log2 < 1920 := by
  have h : i.natAbs < 2 ^ 200 := by
    have := h.1
    have := h.2
    have := p30
    have q : (2 : Nat) ^ 200 > 1000000000000000000000000000000 := by decide
    omega
  have h2 : i.natAbs.log2 < 200 := by
    by_cases z : i.natAbs = 0
    · rw [z]; decide
    · exact (Nat.log2_lt z).mpr h
  omega
def spEvT : Sp := fun vs H Q _ => ∃ (b : Addr) (e : Ev), vs = [.ref b] ∧ H b = some (.tup (evV e)) ∧ EvLow e ∧ Q (.str (evT e)) H
theorem ok_event_text (a : At K mg "event_text" s_event_text ["event"]) (c_way_sign : Cl P w K mg base 1 "way_sign" spSign) : Cl P w K mg base 2 "event_text" spEvT := by
  refine clG a sc_event_text (fun vs H Q E h => ?_) (fun f cdv A outer s H vs Q hg hr h => ?_)
  · obtain ⟨b, e, rfl, _⟩ := h
    rfl
  · obtain ⟨b, e, rfl, hb, he, q⟩ := h
    refine ⟨_, (pss_cons (ps_asg (pv 0) (pg_tup rfl (pgs_cons (pg_name (i := 1) sc_event_text.nd rfl (Or.inl rfl)) (pgs_cons (pg_name (i := 2) sc_event_text.nd rfl (Or.inl rfl)) (pgs_cons (pg_name (i := 3) sc_event_text.nd rfl (Or.inl rfl)) pgs_nil)))))
      (pss_one (ps_ret (pe_joined (PJ.cons (pe_fmt (pv 2)) (PJ.cons (pe_fmt (pe_cl c_way_sign hg hr (by decide) (by rfl) (pa_cons (pv 3) pa_nil))) (PJ.cons (pe_fmt (pv 1)) PJ.nil))))))), ?_⟩
    refine ⟨_, rfl, b, _, rfl, SqT.of hb, rfl, _, _, rfl, _, _, rfl, _, _, rfl, rfl, ?_⟩
    have l1 : (Str.empty ++ Tx.numS e.k).length ≤ 31 := by rw [Tx.empty_app]; exact num_len he.k
    have l2 : (Str.empty ++ Tx.numS e.k ++ signW e.d).length ≤ 32 := by rw [Tx.len_app, sign_len]; omega
    have l3 : (Str.empty ++ Tx.numS e.k ++ signW e.d ++ Tx.numS e.t).length ≤ 63 := by rw [Tx.len_app]; have := num_len he.t; omega
    refine ⟨_, rfl, .inr ⟨e.k, rfl, log_low he.k, _, rfl, (by rw [sizeLine_eq]; exact Nat.le_trans l1 (by decide)), _, rfl, e.d, rfl, .inl ⟨_, rfl, (by rw [sign_len, sizeLine_eq]; omega), _, rfl, (by rw [sizeLine_eq]; exact Nat.le_trans l2 (by decide)), _, rfl, .inr ⟨e.t, rfl, log_low he.t, _, rfl, (by rw [sizeLine_eq]; exact Nat.le_trans l3 (by decide)), ?_⟩⟩⟩⟩
    have ee : Str.empty ++ Tx.numS e.k ++ signW e.d ++ Tx.numS e.t = evT e := by rw [Tx.empty_app]; rfl
    show Q (.str (Str.empty ++ Tx.numS e.k ++ signW e.d ++ Tx.numS e.t)) H
    rw [ee]
    exact q
def spEvOf : Sp := fun vs H Q _ => ∃ e : Ev, vs = [.str (evT e)] ∧ EvLow e ∧ ∀ (H' : Hp) (b : Addr), Same H H' → H b = none → H' b = some (.tup (evV e)) → Q (.ref b) H'
theorem ok_event_of (bt : Bt mg) (a : At K mg "event_of" s_event_of ["word"]) (c_way_sign : Cl P w K mg base 1 "way_sign" spSign) (c_is_number : Cl P w K mg base 1 "is_number" spNum) (c_is_signed_number : Cl P w K mg base 2 "is_signed_number" spSNum) : Cl P w K mg base 3 "event_of" spEvOf := by
  refine clG a sc_event_of (fun vs H Q E h => ?_) (fun f cdv A outer s H vs Q hg hr h => ?_)
  · obtain ⟨e, rfl, _⟩ := h
    rfl
  · obtain ⟨e, rfl, he, q⟩ := h
    refine ⟨_, (C8.pss_cut (ps_set (i := 1) sc_event_of.nd rfl (Or.inl rfl) (pe_ifExp (pt_cmpR op_in_sign pe_str (pv 0) rfl) pe_str pe_str))
      (pss_cons (ps_asg (pe_bm PySem.F.plainAttrs_str PySem.F.slot_str_partition PySem.F.type_str_partition mt_partition (pv 0) (pa_cons (pe_cl c_way_sign hg hr (by decide) (by rfl) (pa_cons (pv 1) pa_nil)) pa_nil)) (pg_tup rfl (pgs_cons (pg_name (i := 2) sc_event_of.nd rfl (Or.inl rfl)) (pgs_cons (pg_name (i := 3) sc_event_of.nd rfl (Or.inl rfl)) (pgs_cons (pg_name (i := 4) sc_event_of.nd rfl (Or.inl rfl)) pgs_nil)))))
      (C8.pss_cut (ps_if (PW.pt (pw_or (pt_not (pt_val (pe_cl c_is_number hg hr (by decide) (by rfl) (pa_cons (pv 2) pa_nil)))) (pw_or1 (pt_not (pt_val (pe_cl c_is_signed_number hg hr (by decide) (by rfl) (pa_cons (pv 4) pa_nil))))))) (pss_one (ps_ret pe_non)) pss_nil)
      (pss_one (ps_ret (pe_tup (pa_cons (pe_callTy call_int_str (by rfl) bt.m_int (by decide +kernel) (pa_cons (pv 4) pa_nil)) (pa_cons (pe_callTy call_int_str (by rfl) bt.m_int (by decide +kernel) (pa_cons (pv 2) pa_nil)) (pa_cons (pv 1) pa_nil))))))))), ?_⟩
    have eP : (("+" : String) : Str) = ⟨#[43]⟩ := by decide +kernel
    have lw := ev_len he
    have low : sizeLine = 16777216 := sizeLine_eq
    refine ⟨fun σ' H' => (∃ y2 y3 y4, σ' = [some (.str (evT e)), some (.str (wayS e.d)), y2, y3, y4]) ∧ H' = H, ?_, ?_⟩
    · refine ⟨_, rfl, 43, _, congrArg V.str eP, rfl, e.d, congrArg V.bl plus_in, ?_⟩
      cases hd : e.d with
      | true => exact iteT ⟨⟨_, _, _, rfl⟩, rfl⟩
      | false => exact iteF ⟨⟨_, _, _, rfl⟩, rfl⟩
    rintro σ' H' ⟨⟨y2, y3, y4, rfl⟩, rfl⟩
    have lk := num_len he.k
    have lt := num_len he.t
    refine ⟨_, rfl, rfl, _, rfl, e.d, rfl, _, _, rfl, rfl, by rw [sign_len]; rfl, by omega, fun p1 np1 => ?_⟩
    rw [ev_part he]
    refine ⟨p1, _, rfl, SqT.of upd_same, rfl, _, _, rfl, _, _, rfl, _, _, rfl, rfl, ?_⟩
    have k0 := he.k0
    have k30 : (Tx.numS e.k).length ≤ 30 := by
      rw [TL.len_tl, Tx.numS_tl k0]
      refine numL_30 ?_
      have := he.k1
      have := p30
      have q : (10 : Nat) ^ 30 = 1000000000000000000000000000000 := by decide
      omega
    have kp := same_upd (o := .tup [V.str (Tx.numS e.k), .str (signW e.d), .str (Tx.numS e.t)]) np1
    refine ⟨fun σ' H2 => σ' = [some (.str (evT e)), some (.str (wayS e.d)), some (.str (Tx.numS e.k)), some (.str (signW e.d)), some (.str (Tx.numS e.t))] ∧ Same H' H2, ?_, ?_⟩
    · exact ⟨_, rfl, Tx.numS e.k, e.k.toNat, rfl, Tx.numS_tl k0, k30, fun H2 s2 => ⟨_, rfl, iteF ⟨_, rfl, e.t, rfl, he.t, fun H3 s3 => ⟨_, rfl, iteF ⟨rfl, kp.trans (s2.trans s3)⟩⟩⟩⟩⟩
    rintro σ' H2 ⟨rfl, s2⟩
    refine ⟨_, rfl, Tx.numS e.t, e.t, rfl, num_int he.t, by omega, _, rfl, Tx.numS e.k, e.k, rfl, num_int he.k, by omega, _, rfl, (by show 3 ≤ sizeLine; decide), fun p np => ?_⟩
    exact q _ p (s2.trans (same_upd np)) (none_back s2 np) upd_same
end
end K86

set_option Elab.async false
set_option linter.all false
set_option maxRecDepth 100000
set_option maxHeartbeats 8000000
namespace K86
open PySem PySem.Spec PyProof.Rows L2 Gd Rm La Cb Pl
theorem two_go {T : Prop} {A C : Hp → V → Prop} (f : (∀ H v, A H v → C H v) → T) (g : ∀ H v, A H v → C H v) : T := f g
theorem get_map_str {ws : List Str} {i : Nat} {c : Str} (h : ws[i]? = some c) : (ws.map V.str)[i]? = some (.str c) := by rw [List.getElem?_map, h]; rfl
theorem lens_sum {ps : List Str} {k : Nat} (h : ∀ p ∈ ps, p.length ≤ k) : (ps.map (·.length)).sum + ps.length * 1 ≤ ps.length * (k + 1) := by
  have := Tx.sum_le h
  rw [Nat.mul_add, Nat.mul_one]
  omega
theorem rec_lens {es : List Ev} (h : ∀ e ∈ es, EvLow e) (hl : es.length ≤ 400) : ((es.map evT).map (·.length)).sum + (es.map evT).length * ((" " : String) : Str).length ≤ 16777216 := by
  rw [Tx.sp_len]
  have := lens_sum (ps := es.map evT) (k := 63) fun p hp => by
    obtain ⟨e, he, rfl⟩ := List.mem_map.mp hp
    exact ev_len (h e he)
  rw [List.length_map] at this ⊢
  omega
section
variable {P : Program} {w : World} {K : PySem.W.Frag} {mg : Str → Option Value} {base : Heap}
def spFmtR : Sp := fun vs H Q _ => ∃ (c : Addr) (es : List Ev), vs = [.ref c] ∧ Lst evV H c es ∧ Valid es ∧ es.length ≤ 400 ∧ (∀ e ∈ es, EvLow e) ∧ ∀ H', Same H H' → Q (.str (recT es)) H'
theorem ok_format_record (a : At K mg "format_record" s_format_record ["record"]) (c_check_record : ClD P w K mg base 4 "check_record" spCheckN [.non]) (c_event_text : Cl P w K mg base 2 "event_text" spEvT) : Cl P w K mg base 5 "format_record" spFmtR := by
  refine clG a sc_format_record (fun vs H Q E h => ?_) (fun f cdv A outer s H vs Q hg hr h => ?_)
  · obtain ⟨c, es, rfl, _⟩ := h
    rfl
  · obtain ⟨c, es, rfl, hL, hV, hl, he, q⟩ := h
    refine ⟨_, (pss_cons (ps_expr (pe_clD c_check_record hg hr (by decide) (by rfl) (pa_cons (pv 0) pa_nil)))
      (pss_one (ps_ret (pe_bm PySem.F.plainAttrs_str PySem.F.slot_str_join PySem.F.type_str_join mt_join pe_str (pa_cons (pe_lc (own := [("event", 1)]) (g := (gName 1)) (by rfl) sc_format_record.nd (pi_list (pv 0)) (blkOk_by (N := n_format_record) (sc := defScope s_format_record) (by decide +kernel)) (fun _ _ _ _ _ => (pg_name (i := 1) sc_format_record.nd rfl (Or.inl rfl))) (fun _ _ _ _ _ => pts_nil) (fun _ _ _ _ _ => (pe_cl c_event_text hg hr (by decide) (by rfl) (pa_cons (pv 1) pa_nil)))) pa_nil))))), ?_⟩
    refine ⟨_, rfl, c, es, rfl, hL, hV, hl, fun H1 s1 => ?_⟩
    obtain ⟨as, hc, hT⟩ := hL.same s1
    refine ⟨rfl, _, rfl, c, rfl, ⟨_, SqL.of hc⟩, fun M nM => lc_it (walk_list (xs := as.map V.ref)) (fun j H' => Same H1 H' ∧ H' M = some (.lst (((es.take j).map evT).map V.str))) ⟨same_upd nM, upd_same⟩ (fun j H' _ p => SqL.of (p.1 _ _ hc)) (fun j x Hx Hy hj p y => ?_) (fun H3 p => ?_)⟩
    · obtain ⟨sx, hM⟩ := p
      obtain ⟨rfl, hx⟩ := y
      have hj' : j < es.length := by rw [List.length_map] at hj; rw [← hT.1]; exact hj
      obtain ⟨b, hb, hbt⟩ := hT.at_ hj'
      have ex : V.ref b = x := Option.some.inj ((by rw [List.getElem?_map, hb]; rfl : (as.map V.ref)[j]? = some (.ref b)).symm.trans hx)
      subst ex
      refine ⟨rfl, _, rfl, b, es[j], rfl, sx _ _ hbt, he _ (List.getElem_mem hj'), _, hM, small1000 (by rw [List.length_map, List.length_map, List.length_take]; omega), Same.off sx nM off_upd, ?_⟩
      rw [upd_same, List.take_add_one, List.getElem?_eq_getElem hj', List.map_append, List.map_append]
      rfl
    · obtain ⟨sx, hM⟩ := p
      rw [show (as.map V.ref).length = es.length by rw [List.length_map]; exact hT.1, List.take_length] at hM
      exact ⟨_, M, es.map evT, rfl, rfl, .inl (SqL.of hM), rec_lens he hl, q _ (s1.trans sx)⟩
def spParseR : Sp := fun vs H Q _ => ∃ es : List Ev, vs = [.str (recT es)] ∧ Valid es ∧ es.length ≤ 400 ∧ (∀ e ∈ es, EvLow e) ∧ ∀ (H' : Hp) (p : Addr), Same H H' → H p = none → Lst evV H' p es → Q (.ref p) H'
theorem ok_parse_record (bt : Bt mg) {tk : Tok} (m_MOST_EVENTS : mg "MOST_EVENTS" = some (.int 400 tk)) (a : At K mg "parse_record" s_parse_record ["text"]) (c_event_of : Cl P w K mg base 3 "event_of" spEvOf) (c_can_follow : Cl P w K mg base 2 "can_follow" spFollow) : Cl P w K mg base 4 "parse_record" spParseR := by
  refine clG a sc_parse_record (fun vs H Q E h => ?_) (fun f cdv A outer s H vs Q hg hr h => ?_)
  · obtain ⟨es, rfl, _⟩ := h
    rfl
  · obtain ⟨es, rfl, hV, hl, he, q⟩ := h
    refine ⟨_, (pss_cons (ps_if (pt_not (pt_val (pe_callB call_isi (by rfl) bt.m_isinstance (by decide +kernel) (pa_cons (pv 0) (pa_cons (pe_bltn (v := .ty "str") (by rfl) bt.m_str (by decide +kernel) rfl) pa_nil))))) pss_never pss_nil)
      (pss_cons (ps_par (i := 1) (j := 2) rfl sc_parse_record.nd rfl rfl (by decide) rfl rfl (pa_cons (pe_lst pa_nil) (pa_cons pe_dnewK pa_nil)) (by rfl))
      (pss_cons (ps_for PassesOwn.never rfl (pi_enum (by rfl) bt.m_enumerate (pa_cons (pe_ifExp (pt_truth (pv 0) (by intro _; rfl)) (pe_bm PySem.F.plainAttrs_str PySem.F.slot_str_split PySem.F.type_str_split mt_split (pv 0) (pa_cons pe_str pa_nil)) (pe_lst pa_nil)) pa_nil)) (pg_tup rfl (pgs_cons (pg_name (i := 3) sc_parse_record.nd rfl (Or.inl rfl)) (pgs_cons (pg_name (i := 4) sc_parse_record.nd rfl (Or.inl rfl)) pgs_nil))) (pss_cons (ps_set (i := 5) sc_parse_record.nd rfl (Or.inl rfl) (pe_cl c_event_of hg hr (by decide) (by rfl) (pa_cons (pv 4) pa_nil)))
      (C8.pss_cut (ps_set (i := 6) sc_parse_record.nd rfl (Or.inl rfl) (pe_ifExp (pt_truth (pv 1) (by intro _; rfl)) (pe_ix ix_list (pv 1) (pe_un un_neg pe_int) (fun _ _ => rfl)) pe_non))
      (C8.pss_cut (ps_if (PW.pt (pw_or (pt_cmpR op_eq (pv 3) (pe_glob (v := .int 400) (by rfl) m_MOST_EVENTS ⟨_, rfl⟩) (nomark _)) (pw_or (pt_cmpR op_isN (pv 5) pe_non (nomark _)) (pw_or1 (pt_not (pt_val (pe_cl c_can_follow hg hr (by decide) (by rfl) (pa_cons (pv 5) (pa_cons (pv 6) (pa_cons (pv 2) pa_nil)))))))))) pss_never pss_nil)
      (pss_one (ps_expr (pe_bm PySem.F.plainAttrs_list PySem.F.slot_list_append PySem.F.type_list_append mt_append (pv 1) (pa_cons (pv 5) pa_nil))))))))
      (pss_one (ps_ret (pv 1)))))), ?_⟩
    have rl := rec_len he
    refine ⟨_, rfl, _, _, _, _, true, rfl, .ty "str", .base (.str _), kit_ty (by decide +kernel), _, rfl, iteF ?_⟩
    refine ⟨Nat.zero_le _, fun R nR D nD => ⟨_, _, rfl, ?_⟩⟩
    have kR := same_upd (o := .lst []) nR
    have kD := same_upd (o := .dK []) nD
    have s0 := kR.trans kD
    have hR0 := kD _ _ (upd_same (H := H) (a := R) (o := .lst []))
    have hD0 := upd_same (H := upd H R (.lst [])) (a := D) (o := .dK [])
    have nD0 : H D = none := none_back kR nD
    have RD : R ≠ D := ne_of_none (upd_same (H := H) (a := R) (o := .lst [])) nD
    generalize upd (upd H R (.lst [])) D (.dK []) = H0 at s0 hR0 hD0 ⊢
    apply two_go (A := fun H1 v => ∃ W, v = .ref W ∧ Same H0 H1 ∧ H1 W = some (.lst ((es.map evT).map V.str)))
    · intro go
      by_cases hne : es = []
      · refine ⟨_, rfl, false, ⟨by rw [hne, sizeLine_eq]; decide +kernel, by rw [hne]; rfl⟩, iteF ⟨Nat.zero_le _, fun W nW => ?_⟩⟩
        have fact : ∃ W', V.ref W = .ref W' ∧ Same H0 (upd H0 W (.lst [])) ∧ upd H0 W (.lst []) W' = some (.lst ((es.map evT).map V.str)) := ⟨W, rfl, same_upd nW, by rw [hne]; exact upd_same⟩
        generalize V.ref W = v at fact ⊢
        generalize upd H0 W (.lst []) = H1 at fact ⊢
        exact go H1 v fact
      · have hp := rec_pos hne
        refine ⟨_, rfl, true, ⟨by rw [sizeLine_eq]; omega, ?_⟩, iteT ⟨_, rfl, rfl, _, _, rfl, rfl, by decide +kernel, by rw [sizeLine_eq]; omega, fun W nW => ?_⟩⟩
        · have : (recT es).length ≠ 0 := by omega
          simp [this]
        · rw [rec_split hne]
          have fact : ∃ W', V.ref W = .ref W' ∧ Same H0 (upd H0 W (.lst ((es.map evT).map V.str))) ∧ upd H0 W (.lst ((es.map evT).map V.str)) W' = some (.lst ((es.map evT).map V.str)) := ⟨W, rfl, same_upd nW, upd_same⟩
          generalize V.ref W = v at fact ⊢
          generalize upd H0 W (.lst ((es.map evT).map V.str)) = H1 at fact ⊢
          exact go H1 v fact
    rintro H1 v ⟨W, rfl, s1, hW⟩
    refine ⟨W, _, rfl, SqL.of hW, for_it (walk_enum (xs := (es.map evT).map V.str)) (fun i σ H' => (∃ y3 y4 y5 y6, σ = [some (.str (recT es)), some (.ref R), some (.ref D), y3, y4, y5, y6]) ∧ Same H H' ∧ H' W = some (.lst ((es.map evT).map V.str)) ∧ Lst evV H' R (es.take i) ∧ ∃ kvs, H' D = some (.dK kvs) ∧ kvs.length ≤ i ∧ HeldK kvs (heldB (es.take i)))
      ⟨⟨_, _, _, _, rfl⟩, s0.trans s1, hW, ⟨[], s1 _ _ hR0, Tups.nil⟩, [], s1 _ _ hD0, Nat.le_refl _, HeldK.nil⟩ (fun i σ H' _ p => SqL.of p.2.2.1) (fun i x σ Hx Hy hi p y => ?_) (fun σ H2 p => ?_)⟩
    · obtain ⟨⟨y3, y4, y5, y6, rfl⟩, sx, hWx, ⟨as, hRx, hT⟩, kvs, hD, hkl, hk⟩ := p
      obtain ⟨T, u, v, rfl, nT, rfl, e1, e2⟩ := y
      have hi' : i < es.length := by rw [List.length_map, List.length_map] at hi; exact hi
      have hq : es[i]? = some es[i] := List.getElem?_eq_getElem hi'
      have e2' : v = .str (evT es[i]) := by
        have e2 : ((es.map evT).map V.str)[i]? = some v := e2
        rw [get_map_str (c := evT es[i]) (by rw [List.getElem?_map, hq]; rfl)] at e2
        exact (Option.some.inj e2).symm
      subst e2'
      have e1' : u = .int (i : Nat) := (Option.some.inj e1).symm
      subst e1'
      have kT := same_upd (o := .tup [.int (i : Nat), .str (evT es[i])]) nT
      obtain ⟨v1, v2, v3⟩ := hV i _ hq
      refine ⟨T, _, rfl, SqT.of upd_same, rfl, _, _, rfl, _, _, rfl, rfl, ?_⟩
      refine ⟨_, rfl, es[i], rfl, he _ (List.getElem_mem hi'), fun H4 b s4 nb hb => ?_⟩
      have sT := kT.trans s4
      have hR4 := sT _ _ hRx
      have hD4 := sT _ _ hD
      have hW4 := sT _ _ hWx
      have sx4 := sx.trans sT
      have hT4 := hT.same sT
      have hal := hT.1
      rw [List.length_take] at hal
      refine ⟨fun σ' H' => ∃ lv : V, σ' = [some (.str (recT es)), some (.ref R), some (.ref D), some (.int (i : Nat)), some (.str (evT es[i])), some (.ref b), some lv] ∧ H' = H4 ∧ (lv = .non ∨ ∃ (b' : Addr) (e' : Ev), lv = .ref b' ∧ H4 b' = some (.tup (evV e')) ∧ e'.t ≤ es[i].t), ?_, ?_⟩
      · rcases Nat.eq_zero_or_pos i with hz | hp
        · have e0 : as = [] := List.length_eq_zero_iff.mp (by omega)
          rw [e0] at hR4
          exact ⟨_, rfl, false, .inl ⟨[], SqL.of hR4, rfl⟩, iteF ⟨_, rfl, rfl, .inl rfl⟩⟩
        · have hjl : i - 1 < (es.take i).length := by rw [List.length_take]; omega
          obtain ⟨b', hb', hbt'⟩ := hT4.at_ hjl
          have hej : (es.take i)[i - 1] = es[i - 1] := by rw [List.getElem_take]
          have hal2 : as.length = i := by omega
          have hne : as.map V.ref ≠ [] := by intro z; have := congrArg List.length z; rw [List.length_map] at this; have h0 : ([] : List V).length = 0 := rfl; omega
          refine ⟨_, rfl, true, .inl ⟨_, SqL.of hR4, by cases hh : as.map V.ref with | nil => exact absurd hh hne | cons _ _ => rfl⟩, iteT ⟨_, rfl, 1, rfl, R, _, -1, .ref b', rfl, rfl, SqL.of hR4, ?_, _, rfl, rfl, .inr ⟨b', es[i - 1], rfl, ?_, ?_⟩⟩⟩
          · refine atI_end ?_
            rw [List.length_map, hal2, List.getElem?_map, hb']
            rfl
          · rw [hej] at hbt'; exact hbt'
          · exact v3 (i - 1) _ (by omega) (List.getElem?_eq_getElem (by omega))
      rintro σ' H' ⟨lv, rfl, rfl, hlv⟩
      have hv : (valV kvs (Sum.inl es[i].k)).getD (.bl false) = .bl (!es[i].d) := by rw [hk.at_, v2]
      have pl := put_len kvs (Sum.inl es[i].k) (.bl es[i].d)
      have D4R : R ≠ D := RD
      refine ⟨fun σ' H5 => σ' = [some (.str (recT es)), some (.ref R), some (.ref D), some (.int (i : Nat)), some (.str (evT es[i])), some (.ref b), some lv] ∧ H5 = upd H' D (.dK (putK kvs (Sum.inl es[i].k) (.bl es[i].d))), ?_, ?_⟩
      · refine ⟨_, rfl, rfl, false, eqI (decide_eq_false (by omega)), iteF ⟨_, rfl, rfl, false, rfl, iteF ⟨_, rfl, _, rfl, _, rfl, b, D, es[i], lv, kvs, rfl, hb, hlv, hD4, small1000 (by omega), hv, true, rfl, iteF ⟨rfl, rfl⟩⟩⟩⟩
      rintro σ' H5 ⟨rfl, rfl⟩
      have tkD : Tk H' (upd H' D (.dK (putK kvs (Sum.inl es[i].k) (.bl es[i].d)))) := fun z xs hz => by
        rw [upd_ne (ne_of hz hD4 (by intro z; cases z))]
        exact hz
      have hR5 : upd H' D (.dK (putK kvs (Sum.inl es[i].k) (.bl es[i].d))) R = some (.lst (as.map V.ref)) := by rw [upd_ne RD]; exact hR4
      have tkR := tk_upd (zs := as.map V.ref ++ [.ref b]) hR5
      refine ⟨_, rfl, .inl ⟨rfl, _, SqL.of hR5⟩, _, rfl, R, _, .ref b, rfl, rfl, hR5, small1000 (by rw [List.length_map]; omega), ⟨_, _, _, _, rfl⟩, Same.off (Same.off sx4 nD0 off_upd) nR off_upd, ?_, ?_, putK kvs (Sum.inl es[i].k) (.bl es[i].d), ?_, by omega, ?_⟩
      · have w1 : W ≠ R := fun z => by
          rw [z, hR4] at hW4
          have := congrArg List.length (HO.lst.inj (Option.some.inj hW4))
          rw [List.length_map, List.length_map, List.length_map] at this
          omega
        have w2 : W ≠ D := ne_of hW4 hD4 (by intro z; cases z)
        rw [upd_ne w1, upd_ne w2]
        exact hW4
      · refine ⟨as ++ [b], by rw [upd_same, List.map_append]; rfl, ?_⟩
        rw [List.take_add_one, hq]
        have t1 := hT4.snoc (a := b) (e := es[i]) hb
        exact ⟨t1.1, fun i a e u v => tkR _ _ (tkD _ _ (t1.2 i a e u v))⟩
      · rw [upd_ne RD.symm]; exact upd_same
      · rw [List.take_add_one, hq]
        exact hk.put
    · obtain ⟨⟨y3, y4, y5, y6, rfl⟩, sx, hWx, hLx, _⟩ := p
      rw [List.length_map, List.length_map, List.take_length] at hLx
      exact ⟨_, rfl, q _ R sx nR hLx⟩
end
end K86

set_option Elab.async false
set_option linter.all false
set_option maxRecDepth 100000
set_option maxHeartbeats 8000000
namespace K86
open PySem PySem.Spec PyProof.Rows L2 Gd Rm La Cb Pl
/-! ### two runs that agree -/
theorem outsT_congr {L L' : List (List Actn)} {es es' : List Ev} {f g : Nat} (h : ∀ i, f ≤ i → i < g → dnT L es i = dnT L' es' i ∧ outM L es i = outM L' es' i) : outsT L es f g = outsT L' es' f g := by
  unfold outsT
  have e1 : (List.range' f (g - f)).filter (fun i => isOut (outM L es i)) = (List.range' f (g - f)).filter (fun i => isOut (outM L' es' i)) := by
    refine List.filter_congr fun i hi => ?_
    obtain ⟨j, hj, rfl⟩ := List.mem_range'.mp hi
    rw [(h _ (by omega) (by omega)).2]
  rw [e1]
  refine List.map_congr_left fun i hi => ?_
  have hi := (List.mem_filter.mp hi).1
  obtain ⟨j, hj, rfl⟩ := List.mem_range'.mp hi
  obtain ⟨a, b⟩ := h (f + 1 * j) (by omega) (by omega)
  rw [a, b]
theorem dnT_zero {L : List (List Actn)} {es : List Ev} (h : 0 < es.length) : dnT L es 0 = later (evAt es 0).t (decD L es 0) := by
  show later (evAt es 0).t ((decL L es es.length).getD 0 none) = _
  rw [decL_at h]
theorem dnT_next {L : List (List Actn)} {es : List Ev} {i : Nat} (h : i + 1 < es.length) : dnT L es (i + 1) = if dnT L es i > later (evAt es (i + 1)).t (decD L es (i + 1)) then dnT L es i else later (evAt es (i + 1)).t (decD L es (i + 1)) := by
  show (if dnF es (decL L es es.length) i > later (evAt es (i + 1)).t ((decL L es es.length).getD (i + 1) none) then _ else _) = _
  rw [decL_at h]
  rfl
theorem dnT_cong {L L' : List (List Actn)} {es es' : List Ev} : ∀ {i : Nat}, i < es.length → i < es'.length → (∀ j, j ≤ i → (evAt es j).t = (evAt es' j).t ∧ decD L es j = decD L' es' j) → dnT L es i = dnT L' es' i
  | 0, h, h', e => by
    rw [dnT_zero h, dnT_zero h', (e 0 (Nat.le_refl _)).1, (e 0 (Nat.le_refl _)).2]
  | i + 1, h, h', e => by
    have ih := dnT_cong (L := L) (L' := L') (es := es) (es' := es') (i := i) (by omega) (by omega) fun j hj => e j (by omega)
    rw [dnT_next h, dnT_next h', ih, (e (i + 1) (Nat.le_refl _)).1, (e (i + 1) (Nat.le_refl _)).2]
/-- one step of two runs that agree so far -/
structure Agr (L L' : List (List Actn)) (es es' : List Ev) (i : Nat) : Prop where
  k : (evAt es i).k = (evAt es' i).k
  d : (evAt es i).d = (evAt es' i).d
  s : runS L es i = runS L' es' i
  x : xAt L es i = xAt L' es' i
  su : (evAt es i).d = true → isDl (xAt L es i) = true → sureM es i (xAt L es i) = sureM es' i (xAt L es i) ∧ tapM es i (sureM es i (xAt L es i)) = tapM es' i (sureM es i (xAt L es i))
theorem Agr.kind {L L' : List (List Actn)} {es es' : List Ev} {i : Nat} (h : Agr L L' es es' i) (hd : (evAt es i).d = true) : kindM es i (xAt L es i) = kindM es' i (xAt L es i) := by
  unfold kindM
  cases hl : isDl (xAt L es i) with
  | false => rfl
  | true =>
    obtain ⟨a, b⟩ := h.su hd hl
    rw [if_pos rfl, if_pos rfl, b, a]
theorem Agr.next {L L' : List (List Actn)} {es es' : List Ev} {i : Nat} (h : Agr L L' es es' i) : runS L es (i + 1) = runS L' es' (i + 1) ∧ outM L es i = outM L' es' i := by
  rcases Bool.eq_false_or_eq_true (evAt es i).d with hd | hd
  · have hd' : (evAt es' i).d = true := by rw [← h.d]; exact hd
    rw [runS_dn hd, runS_dn hd']
    unfold outM
    rw [if_pos hd, if_pos hd', ← h.s, ← h.k, ← h.x, h.kind hd]
    exact ⟨rfl, rfl⟩
  · have hd' : (evAt es' i).d = false := by rw [← h.d]; exact hd
    rw [runS_up hd, runS_up hd']
    unfold outM
    rw [if_neg (by rw [hd]; decide), if_neg (by rw [hd']; decide), ← h.s, ← h.k]
    exact ⟨rfl, rfl⟩
/-! ### a record that is cut -/
theorem evAt_take {es : List Ev} {c i : Nat} (h : i < c) : evAt (es.take c) i = evAt es i := by
  unfold evAt
  rw [List.getD_eq_getElem?_getD, List.getD_eq_getElem?_getD, List.getElem?_take, if_pos h]
theorem sure_take {es : List Ev} {c i : Nat} {x : Actn} (hi : i < c) (hc : c ≤ es.length) : sureM (es.take c) i x = (sureM es i x).bind fun n => if n < c then some n else none := by
  have hl : (es.take c).length = c := by rw [List.length_take]; omega
  have e1 := sure_q (es := es) (f := i) (k := c) (x := x) hi hc
  have e2 := sure_q (es := es.take c) (f := i) (k := c) (x := x) hi (by omega)
  have eq : quE (es.take c) i c = quE es i c := by unfold quE; rw [List.take_take, Nat.min_self]
  rw [eq, e1] at e2
  cases h : sureM (es.take c) i x with
  | none =>
    rw [h] at e2
    cases g : sureM es i x with
    | none => rfl
    | some n =>
      rw [g] at e2
      have e2 : (if n < c then some (n - i) else none) = none := e2
      show none = if n < c then some n else none
      by_cases z : n < c
      · rw [if_pos z] at e2; cases e2
      · rw [if_neg z]
  | some k =>
    obtain ⟨k1, k2⟩ := sureM_lt h
    rw [hl] at k2
    rw [h] at e2
    cases g : sureM es i x with
    | none =>
      rw [g] at e2
      have e2 : none = (if k < c then some (k - i) else none) := e2
      rw [if_pos k2] at e2
      cases e2
    | some n =>
      obtain ⟨n1, n2⟩ := sureM_lt g
      rw [g] at e2
      have e2 : (if n < c then some (n - i) else none) = (if k < c then some (k - i) else none) := e2
      rw [if_pos k2] at e2
      show some k = if n < c then some n else none
      by_cases z : n < c
      · rw [if_pos z] at e2 ⊢
        have := Option.some.inj e2
        exact congrArg some (by omega)
      · rw [if_neg z] at e2; cases e2
def Agree (L L' : List (List Actn)) (es es' : List Ev) (i : Nat) : Prop := runS L es i = runS L' es' i ∧ ∀ j, j < i → dnT L es j = dnT L' es' j ∧ outM L es j = outM L' es' j ∧ decD L es j = decD L' es' j
theorem Agree.step {L L' : List (List Actn)} {es es' : List Ev} {i : Nat} (h : Agree L L' es es' i) (hi : i < es.length) (hi' : i < es'.length) (ht : ∀ j, j ≤ i → (evAt es j).t = (evAt es' j).t) (A : Agr L L' es es' i) (hd : decD L es i = decD L' es' i) : Agree L L' es es' (i + 1) := by
  obtain ⟨n1, n2⟩ := A.next
  have hdec : ∀ j, j ≤ i → decD L es j = decD L' es' j := fun j hj => by
    rcases Nat.lt_or_ge j i with q | q
    · exact (h.2 j q).2.2
    · rw [show j = i by omega]; exact hd
  refine ⟨n1, fun j hj => ?_⟩
  refine ⟨dnT_cong (by omega) (by omega) fun k hk => ⟨ht k (by omega), hdec k (by omega)⟩, ?_, hdec j (by omega)⟩
  rcases Nat.lt_or_ge j i with q | q
  · exact (h.2 j q).2.1
  · rw [show j = i by omega]; exact n2
theorem xAt_same {L : List (List Actn)} {es es' : List Ev} {i : Nat} (hs : runS L es i = runS L es' i) (hk : (evAt es i).k = (evAt es' i).k) : xAt L es i = xAt L es' i := by
  unfold xAt
  rw [hs, hk]
def mvE (s : Int) (e : Ev) : Ev := ⟨e.t + s, e.k, e.d⟩
def mv (s : Int) (es : List Ev) : List Ev := es.map (mvE s)
theorem mv_at {s : Int} {es : List Ev} {i : Nat} (h : i < es.length) : evAt (mv s es) i = mvE s (evAt es i) := by
  unfold evAt mv
  rw [List.getD_eq_getElem?_getD, List.getD_eq_getElem?_getD, List.getElem?_map, List.getElem?_eq_getElem h]
  rfl
theorem mv_len {s : Int} {es : List Ev} : (mv s es).length = es.length := by unfold mv; rw [List.length_map]
theorem mv_valid {s : Int} {es : List Ev} (h : Valid es) : Valid (mv s es) := fun i e x => by
  unfold mv at x
  rw [List.getElem?_map] at x
  cases y : es[i]? with
  | none => rw [y] at x; cases x
  | some e0 =>
    rw [y] at x
    have x : mvE s e0 = e := Option.some.inj x
    subst x
    obtain ⟨a, b, c⟩ := h i e0 y
    refine ⟨a, ?_, fun j e' hj z => ?_⟩
    · unfold mv
      rw [← List.map_take]
      have : ∀ l : List Ev, heldB (l.map (mvE s)) = heldB l := fun l => by
        unfold heldB
        rw [List.foldl_map]
        rfl
      rw [this]
      exact b
    · unfold mv at z
      rw [List.getElem?_map] at z
      cases y2 : es[j]? with
      | none => rw [y2] at z; cases z
      | some g' =>
        rw [y2] at z
        have z : mvE s g' = e' := Option.some.inj z
        subst z
        have := c j g' hj y2
        show g'.t + s ≤ e0.t + s
        omega
end K86

set_option Elab.async false
set_option linter.all false
set_option maxRecDepth 100000
set_option maxHeartbeats 8000000
namespace K86
open PySem PySem.Spec PyProof.Rows L2 Gd Rm La Cb Pl
/-! ### a beginning of a record -/
section
variable {L : List (List Actn)} {es : List Ev} {c i : Nat}
/-- no event of the own key ahead of the deciding one -/
theorem decEv_own {own : Int} {r : Str} : ∀ {es : List Ev} {inner : List Int} {n : Nat}, decEv own r inner es = some n → ∀ j, j < n → ∀ e, es[j]? = some e → e.k ≠ own
  | [], inner, n, h, _, _, _, _ => by cases h
  | e :: es, inner, n, h, j, hj, x, hx => by
    unfold decEv at h
    have step : ∀ l, (decEv own r l es).map (· + 1) = some n → ¬ e.k = own → x.k ≠ own := fun l hl ne => by
      cases hd : decEv own r l es with
      | none => rw [hd] at hl; cases hl
      | some m =>
        rw [hd] at hl
        have hm : m + 1 = n := Option.some.inj hl
        cases j with
        | zero =>
          have : e = x := Option.some.inj hx
          rw [← this]
          exact ne
        | succ j => exact decEv_own hd j (by omega) x hx
    by_cases c1 : e.k = own ∨ r = ("other" : String) ∧ e.d = true
    · rw [if_pos c1] at h
      have : 0 = n := Option.some.inj h
      omega
    · rw [if_neg c1] at h
      have ne : ¬ e.k = own := fun z => c1 (.inl z)
      by_cases c2 : e.d = true
      · rw [if_pos c2] at h; exact step _ h ne
      · rw [if_neg c2] at h
        by_cases c3 : r = ("within" : String) ∧ e.k ∈ inner
        · rw [if_pos c3] at h
          have : 0 = n := Option.some.inj h
          omega
        · rw [if_neg c3] at h; exact step _ h ne
theorem sure_own {x : Actn} {n : Nat} (h : sureM es i x = some n) : ∀ j, i < j → j < n → (evAt es j).k ≠ (evAt es i).k := by
  intro j h1 h2
  unfold sureM at h
  cases hd : decM es i (ruleOf x) with
  | none => rw [hd] at h; cases h
  | some m =>
    rw [hd] at h
    have hm : m = n := by
      dsimp only at h
      split at h
      · cases h
      · exact Option.some.inj h
    subst hm
    have hl := (decM_lt hd).2
    unfold decM at hd
    cases hv : decEv ((es.getD i ⟨0, 0, false⟩).k) (ruleOf x) [] (es.drop (i + 1)) with
    | none => rw [hv] at hd; cases hd
    | some q =>
      rw [hv] at hd
      have hq : q + (i + 1) = m := Option.some.inj hd
      have := decEv_own hv (j - (i + 1)) (by omega) (evAt es j) (by
        rw [List.getElem?_drop, show i + 1 + (j - (i + 1)) = j by omega, List.getElem?_eq_getElem (by omega), evAt_eq (by omega)])
      exact this
/-- a key that is down stays down as long as it has no event -/
theorem held_stays {k : Int} : ∀ (m : Nat), i ≤ m → m ≤ es.length → heldB (es.take i) k = true → (∀ j, i ≤ j → j < m → (evAt es j).k ≠ k) → heldB (es.take m) k = true
  | 0, h, _, hk, _ => by rw [show i = 0 by omega] at hk; exact hk
  | m + 1, h, hm, hk, hn => by
    rcases Nat.lt_or_ge m i with q | q
    · rw [show i = m + 1 by omega] at hk; exact hk
    · have ih := held_stays m q (by omega) hk fun j a b => hn j a (by omega)
      rw [heldB_take (List.getElem?_eq_getElem (show m < es.length by omega))]
      unfold after
      have := hn m q (by omega)
      rw [evAt_eq (by omega)] at this
      rw [if_neg (fun z => this z.symm)]
      exact ih
end
end K86

set_option Elab.async false
set_option linter.all false
set_option maxRecDepth 100000
set_option maxHeartbeats 8000000
namespace K86
open PySem PySem.Spec PyProof.Rows L2 Gd Rm La Cb Pl
/-! ### bound keys and codes that are down -/
/-- what a press binds -/
theorem press_bd {s : Sm} {k : Int} {x : Actn} : (press s k x).bd = s.bd ∨ ((press s k x).bd = putB s.bd k x ∧ ((∃ c, x = .code c) ∨ ∃ w j, x = .lay w j)) := by
  cases x with
  | code c => exact .inr ⟨rfl, .inl ⟨c, rfl⟩⟩
  | lay w j =>
    rw [press_lay]
    split
    · exact .inr ⟨rfl, .inr ⟨w, j, rfl⟩⟩
    · split
      · exact .inl rfl
      · exact .inl rfl
  | none => exact .inl rfl
  | thr => exact .inl rfl
  | dualC _ _ _ _ => exact .inl rfl
  | dualL _ _ _ _ => exact .inl rfl
def endM (es : List Ev) (ns : List Int) : List Ev := es ++ ns.map (upAt (lastT es + 1000000000))
theorem endM_len (es : List Ev) (ns : List Int) : (endM es ns).length = es.length + ns.length := by unfold endM; rw [List.length_append, List.length_map]
theorem endM_take (es : List Ev) (ns : List Int) : (endM es ns).take es.length = es := by unfold endM; rw [List.take_left']; rfl
theorem endM_old {es : List Ev} {ns : List Int} {i : Nat} (h : i < es.length) : evAt (endM es ns) i = es[i] := by
  rw [evAt_eq (by rw [endM_len]; omega)]
  unfold endM
  exact List.getElem_append_left h
theorem endM_new {es : List Ev} {ns : List Int} {j : Nat} (h : j < ns.length) : evAt (endM es ns) (es.length + j) = ⟨lastT es + 1000000000, ns[j], false⟩ := by
  rw [evAt_eq (by rw [endM_len]; omega)]
  unfold endM
  rw [List.getElem_append_right (by omega), List.getElem_map]
  congr 2
  omega
theorem le_last {es : List Ev} (hV : Valid es) : ∀ e ∈ es, e.t ≤ lastT es := fun e he => by
  obtain ⟨i, hi⟩ := List.getElem?_of_mem he
  have hil := (List.getElem?_eq_some_iff.mp hi).1
  have hl : es[es.length - 1]? = some es[es.length - 1] := List.getElem?_eq_getElem (by omega)
  have el : lastT es = es[es.length - 1].t := by
    unfold lastT
    rw [List.getLast?_eq_getElem?, hl]
    rfl
  rw [el]
  rcases Nat.lt_or_ge i (es.length - 1) with q | q
  · exact hV.mono i _ _ _ q hi hl
  · have : i = es.length - 1 := by omega
    subst this
    rw [Option.some.inj (hi.symm.trans hl)]
    exact Int.le_refl _
theorem endM_valid {es : List Ev} {ns : List Int} (hV : Valid es) (nd : ns.Nodup) (hm : ∀ k, k ∈ ns ↔ heldB es k = true) : Valid (endM es ns) := by
  refine Valid.ups (t := lastT es + 1000000000) ns hV nd (fun k hk => ⟨(hm k).mp hk, ?_⟩) (fun e he => by have := le_last hV e he; omega)
  obtain ⟨e, he, rfl⟩ := held_mem ((hm k).mp hk)
  obtain ⟨i, hi⟩ := List.getElem?_of_mem he
  exact (hV i e hi).1
theorem endM_none {es : List Ev} {ns : List Int} (hm : ∀ k, k ∈ ns ↔ heldB es k = true) (k : Int) : heldB (endM es ns) k = false := by
  have h := heldB_ups (t := lastT es + 1000000000) ns es k
  have : heldB (endM es ns) k = (heldB es k && !decide (k ∈ ns)) := h
  rw [this]
  cases hk : heldB es k with
  | false => rfl
  | true => rw [decide_eq_true ((hm k).mpr hk)]; rfl
theorem time_le {n i : Int} {x : Actn} (h : ActOk n i x) : timeOf x ≤ 1000000000 := by
  cases x with
  | dualC c d t r => exact h.2.2.1.2
  | dualL c j t r => exact h.2.2.1.2
  | _ => exact (by decide : (0 : Int) ≤ 1000000000)
end K86

set_option Elab.async false
set_option linter.all false
set_option maxRecDepth 100000
set_option maxHeartbeats 8000000
namespace K86
open PySem PySem.Spec PyProof.Rows L2 Gd Rm La Cb Pl
/-! ### a beginning whose duals are all decided within it -/
section
variable {L : List (List Actn)} {es : List Ev} {c : Nat}
theorem cut_all (hc : c ≤ es.length) (H : ∀ i, i < c → (evAt es i).d = true → isDl (xAt L es i) = true → ∀ n, sureM es i (xAt L es i) = some n → n < c) : ∀ i, i ≤ c → Agree L L es (es.take c) i
  | 0, _ => ⟨rfl, fun j h => absurd h (Nat.not_lt_zero _)⟩
  | i + 1, hi => by
    have h := cut_all hc H i (by omega)
    have hl : (es.take c).length = c := by rw [List.length_take]; omega
    have ev : ∀ j, j ≤ i → evAt (es.take c) j = evAt es j := fun j hj => evAt_take (by omega)
    have ht : ∀ j, j ≤ i → (evAt es j).t = (evAt (es.take c) j).t := fun j hj => by rw [ev j hj]
    have ei := ev i (Nat.le_refl _)
    have hx : xAt L es i = xAt L (es.take c) i := xAt_same h.1 (by rw [ei])
    have st := sure_take (es := es) (c := c) (i := i) (x := xAt L es i) (by omega) hc
    by_cases hdl : (evAt es i).d = true ∧ isDl (xAt L es i) = true
    · obtain ⟨hd, hl'⟩ := hdl
      have hd' : (evAt (es.take c) i).d = true := by rw [ei]; exact hd
      have hlx : isDl (xAt L (es.take c) i) = true := by rw [← hx]; exact hl'
      cases hs : sureM es i (xAt L es i) with
      | none =>
        rw [hs] at st
        have st : sureM (es.take c) i (xAt L es i) = none := st
        refine h.step (by omega) (by omega) ht ⟨by rw [ei], by rw [ei], h.1, hx, fun _ _ => ⟨by rw [hs, st], by rw [hs]; rfl⟩⟩ ?_
        rw [dec_some hd hl', dec_some hd' hlx, ← hx, hs, st, ei]
      | some n =>
        have z := H i (by omega) hd hl' n hs
        rw [hs] at st
        have st : sureM (es.take c) i (xAt L es i) = if n < c then some n else none := st
        rw [if_pos z] at st
        refine h.step (by omega) (by omega) ht ⟨by rw [ei], by rw [ei], h.1, hx, fun _ _ => ⟨by rw [hs, st], ?_⟩⟩ ?_
        · rw [hs]
          unfold tapM
          dsimp only
          rw [ei, evAt_take z]
        · rw [dec_some hd hl', dec_some hd' hlx, ← hx, hs, st]
          show some (evAt es n).t = some (evAt (es.take c) n).t
          rw [evAt_take z]
    · have hor : (evAt es i).d = false ∨ isDl (xAt L es i) = false := by
        cases q1 : (evAt es i).d with
        | false => exact .inl rfl
        | true =>
          cases q2 : isDl (xAt L es i) with
          | false => exact .inr rfl
          | true => exact absurd ⟨q1, q2⟩ hdl
      refine h.step (by omega) (by omega) ht ⟨by rw [ei], by rw [ei], h.1, hx, fun a b => absurd ⟨a, b⟩ hdl⟩ ?_
      rw [dec_none hor, dec_none (by rw [ei, ← hx]; exact hor)]
theorem whole_sure {i : Nat} (hc : c ≤ es.length) (hw : ∀ k, heldB (es.take c) k = false) (hi : i < c) (hd : (evAt es i).d = true) {n : Nat} {x : Actn} (hs : sureM es i x = some n) : n < c := by
  rcases Nat.lt_or_ge n c with q | hn
  · exact q
  · exfalso
    have := held_stays (es := es) (i := i + 1) (k := (evAt es i).k) c (by omega) hc (by
      rw [heldB_take (List.getElem?_eq_getElem (show i < es.length by omega))]
      unfold after
      rw [evAt_eq (by omega)] at hd ⊢
      rw [if_pos rfl]
      exact hd) fun j a b => sure_own hs j (by omega) (by omega)
    rw [hw] at this
    cases this
theorem whole_agree (hc : c ≤ es.length) (hw : ∀ k, heldB (es.take c) k = false) : Agree L L es (es.take c) c :=
  cut_all hc (fun i hi hd _ n hs => whole_sure hc hw hi hd hs) c (Nat.le_refl _)
theorem agree_outs (h : Agree L L es (es.take c) c) : outsM L es c = outsM L (es.take c) c := by
  unfold outsM
  refine List.map_congr_left fun i hi => ?_
  exact (h.2 i (List.mem_range.mp hi)).2.1
theorem agree_outsT (h : Agree L L es (es.take c) c) : outsT L es 0 c = outsT L (es.take c) 0 c := outsT_congr fun i _ hi => ⟨(h.2 i hi).1, (h.2 i hi).2.1⟩
end
theorem end_agree {L : List (List Actn)} {es : List Ev} {ns : List Int} {m : Nat} (hO : LayOk L m) (hV : Valid es) (hk : ∀ e ∈ es, e.k < (m : Int)) : Agree L L (endM es ns) ((endM es ns).take es.length) es.length := by
  refine cut_all (by rw [endM_len]; omega) (fun j hj hd _ n h4 => ?_) _ (Nat.le_refl _)
  rcases Nat.lt_or_ge n es.length with q | h5
  · exact q
  · exfalso
    have hn := (sureM_lt h4).2
    rw [endM_len] at hn
    have e1 := endM_old (ns := ns) hj
    obtain ⟨i, rfl⟩ : ∃ i, n = es.length + i := ⟨n - es.length, by omega⟩
    have e2 := endM_new (es := es) (ns := ns) (j := i) (by omega)
    have k0 := (hV j _ (List.getElem?_eq_getElem hj)).1
    have k1 := hk _ (List.getElem_mem hj)
    obtain ⟨_, t2, _⟩ := taken_ok hO (runS L (endM es ns) j) (k := (evAt (endM es ns) j).k.toNat) (by rw [e1]; omega)
    have tl := time_le t2
    have tl : timeOf (xAt L (endM es ns) j) ≤ 1000000000 := tl
    have hle := le_last hV _ (List.getElem_mem hj)
    have b := sure_in h4
    rw [e1, e2] at b
    have b : lastT es + 1000000000 < es[j].t + timeOf (xAt L (endM es ns) j) := b
    omega
/-- what comes out behind a record are releases alone -/
theorem end_rel {L : List (List Actn)} {es : List Ev} {ns : List Int} : ∀ x ∈ outsT L (endM es ns) es.length (endM es ns).length, ∃ c, x.2 = .re c := fun x hx => by
  unfold outsT at hx
  obtain ⟨i, hi, rfl⟩ := List.mem_map.mp hx
  obtain ⟨hi, ho⟩ := List.mem_filter.mp hi
  obtain ⟨j, hj, rfl⟩ := List.mem_range'.mp hi
  rw [endM_len] at hj
  have ev := endM_new (es := es) (ns := ns) (j := 1 * j) (by omega)
  have eo : outM L (endM es ns) (es.length + 1 * j) = outR ((getB (runS L (endM es ns) (es.length + 1 * j)).bd (evAt (endM es ns) (es.length + 1 * j)).k).getD .none) := by
    unfold outM
    rw [if_neg (by rw [ev]; exact Bool.false_ne_true), relO_eq]
  show ∃ c, outM L (endM es ns) (es.length + 1 * j) = .re c
  rw [eo] at ho ⊢
  generalize (getB _ _).getD .none = y at ho ⊢
  cases y with
  | code c => exact ⟨c, rfl⟩
  | _ => cases ho
/-! ### what a whole record leaves -/
theorem held_bd {L : List (List Actn)} {es : List Ev} : ∀ i, i ≤ es.length → ∀ p ∈ (runS L es i).bd, heldB (es.take i) p.1 = true
  | 0, _, p, hp => by cases hp
  | i + 1, hi, p, hp => by
    have ih := held_bd (L := L) (es := es) i (by omega)
    have hq : es[i]? = some es[i] := List.getElem?_eq_getElem (show i < es.length by omega)
    have ev := evAt_eq (es := es) (i := i) (by omega)
    rw [heldB_take hq]
    unfold after
    rcases Bool.eq_false_or_eq_true (evAt es i).d with hd | hd
    · have hd' : es[i].d = true := by rw [← ev]; exact hd
      rw [runS_dn hd] at hp
      have old : p ∈ (runS L es i).bd → (if p.1 = es[i].k then es[i].d else heldB (es.take i) p.1) = true := fun h => by
        by_cases z : p.1 = es[i].k
        · rw [if_pos z]; exact hd'
        · rw [if_neg z]; exact ih p h
      rcases press_bd (s := runS L es i) (k := (evAt es i).k) (x := whatM (xAt L es i) (kindM es i (xAt L es i))) with h | ⟨h, _⟩
      · rw [h] at hp; exact old hp
      · rw [h] at hp
        rcases putB_mem hp with q | q
        · exact old q
        · rw [q, ev, if_pos rfl]; exact hd'
    · rw [runS_up hd] at hp
      have hp : p ∈ dropB (runS L es i).bd (evAt es i).k := hp
      have h2 : p.1 ≠ (evAt es i).k := of_decide_eq_true (List.mem_filter.mp hp).2
      rw [ev] at h2
      rw [if_neg h2]
      exact ih p (dropB_mem hp)
theorem whole_bd {L : List (List Actn)} {es : List Ev} (h : ∀ k, heldB es k = false) : (runS L es es.length).bd = [] := by
  refine List.eq_nil_iff_forall_not_mem.mpr fun p hp => ?_
  have := held_bd es.length (Nat.le_refl _) p hp
  rw [List.take_length, h] at this
  cases this
structure Lk0 (n : Nat) (s : Sm) : Prop where
  l0 : s.lk.getD 0 false = false
  o0 : 0 ≤ s.on
  o1 : s.on < n
theorem lk0 {L : List (List Actn)} {es : List Ev} {m : Nat} (hO : LayOk L m) (hV : Valid es) (hk : ∀ e ∈ es, e.k < (m : Int)) : ∀ i, i ≤ es.length → Lk0 L.length (runS L es i)
  | 0, _ => ⟨by show (List.replicate L.length false).getD 0 false = false; rw [List.getD_eq_getElem?_getD, List.getElem?_replicate]; split <;> rfl, Int.le_refl 0, by have := hO.n1; show (0 : Int) < L.length; omega⟩
  | i + 1, hi => by
    have ih := lk0 hO hV hk i (by omega)
    have n1 := hO.n1
    have ev := evAt_eq (es := es) (i := i) (by omega)
    rcases Bool.eq_false_or_eq_true (evAt es i).d with hd | hd
    · rw [runS_dn hd]
      have k0 := (hV i _ (List.getElem?_eq_getElem (show i < es.length by omega))).1
      have k1 := hk _ (List.getElem_mem (show i < es.length by omega))
      obtain ⟨_, t2, t3⟩ := taken_ok hO (runS L es i) (k := (evAt es i).k.toNat) (by rw [ev]; omega)
      have D := what_do (es := es) (j := i) (n := L.length) (x := xAt L es i) t2 t3
      generalize whatM (xAt L es i) (kindM es i (xAt L es i)) = x at D
      generalize (evAt es i).k = k
      have z : (0 : Int) ≤ 0 ∧ (0 : Int) < (L.length : Int) := by omega
      cases x with
      | code c => exact ⟨ih.l0, z.1, z.2⟩
      | none => exact ⟨ih.l0, z.1, z.2⟩
      | thr => exact D.elim
      | dualC _ _ _ _ => exact D.elim
      | dualL _ _ _ _ => exact D.elim
      | lay w j =>
        obtain ⟨_, d2, d3⟩ := D
        rw [press_lay]
        split
        · exact ⟨ih.l0, z.1, z.2⟩
        · split
          · refine ⟨?_, z.1, z.2⟩
            show ((runS L es i).lk.set j.toNat _).getD 0 false = false
            rw [List.getD_eq_getElem?_getD, List.getElem?_set_ne (by omega), ← List.getD_eq_getElem?_getD]
            exact ih.l0
          · exact ⟨ih.l0, by show 0 ≤ j; omega, d3⟩
    · rw [runS_up hd]
      exact ⟨ih.l0, ih.o0, ih.o1⟩
/-- a whole record that leaves layer 0 alone on leaves nothing -/
theorem back_init {L : List (List Actn)} {es : List Ev} {m : Nat} (hO : LayOk L m) (hV : Valid es) (hk : ∀ e ∈ es, e.k < (m : Int)) (hw : ∀ k, heldB es k = false) (h : onLs (runS L es es.length) L.length = [0]) : runS L es es.length = init L.length := by
  have b := whole_bd (L := L) hw
  have k0 := lk0 hO hV hk es.length (Nat.le_refl _)
  have st := runS_ok hO hV hk es.length (Nat.le_refl _)
  have off : ∀ i, 0 < i → i < L.length → onL (runS L es es.length) i = false := fun i h1 h2 => by
    cases q : onL (runS L es es.length) i with
    | false => rfl
    | true =>
      have : (i : Int) ∈ onLs (runS L es es.length) L.length := List.mem_map.mpr ⟨i, List.mem_filter.mpr ⟨List.mem_range.mpr h2, q⟩, rfl⟩
      rw [h] at this
      have := List.mem_singleton.mp this
      omega
  generalize runS L es es.length = s at b k0 st off
  obtain ⟨lk, on, bd⟩ := s
  have b : bd = [] := b
  subst b
  have e1 : on = 0 := by
    have o0 : 0 ≤ on := k0.o0
    have o1 : on < L.length := k0.o1
    by_cases z : on = 0
    · exact z
    · have := off on.toNat (by omega) (by omega)
      unfold onL at this
      have e : decide (on = ((on.toNat : Nat) : Int)) = true := decide_eq_true (by omega)
      dsimp only at this
      rw [e, Bool.or_true, Bool.true_or] at this
      cases this
  have e2 : lk = List.replicate L.length false := by
    have hl : lk.length = L.length := st.lk
    refine List.ext_getElem? fun i => ?_
    rw [List.getElem?_replicate]
    rcases Nat.lt_or_ge i L.length with q | q
    · rw [if_pos q]
      have g : lk.getD i false = false := by
        rcases Nat.eq_zero_or_pos i with z | z
        · rw [z]; exact k0.l0
        · have := off i z q
          unfold onL at this
          cases y : lk.getD i false with
          | false => rfl
          | true =>
            exfalso
            dsimp only at this
            rw [y] at this
            simp at this
      rw [List.getD_eq_getElem?_getD, List.getElem?_eq_getElem (by omega)] at g
      rw [List.getElem?_eq_getElem (by omega)]
      exact congrArg some g
    · rw [if_neg (by omega), List.getElem?_eq_none (by omega)]
  rw [e1, e2]
  rfl
/-! ### two records one behind the other -/
section
variable {L : List (List Actn)} {one two : List Ev}
theorem app_at {i : Nat} : evAt (one ++ two) (one.length + i) = evAt two i := by
  unfold evAt
  rw [List.getD_eq_getElem?_getD, List.getD_eq_getElem?_getD, List.getElem?_append_right (by omega), Nat.add_sub_cancel_left]
theorem app_dec {i : Nat} {r : Str} : decM (one ++ two) (one.length + i) r = (decM two i r).map (· + one.length) := by
  have e := app_at (one := one) (two := two) (i := i)
  unfold evAt at e
  unfold decM
  rw [e, show one.length + i + 1 = one.length + (i + 1) by omega, ← List.drop_drop, List.drop_left' rfl]
  cases decEv (two.getD i ⟨0, 0, false⟩).k r [] (two.drop (i + 1)) with
  | none => rfl
  | some n => exact congrArg some (by show n + (one.length + (i + 1)) = n + (i + 1) + one.length; omega)
theorem app_sure {i : Nat} {x : Actn} : sureM (one ++ two) (one.length + i) x = (sureM two i x).map (· + one.length) := by
  unfold sureM
  rw [app_dec]
  cases decM two i (ruleOf x) with
  | none => rfl
  | some n =>
    show (if (evAt (one ++ two) (one.length + i)).t + timeOf x ≤ (evAt (one ++ two) (n + one.length)).t then none else some (n + one.length)) = Option.map _ (if (evAt two i).t + timeOf x ≤ (evAt two n).t then none else some n)
    rw [app_at, Nat.add_comm n, app_at]
    by_cases z : (evAt two i).t + timeOf x ≤ (evAt two n).t
    · rw [if_pos z, if_pos z]; rfl
    · rw [if_neg z, if_neg z, Nat.add_comm]; rfl
theorem app_kind {i : Nat} {x : Actn} : kindM (one ++ two) (one.length + i) x = kindM two i x := by
  have e : tapM (one ++ two) (one.length + i) (sureM (one ++ two) (one.length + i) x) = tapM two i (sureM two i x) := by
    rw [app_sure]
    cases sureM two i x with
    | none => rfl
    | some n =>
      show decide ((evAt (one ++ two) (n + one.length)).k = (evAt (one ++ two) (one.length + i)).k) = decide ((evAt two n).k = (evAt two i).k)
      rw [app_at, Nat.add_comm n, app_at]
  unfold kindM
  rw [e]
theorem app_run (h : runS L (one ++ two) one.length = init L.length) : ∀ i, runS L (one ++ two) (one.length + i) = runS L two i
  | 0 => h
  | i + 1 => by
    have ih := app_run h i
    have hx : xAt L (one ++ two) (one.length + i) = xAt L two i := by unfold xAt; rw [ih, app_at]
    rcases Bool.eq_false_or_eq_true (evAt two i).d with hd | hd
    · rw [show one.length + (i + 1) = one.length + i + 1 by omega, runS_dn (by rw [app_at]; exact hd), runS_dn hd, ih, app_at, hx, app_kind]
    · rw [show one.length + (i + 1) = one.length + i + 1 by omega, runS_up (by rw [app_at]; exact hd), runS_up hd, ih, app_at]
theorem app_out (h : runS L (one ++ two) one.length = init L.length) {i : Nat} : outM L (one ++ two) (one.length + i) = outM L two i := by
  have ih := app_run h i
  have hx : xAt L (one ++ two) (one.length + i) = xAt L two i := by unfold xAt; rw [ih, app_at]
  unfold outM
  rw [app_at, hx, app_kind, ih]
theorem app_outs (h : runS L (one ++ two) one.length = init L.length) : (outsM L (one ++ two) (one ++ two).length).drop one.length = outsM L two two.length := by
  refine List.ext_getElem? fun i => ?_
  unfold outsM
  rw [List.getElem?_drop, List.getElem?_map, List.getElem?_map, List.length_append]
  rcases Nat.lt_or_ge i two.length with q | q
  · rw [List.getElem?_range (by omega), List.getElem?_range q]
    exact congrArg some (app_out h)
  · rw [List.getElem?_eq_none (by rw [List.length_range]; omega), List.getElem?_eq_none (by rw [List.length_range]; omega)]
    rfl
theorem held_app (h : ∀ k, heldB one k = false) : heldB (one ++ two) = heldB two := by
  unfold heldB
  rw [List.foldl_append]
  have e : one.foldl after (fun _ => false) = fun _ => false := funext h
  rw [e]
theorem valid_app (h1 : Valid one) (h2 : Valid two) (h : ∀ k, heldB one k = false) (ht : ∀ a ∈ one, ∀ b ∈ two, a.t ≤ b.t) : Valid (one ++ two) := fun i e x => by
  rcases Nat.lt_or_ge i one.length with q | q
  · rw [List.getElem?_append_left q] at x
    obtain ⟨a, b, c⟩ := h1 i e x
    refine ⟨a, ?_, fun j e' hj z => c j e' hj ?_⟩
    · rw [List.take_append_of_le_length (by omega)]; exact b
    · rw [List.getElem?_append_left (by omega)] at z; exact z
  · obtain ⟨d, rfl⟩ : ∃ d, i = one.length + d := ⟨i - one.length, by omega⟩
    rw [List.getElem?_append_right q, Nat.add_sub_cancel_left] at x
    obtain ⟨a, b, c⟩ := h2 d e x
    refine ⟨a, ?_, fun j e' hj z => ?_⟩
    · rw [List.take_length_add_append, held_app h]; exact b
    · rcases Nat.lt_or_ge j one.length with q2 | q2
      · rw [List.getElem?_append_left q2] at z
        exact ht _ (List.mem_of_getElem? z) _ (List.mem_of_getElem? x)
      · rw [List.getElem?_append_right q2] at z
        exact c (j - one.length) e' (by omega) z
theorem nextT_app {k : Int} {a b : List Ev} : Rm.nextT k (a ++ b) = match Rm.nextT k a with
    | some t => some t
    | none => Rm.nextT k b := by
  unfold Rm.nextT
  rw [List.find?_append]
  cases a.find? fun e => e.k == k with
  | some x => rfl
  | none => rfl
theorem lens_app (h : ∀ k, heldB one k = false) : lens (one ++ two) = lens one ++ lens two := by
  have la : (lens one).length = one.length := by unfold lens; rw [List.length_map, List.length_range]
  have lb : (lens two).length = two.length := by unfold lens; rw [List.length_map, List.length_range]
  have at_ : ∀ (es : List Ev) (i : Nat), i < es.length → (lens es)[i]? = some (lenN es es.length i) := fun es i hi => by
    unfold lens
    rw [List.getElem?_map, List.getElem?_range hi]
    rfl
  refine List.ext_getElem? fun i => ?_
  rcases Nat.lt_or_ge i one.length with q | q
  · rw [at_ _ _ (by rw [List.length_append]; omega), List.getElem?_append_left (by omega), at_ _ _ q]
    refine congrArg some ?_
    unfold lenN
    rw [List.getElem?_append_left q, List.getElem?_eq_getElem q]
    dsimp only
    by_cases hd : one[i].d = true
    · rw [if_pos ⟨hd, by rw [List.length_append]; omega⟩, if_pos ⟨hd, q⟩, List.take_length, List.take_length, List.drop_append_of_le_length (by omega), nextT_app]
      cases hn : Rm.nextT one[i].k (one.drop (i + 1)) with
      | some t => rfl
      | none =>
        exfalso
        have o : Open one one.length one[i].k i := ⟨q, ⟨_, List.getElem?_eq_getElem q, rfl, hd⟩, by rw [List.take_length]; exact hn⟩
        have := Open.held (Nat.le_refl _) o
        rw [List.take_length, h] at this
        cases this
    · rw [if_neg (fun z => hd z.1), if_neg (fun z => hd z.1)]
  · obtain ⟨d, rfl⟩ : ∃ d, i = one.length + d := ⟨i - one.length, by omega⟩
    rw [List.getElem?_append_right (by omega), la, Nat.add_sub_cancel_left]
    rcases Nat.lt_or_ge d two.length with q2 | q2
    · rw [at_ _ _ (by rw [List.length_append]; omega), at_ _ _ q2]
      refine congrArg some ?_
      unfold lenN
      rw [List.getElem?_append_right q, Nat.add_sub_cancel_left, List.getElem?_eq_getElem q2]
      dsimp only
      rw [List.take_length, List.take_length, show one.length + d + 1 = one.length + (d + 1) by omega, ← List.drop_drop, List.drop_left' rfl, List.length_append]
      by_cases hd : two[d].d = true
      · rw [if_pos ⟨hd, by omega⟩, if_pos ⟨hd, q2⟩]
      · rw [if_neg (fun z => hd z.1), if_neg (fun z => hd z.1)]
    · rw [List.getElem?_eq_none (by unfold lens; rw [List.length_map, List.length_range, List.length_append]; omega), List.getElem?_eq_none (by omega)]
end
theorem joinL_app {S : List Nat} : ∀ {xs ys : List (List Nat)}, xs ≠ [] → ys ≠ [] → TL.joinL S (xs ++ ys) = TL.joinL S xs ++ (S ++ TL.joinL S ys)
  | [], _, h, _ => absurd rfl h
  | [x], [], _, h => absurd rfl h
  | [x], y :: ys, _, _ => rfl
  | x :: x2 :: xs, ys, _, hy => by
    have ih := joinL_app (S := S) (xs := x2 :: xs) (ys := ys) (by simp) hy
    show x ++ (S ++ TL.joinL S ((x2 :: xs) ++ ys)) = (x ++ (S ++ TL.joinL S (x2 :: xs))) ++ (S ++ TL.joinL S ys)
    rw [ih, List.append_assoc, List.append_assoc]
/-- the texts of the records that are not empty, joined -/
def txts (rs : List (List Ev)) : List Str := (rs.filter fun r => !r.isEmpty).map recT
theorem join_two {one two : List Ev} : Txt.join ((" " : String) : Str) (txts [one, two]) = recT (one ++ two) := by
  refine TL.ext_tl ?_
  unfold recT
  cases one with
  | nil =>
    cases two with
    | nil => rfl
    | cons b bs => 
      show TL.tl (Txt.join _ [recT (b :: bs)]) = _
      rw [Tx.join_tl]
      rfl
  | cons a as =>
    cases two with
    | nil =>
      show TL.tl (Txt.join _ [recT (a :: as)]) = _
      rw [Tx.join_tl, List.append_nil]
      rfl
    | cons b bs =>
      show TL.tl (Txt.join _ [recT (a :: as), recT (b :: bs)]) = _
      rw [Tx.join_tl, Tx.join_tl]
      show TL.joinL _ [TL.tl (Txt.join _ ((a :: as).map evT)), TL.tl (Txt.join _ ((b :: bs).map evT))] = _
      rw [Tx.join_tl, Tx.join_tl, List.map_append, List.map_append, joinL_app (by simp) (by simp)]
      rfl
end K86

set_option Elab.async false
set_option linter.all false
set_option maxRecDepth 100000
set_option maxHeartbeats 8000000
namespace K86
open PySem PySem.Spec PyProof.Rows L2 Gd Rm La Cb Pl
theorem AllV.take {α : Type} {R : Hp → α → V → Prop} {H : Hp} {vs : List V} {xs : List α} (h : AllV R H vs xs) (k : Nat) : AllV R H (vs.take k) (xs.take k) := by
  refine ⟨by rw [List.length_take, List.length_take, h.1], fun i v x a b => ?_⟩
  rw [List.getElem?_take] at a b
  split at a
  · rename_i z
    rw [if_pos z] at b
    exact h.2 i v x a b
  · cases a
theorem OutsV.take {H : Hp} {vs : List V} {xs : List Outp} (h : OutsV H vs xs) (k : Nat) : OutsV H (vs.take k) (xs.take k) := by
  refine ⟨by rw [List.length_take, List.length_take, h.1], fun i v x a b => ?_⟩
  rw [List.getElem?_take] at a b
  split at a
  · rename_i z
    rw [if_pos z] at b
    exact h.2 i v x a b
  · cases a
theorem tups_take {H : Hp} {as : List Addr} {es : List Ev} (h : Tups H evV as es) (n : Nat) : Tups H evV (as.take n) (es.take n) := by
  refine ⟨by rw [List.length_take, List.length_take, h.1], fun i a e u v => ?_⟩
  rw [List.getElem?_take] at u v
  split at u
  · rename_i z
    rw [if_pos z] at v
    exact h.2 i a e u v
  · cases u
theorem range_take {α : Type} {f : Nat → α} {n k : Nat} (h : k ≤ n) : ((List.range n).map f).take k = (List.range k).map f := by
  rw [← List.map_take, List.take_range, Nat.min_eq_left h]
theorem lay_of {n : Nat} : ∀ ds : List PyData, (∀ d ∈ ds, d.canLay0 = true ∧ PyData.depth d ≤ n) → PyData.canLayAll0 ds = true ∧ PyData.depthAll ds ≤ n
  | [], _ => ⟨rfl, Nat.zero_le _⟩
  | d :: ds, h => by
    obtain ⟨a, b⟩ := lay_of ds fun x hx => h x (List.mem_cons_of_mem _ hx)
    obtain ⟨c1, c2⟩ := h d List.mem_cons_self
    refine ⟨?_, ?_⟩
    · show (PyData.canLay0 d && PyData.canLayAll0 ds) = true
      rw [a, c1]
      rfl
    · show max (PyData.depth d) (PyData.depthAll ds) ≤ n
      omega
theorem shaped_list {n : Nat} (hn : n ≤ 60) {ds : List PyData} (h : ∀ d ∈ ds, d.canLay0 = true ∧ PyData.depth d ≤ n) : SeqAt.shaped (.list ds) = true ∧ (PyData.list ds).canLay0 = true := by
  obtain ⟨a, b⟩ := lay_of ds h
  refine ⟨?_, a⟩
  show (PyData.canLayAll0 ds && decide (PyData.depthAll ds + 1 ≤ 64)) = true
  rw [a, decide_eq_true (by omega)]
  rfl
theorem shaped_canlay {d : PyData} (h : SeqAt.shaped d = true) : d.canLay0 = true := (Bool.and_eq_true_iff.mp h).1
theorem out_can {o : Outp} (h : OutOk o) : (outD o).canLay0 = true ∧ PyData.depth (outD o) ≤ 5 := by
  refine ⟨shaped_canlay (out_lay h), ?_⟩
  cases o <;> (show _ ≤ 5; first | exact (by decide : (1 : Nat) ≤ 5) | exact (by decide : (0 : Nat) + 1 ≤ 5))
theorem shaped_outs {os : List Outp} (h : ∀ o ∈ os, OutOk o) : SeqAt.shaped (.list (os.map outD)) = true ∧ (PyData.list (os.map outD)).canLay0 = true := shaped_list (n := 5) (by decide) fun d hd => by
  obtain ⟨o, ho, rfl⟩ := List.mem_map.mp hd
  exact out_can (h o ho)
theorem outs_ok2 {L : List (List Actn)} {es : List Ev} {m n : Nat} (hO : LayOk L m) (hV : Valid es) (hk : ∀ e ∈ es, e.k < (m : Int)) (hn : n ≤ es.length) : ∀ o ∈ outsM L es n, OutOk o := fun o ho => by
  unfold outsM at ho
  obtain ⟨i, hi, rfl⟩ := List.mem_map.mp ho
  exact outM_ok hO hV hk (by have := List.mem_range.mp hi; omega)
theorem eqVt (x : V) : V.bl (decide (x = x)) = V.bl true := by simp
section
variable {P : Program} {w : World} {K : PySem.W.Frag} {mg : Str → Option Value} {base : Heap}
end
end K86

set_option Elab.async false
set_option linter.all false
set_option maxRecDepth 100000
set_option maxHeartbeats 8000000
namespace K86
open PySem PySem.Spec PyProof.Rows L2 Gd Rm La Cb Pl
theorem zip_self : ∀ es : List Ev, List.zipWith timed (es.map (·.t)) es = es
  | [] => rfl
  | e :: r => by
    rw [List.map_cons, List.zipWith_cons_cons, zip_self r]
    rfl
theorem rise_of {es : List Ev} (hV : Valid es) : Rise (es.map (·.t)) := fun i x y hx hy => by
  rw [List.getElem?_map] at hx hy
  cases h1 : es[i]? with
  | none => rw [h1] at hx; cases hx
  | some a =>
    cases h2 : es[i + 1]? with
    | none => rw [h2] at hy; cases hy
    | some b =>
      rw [h1] at hx
      rw [h2] at hy
      have ex : a.t = x := Option.some.inj hx
      have ey : b.t = y := Option.some.inj hy
      rw [← ex, ← ey]
      exact hV.mono i (i + 1) a b (Nat.lt_succ_self _) h1 h2
theorem tups_takeS {H : Hp} {as : List Addr} {es : List Ev} (h : Tups H stV as es) (n : Nat) : Tups H stV (as.take n) (es.take n) := h.take n
theorem lst_take {f : Ev → List V} {H : Hp} {B : Addr} {as : List Addr} {es : List Ev} (hT : Tups H f as es) (n : Nat) (nB : H B = none) : Lst f (upd H B (.lst ((as.take n).map V.ref))) B (es.take n) := ⟨as.take n, upd_same, (hT.take n).same (same_upd nB)⟩
theorem recD_shaped (es : List Ev) : SeqAt.shaped (recD es) = true ∧ (recD es).canLay0 = true := shaped_list (n := 1) (by decide) fun d hd => by
  obtain ⟨e, _, rfl⟩ := List.mem_map.mp hd
  have h : PyData.canLay0 (.str (wayS e.d)) = true := by cases e.d <;> decide +kernel
  refine ⟨?_, Nat.le_refl _⟩
  show (true && (true && (PyData.canLay0 (.str (wayS e.d)) && true))) = true
  rw [h]
  rfl
theorem Trips.take {H : Hp} {vs : List V} {xs : List (Int × Outp)} (h : AllV TripV H vs xs) (k : Nat) : AllV TripV H (vs.take k) (xs.take k) := AllV.take h k
section
variable {P : Program} {w : World} {K : PySem.W.Frag} {mg : Str → Option Value} {base : Heap}
def spCuts : Sp := fun vs H Q _ => ∃ (c g : Addr) (L : List (List Actn)) (m : Nat) (es : List Ev), vs = [.ref c, .ref g] ∧ Lay H c L ∧ LayOk L m ∧ Lst evV H g es ∧ Valid es ∧ es.length ≤ 200 ∧ (∀ e ∈ es, e.k < (m : Int)) ∧
  ∀ H', Same H H' → Q (.bl true) H'
theorem ok__law_cuts_right (bt : Bt mg) (a : At K mg "_law_cuts_right" s__law_cuts_right ["_law_layout_here", "_law_record_here"]) (c_played : Cl P w K mg base 9 "played" spPlayed) (c_outputs : Cl P w K mg base 9 "outputs" spOutputs) (c_is_whole : Cl P w K mg base 5 "is_whole" spWhole) (c_with_ticks : Cl P w K mg base 4 "with_ticks" spWith) (c_order_of : Cl P w K mg base 5 "order_of" spOrder) : Cl P w K mg base 10 "_law_cuts_right" spCuts := by
  refine clG a sc__law_cuts_right (fun vs H Q E h => ?_) (fun f cdv A0 outer s H vs Q hg hr h => ?_)
  · obtain ⟨c, g, L, m, es, rfl, _⟩ := h
    rfl
  · obtain ⟨c, g, L, m, es, rfl, hL, hO, hG, hV, h2, hkm, q⟩ := h
    refine ⟨_, (pss_cons (ps_par (i := 2) (j := 3) rfl sc__law_cuts_right.nd rfl rfl (by decide) rfl rfl (pa_cons (pe_cl c_played hg hr (by decide) (by rfl) (pa_cons (pv 0) (pa_cons (pv 1) pa_nil))) (pa_cons (pe_cl c_outputs hg hr (by decide) (by rfl) (pa_cons (pv 0) (pa_cons (pv 1) pa_nil))) pa_nil)) (by rfl))
      (pss_cons (ps_for PassesOwn.never rfl (pi_range1 (by rfl) bt.m_range (pa_cons (pe_op op_add (pe_callB call_len_seq (by rfl) bt.m_len (by decide +kernel) (pa_cons (pv 1) pa_nil)) pe_int) pa_nil)) (pg_name (i := 4) sc__law_cuts_right.nd rfl (Or.inl rfl)) (pss_cons (ps_set (i := 5) sc__law_cuts_right.nd rfl (Or.inl rfl) (pe_slice sl_list (pv 1) po_none (po_some (pv 4))))
      (pss_cons (ps_if (pt_cmpR (op_neD hr.units) (pe_cl c_with_ticks hg hr (by decide) (by rfl) (pa_cons (pe_slice sl_list (pe_cl c_order_of hg hr (by decide) (by rfl) (pa_cons (pv 1) pa_nil)) po_none (po_some (pv 4))) (pa_cons (pe_lc (own := [("_law_event", 7)]) (g := (gName 7)) (by rfl) sc__law_cuts_right.nd (pi_list (pv 5)) (blkOk_by (N := n__law_cuts_right) (sc := defScope s__law_cuts_right) (by decide +kernel)) (fun _ _ _ _ _ => (pg_name (i := 7) sc__law_cuts_right.nd rfl (Or.inl rfl))) (fun _ _ _ _ _ => pts_nil) (fun _ _ _ _ _ => (pe_ix (r := rIxT K) ix_tup (pv 7) pe_int (fun _ _ => rfl)))) pa_nil))) (pv 5) (nomark _)) (pss_one (ps_ret pe_bl)) pss_nil)
      (pss_one (ps_if (pt_val (pe_cl c_is_whole hg hr (by decide) (by rfl) (pa_cons (pv 5) pa_nil))) (pss_cons (ps_set (i := 6) sc__law_cuts_right.nd rfl (Or.inl rfl) (pe_cl c_outputs hg hr (by decide) (by rfl) (pa_cons (pv 0) (pa_cons (pv 5) pa_nil))))
      (pss_one (ps_if (PW.pt (pw_or (pt_cmpR (op_neD hr.units) (pe_cl c_played hg hr (by decide) (by rfl) (pa_cons (pv 0) (pa_cons (pv 5) pa_nil))) (pe_slice sl_list (pv 2) po_none (po_some (pv 4))) (nomark _)) (pw_or1 (pt_cmpR (op_neD hr.units) (pe_slice sl_list (pv 3) po_none (po_some (pe_callB call_len_seq (by rfl) bt.m_len (by decide +kernel) (pa_cons (pv 6) pa_nil)))) (pv 6) (nomark _))))) (pss_one (ps_ret pe_bl)) pss_nil))) pss_nil)))))
      (pss_one (ps_ret pe_bl)))), ?_⟩
    have h4 : es.length ≤ 400 := by omega
    refine ⟨_, rfl, _, rfl, c, g, L, m, es, rfl, hL, hO, hG, hV, h4, hkm, fun H1 P1 s1 nP1 hP1 => ?_⟩
    refine ⟨_, rfl, _, rfl, c, g, L, m, es, rfl, hL.same s1, hO, hG.same s1, hV, h4, hkm, fun H2 O2 s2 nO2 hO2 => ⟨_, _, rfl, ?_⟩⟩
    have s02 := s1.trans s2
    obtain ⟨as, hg0, hT⟩ := hG.same s02
    have hal := hT.1
    have hgl : (as.map V.ref).length = es.length := by rw [List.length_map]; exact hal
    obtain ⟨os, hos, hOs⟩ := hP1.same s2
    obtain ⟨ts, hts, hTs⟩ := id hO2
    refine ⟨_, rfl, g, _, rfl, .inl (SqL.of hg0), _, _, rfl, rfl, ((as.map V.ref).length : Int) + 1, rfl, by omega, by omega, for_it walk_range (fun j σ H' => Same H2 H' ∧ ∃ y4 y5 y6 y7, σ = [some (.ref c), some (.ref g), some (.ref P1), some (.ref O2), y4, y5, y6, y7]) ⟨Same.refl _, _, _, _, _, rfl⟩ (fun _ _ _ _ _ => True.intro) (fun j x σ Hx Hy hj p y => ?_) (fun σ H3 p => ?_)⟩
    · obtain ⟨sx, y4, y5, y6, y7, rfl⟩ := p
      obtain ⟨rfl, hx⟩ := y
      have hx : x = .int ((j : Nat) : Int) := hx.trans (congrArg V.int (Int.zero_add _))
      subst hx
      have hj : j ≤ es.length := by omega
      have hlj : (es.take j).length = j := by rw [List.length_take]; omega
      have hVj := hV.take j
      have hkj : ∀ e ∈ es.take j, e.k < (m : Int) := fun e he => hkm e (List.mem_of_mem_take he)
      refine ⟨_, rfl, _, rfl, _, rfl, g, _, rfl, SqL.of (sx _ _ hg0), fun B nB => ?_⟩
      rw [cutTake, ← List.map_take]
      have kB := same_upd (o := .lst ((as.take j).map V.ref)) nB
      have hB : Lst evV (upd Hy B (.lst ((as.take j).map V.ref))) B (es.take j) := ⟨as.take j, upd_same, (hT.take j).same (sx.trans kB)⟩
      have sB := sx.trans kB
      generalize upd Hy B (.lst ((as.take j).map V.ref)) = H3 at hB sB ⊢
      clear kB nB
      -- with_ticks of the order
      refine ⟨_, rfl, g, es, rfl, hG.same (s02.trans sB), hV, h4, fun H4 O4 s4 nO4 hO4 => ?_⟩
      obtain ⟨bs, hO4', hT4⟩ := id hO4
      refine ⟨_, rfl, _, rfl, O4, _, rfl, SqL.of hO4', fun Z nZ => ?_⟩
      rw [cutTake, ← List.map_take]
      have kZ := same_upd (o := .lst ((bs.take j).map V.ref)) nZ
      have hZ : Lst stV (upd H4 Z (.lst ((bs.take j).map V.ref))) Z (es.take j) := ⟨bs.take j, upd_same, (hT4.take j).same kZ⟩
      have sZ := sB.trans (s4.trans kZ)
      have hBZ := hB.same (s4.trans kZ)
      generalize upd H4 Z (.lst ((bs.take j).map V.ref)) = H5 at hZ sZ hBZ ⊢
      clear kZ nZ
      obtain ⟨cs, hBc, hTc⟩ := id hBZ
      have hcl := hTc.1
      refine ⟨_, rfl, B, rfl, ⟨_, SqL.of hBc⟩, fun M nM => lc_it (walk_list (xs := cs.map V.ref)) (fun i H' => Same H5 H' ∧ H' M = some (.lst ((((es.take j).map (·.t)).take i).map V.int))) ⟨same_upd nM, upd_same⟩ (fun i H' _ p => SqL.of (p.1 _ _ hBc)) (fun i x Hx Hy hi p y => ?_) (fun H6 p => ?_)⟩
      · obtain ⟨sy, hM⟩ := p
        obtain ⟨rfl, hx⟩ := y
        have hi' : i < (es.take j).length := by rw [List.length_map] at hi; omega
        obtain ⟨b, hb, hbt⟩ := hTc.at_ hi'
        have ex : V.ref b = x := Option.some.inj ((get_map_ref hb).symm.trans hx)
        subst ex
        have hq : ((es.take j).map (·.t))[i]? = some (es.take j)[i].t := by rw [List.getElem?_map, List.getElem?_eq_getElem hi']; rfl
        refine ⟨rfl, _, rfl, b, _, 0, _, rfl, rfl, SqT.of (sy _ _ hbt), atI_nat (j := 0) rfl, _, hM, small1000 (by rw [List.length_map, List.length_take, List.length_map]; omega), Same.off sy nM off_upd, ?_⟩
        rw [upd_same, List.take_add_one, hq, List.map_append]
        rfl
      obtain ⟨sy, hM⟩ := p
      rw [List.take_of_length_le (by rw [List.length_map, List.length_map]; omega)] at hM
      refine ⟨Z, M, es.take j, (es.take j).map (·.t), rfl, hZ.same sy, hVj.o, by omega, hM, by rw [List.length_map], rise_of hVj, fun H7 W7 s7 nW7 hW7 => ?_⟩
      rw [zip_self] at hW7
      obtain ⟨sh, cl⟩ := recD_shaped (es.take j)
      have s57 := sy.trans s7
      refine ⟨_, rfl, _, _, hW7.dp, (hBZ.same s57).dp, sh, sh, false, congrArg V.bl (by rw [SeqAt.eqv_refl _ cl]; rfl), iteF ?_⟩
      have s27 := sZ.trans s57
      have s07 := s02.trans s27
      have hB7 := hBZ.same s57
      -- a whole beginning
      by_cases hw : ∀ k, heldB (es.take j) k = false
      · have A := whole_agree (L := L) hj hw
        refine ⟨_, rfl, B, es.take j, true, rfl, hB7, hVj, by omega, ⟨fun _ => hw, fun _ => rfl⟩, fun H8 s8 => ⟨_, rfl, iteT ?_⟩⟩
        have s08 := s07.trans s8
        refine ⟨_, rfl, _, rfl, c, B, L, m, es.take j, rfl, hL.same s08, hO, hB7.same s8, hVj, by omega, hkj, fun H9 S9 s9 nS9 hS9 => ?_⟩
        have s79 := s8.trans s9
        have s09 := s07.trans s79
        refine ⟨_, rfl, _, rfl, c, B, L, m, es.take j, rfl, hL.same s09, hO, hB7.same s79, hVj, by omega, hkj, fun H10 P10 s10 nP10 hP10 => ?_⟩
        have s2a := (s27.trans s79).trans s10
        refine ⟨_, rfl, _, rfl, _, rfl, P1, _, rfl, SqL.of (s2a _ _ hos), fun U nU => ?_⟩
        rw [cutTake]
        have kU := same_upd (o := .lst (os.take j)) nU
        have hU : Outs (upd H10 U (.lst (os.take j))) U (outsM L es j) := by
          refine ⟨os.take j, upd_same, ?_⟩
          have := (hOs.take j).keep (Tk.of (s2a.trans kU))
          unfold outsM at this
          rw [range_take hj] at this
          exact this
        have hP := hP10.same kU
        rw [hlj, ← agree_outs A] at hP
        obtain ⟨sh2, cl2⟩ := shaped_outs (outs_ok2 hO hV hkm hj)
        refine ⟨_, _, hP.dp, hU.dp, sh2, sh2, false, congrArg V.bl (by rw [SeqAt.eqv_refl _ cl2]; rfl), iteF ?_⟩
        have s2u := s2a.trans kU
        have hS := hS9.same (s10.trans kU)
        rw [hlj, ← agree_outsT A] at hS
        generalize upd H10 U (.lst (os.take j)) = H11 at hS s2u ⊢
        obtain ⟨zs, hzs, hZs⟩ := id hS
        have hzl := hZs.1
        refine ⟨_, rfl, _, rfl, S9, _, rfl, .inl (SqL.of hzs), _, rfl, O2, _, rfl, SqL.of (s2u _ _ hts), fun W nW => ?_⟩
        rw [cutTake, hzl]
        have kW := same_upd (o := .lst (ts.take (outsT L es 0 j).length)) nW
        have hW : Trips (upd H11 W (.lst (ts.take (outsT L es 0 j).length))) W (outsT L es 0 j) := by
          refine ⟨_, upd_same, ?_⟩
          have := (hTs.keep fun x v z => z.keep (Tk.of (s2u.trans kW))).take (outsT L es 0 j).length
          rw [← outsT_app (Nat.zero_le j) hj, List.take_left' rfl] at this
          exact this
        have sh3 := trips_shaped (outsT_ok (L := L) hO hV hkm (f := 0) hj)
        refine ⟨_, rfl, _, _, hW.dp, (hS.same kW).dp, sh3, sh3, false, congrArg V.bl (by rw [tripsL_eq]; rfl), iteF ⟨s2u.trans kW, _, _, _, _, rfl⟩⟩
      · refine ⟨_, rfl, B, es.take j, false, rfl, hB7, hVj, by omega, ⟨fun z => (by cases z), fun z => absurd z hw⟩, fun H8 s8 => ⟨_, rfl, iteF ⟨s27.trans s8, _, _, _, _, rfl⟩⟩⟩
    · exact q _ (s02.trans p.1)
end
end K86

set_option Elab.async false
set_option linter.all false
set_option maxRecDepth 100000
set_option maxHeartbeats 8000000
namespace K86
open PySem PySem.Spec PyProof.Rows L2 Gd Rm La Cb Pl
theorem neVt (x : V) : V.bl (!decide (x = x)) = V.bl false := by simp
theorem endM_nil {es : List Ev} : endM es [] = es := by unfold endM; rw [List.map_nil, List.append_nil]
theorem end_key {es : List Ev} {ns : List Int} {m : Nat} (hk : ∀ e ∈ es, e.k < (m : Int)) (mem : ∀ k, k ∈ ns ↔ heldB es k = true) : ∀ e ∈ endM es ns, e.k < (m : Int) := fun e he => by
  rcases List.mem_append.mp he with h | h
  · exact hk e h
  · obtain ⟨k, hk', rfl⟩ := List.mem_map.mp h
    obtain ⟨e', he', rfl⟩ := held_mem ((mem k).mp hk')
    exact hk e' he'
section
variable {P : Program} {w : World} {K : PySem.W.Frag} {mg : Str → Option Value} {base : Heap}
def spEndR : Sp := fun vs H Q _ => ∃ (c g : Addr) (L : List (List Actn)) (m : Nat) (es : List Ev), vs = [.ref c, .ref g] ∧ Lay H c L ∧ LayOk L m ∧ Lst evV H g es ∧ Valid es ∧ es.length ≤ 200 ∧ (∀ e ∈ es, e.k < (m : Int)) ∧
  ∀ H', Same H H' → Q (.bl true) H'
theorem ok__law_ended_right (bt : Bt mg) (a : At K mg "_law_ended_right" s__law_ended_right ["_law_layout_here", "_law_record_here"]) (c_ended : Cl P w K mg base 5 "ended" spEnded) (c_outputs : Cl P w K mg base 9 "outputs" spOutputs) (c_is_whole : Cl P w K mg base 5 "is_whole" spWhole) : Cl P w K mg base 10 "_law_ended_right" spEndR := by
  refine clG a sc__law_ended_right (fun vs H Q E h => ?_) (fun f cdv A0 outer s H vs Q hg hr h => ?_)
  · obtain ⟨c, g, L, m, es, rfl, _⟩ := h
    rfl
  · obtain ⟨c, g, L, m, es, rfl, hL, hO, hG, hV, h2, hkm, q⟩ := h
    refine ⟨_, (pss_cons (ps_par (i := 2) (j := 3) rfl sc__law_ended_right.nd rfl rfl (by decide) rfl rfl (pa_cons (pe_cl c_ended hg hr (by decide) (by rfl) (pa_cons (pv 1) pa_nil)) (pa_cons (pe_cl c_outputs hg hr (by decide) (by rfl) (pa_cons (pv 0) (pa_cons (pv 1) pa_nil))) pa_nil)) (by rfl))
      (pss_cons (ps_set (i := 4) sc__law_ended_right.nd rfl (Or.inl rfl) (pe_cl c_outputs hg hr (by decide) (by rfl) (pa_cons (pv 0) (pa_cons (pv 2) pa_nil))))
      (pss_cons (ps_if (PW.pt (pw_or (pt_not (pt_val (pe_cl c_is_whole hg hr (by decide) (by rfl) (pa_cons (pv 2) pa_nil)))) (pw_or (pt_cmpR (op_neD hr.units) (pe_slice sl_list (pv 2) po_none (po_some (pe_callB call_len_seq (by rfl) bt.m_len (by decide +kernel) (pa_cons (pv 1) pa_nil)))) (pv 1) (nomark _)) (pw_or1 (pt_cmpR (op_neD hr.units) (pe_slice sl_list (pv 4) po_none (po_some (pe_callB call_len_seq (by rfl) bt.m_len (by decide +kernel) (pa_cons (pv 3) pa_nil)))) (pv 3) (nomark _)))))) (pss_one (ps_ret pe_bl)) pss_nil)
      (pss_one (ps_ret (pe_and (pe_cmpR (op_eqD hr.units) (pe_lc (own := [("_law_row", 5)]) (g := (gName 5)) (by rfl) sc__law_ended_right.nd (pi_list (pe_slice sl_list (pv 4) (po_some (pe_callB call_len_seq (by rfl) bt.m_len (by decide +kernel) (pa_cons (pv 3) pa_nil))) po_none)) (blkOk_by (N := n__law_ended_right) (sc := defScope s__law_ended_right) (by decide +kernel)) (fun _ _ _ _ _ => (pg_name (i := 5) sc__law_ended_right.nd rfl (Or.inl rfl))) (fun _ _ _ _ _ => (pts_one (pt_cmpR op_ne (pe_ix (r := rIxT K) ix_tup (pv 5) pe_int (fun _ _ => rfl)) pe_str (nomark _)))) (fun _ _ _ _ _ => (pv 5))) (pe_lst pa_nil) (nomark _)) (pe_one (pe_cmpR (op_eqD hr.units) (pe_cl c_ended hg hr (by decide) (by rfl) (pa_cons (pv 2) pa_nil)) (pv 2) (nomark _))))))))), ?_⟩
    have h4 : es.length ≤ 400 := by omega
    refine ⟨_, rfl, g, es, rfl, hG, hV, h4, fun H1 P1 ns s1 nP1 hP1 pw nd mem hnl => ?_⟩
    refine ⟨_, rfl, _, rfl, c, g, L, m, es, rfl, hL.same s1, hO, hG.same s1, hV, h4, hkm, fun H2 O2 s2 nO2 hO2 => ⟨_, _, rfl, ?_⟩⟩
    have s02 := s1.trans s2
    have hP1 : Lst evV H1 P1 (endM es ns) := hP1
    have hVe := endM_valid hV nd mem
    have hle := endM_len es ns
    have hke := end_key hkm mem
    have hl4 : (endM es ns).length ≤ 400 := by omega
    refine ⟨_, rfl, _, rfl, c, P1, L, m, endM es ns, rfl, hL.same s02, hO, hP1.same s2, hVe, hl4, hke, fun H3 O3 s3 nO3 hO3 => ?_⟩
    have s13 := s2.trans s3
    refine ⟨_, rfl, P1, endM es ns, true, rfl, hP1.same s13, hVe, hl4, ⟨fun _ => endM_none mem, fun _ => rfl⟩, fun H4 s4 => ⟨_, rfl, iteF ?_⟩⟩
    have s14 := s13.trans s4
    have s04 := s1.trans s14
    obtain ⟨as, hg0, hT⟩ := hG.same s04
    obtain ⟨ls, hl0, hTl⟩ := hP1.same s14
    have hal : (as.map V.ref).length = es.length := by rw [List.length_map]; exact hT.1
    refine ⟨_, rfl, _, rfl, g, _, rfl, .inl (SqL.of hg0), _, rfl, P1, _, rfl, SqL.of hl0, fun U nU => ?_⟩
    rw [cutTake, hal, ← List.map_take]
    have kU := same_upd (o := .lst ((ls.take es.length).map V.ref)) nU
    have hU := lst_take hTl es.length nU
    rw [endM_take] at hU
    obtain ⟨sh, cl⟩ := recD_shaped es
    refine ⟨_, rfl, _, _, hU.dp, (hG.same (s04.trans kU)).dp, sh, sh, false, congrArg V.bl (by rw [SeqAt.eqv_refl _ cl]; rfl), iteF ?_⟩
    have s25 := s3.trans (s4.trans kU)
    have s35 := s4.trans kU
    have s05 := s04.trans kU
    generalize upd H4 U (.lst ((ls.take es.length).map V.ref)) = H5 at s25 s35 s05 ⊢
    have A := end_agree (L := L) (ns := ns) hO hV hkm
    rw [endM_take] at A
    have eA : outsT L (endM es ns) 0 es.length = outsT L es 0 es.length := outsT_congr fun i _ hi => ⟨(A.2 i hi).1, (A.2 i hi).2.1⟩
    have eB := outsT_app (L := L) (es := endM es ns) (f := 0) (g := es.length) (h := (endM es ns).length) (Nat.zero_le _) (by omega)
    rw [eA] at eB
    have hRel := end_rel (L := L) (es := es) (ns := ns)
    have okx := outsT_ok (L := L) hO hV hkm (f := 0) (Nat.le_refl es.length)
    obtain ⟨us, hu, hUV⟩ := hO2.same s25
    obtain ⟨qs, hw, hWV⟩ := hO3.same s35
    rw [← eB] at hWV
    have ql := outsT_len (L := L) (es := endM es ns) (f := es.length) (g := (endM es ns).length)
    generalize outsT L es 0 es.length = xs at hUV hWV okx
    generalize outsT L (endM es ns) es.length (endM es ns).length = ys at hWV hRel ql
    have hul := hUV.1
    refine ⟨_, rfl, _, rfl, O2, _, rfl, .inl (SqL.of hu), _, rfl, O3, _, rfl, SqL.of hw, fun W nW => ?_⟩
    rw [cutTake, hul]
    have kW := same_upd (o := .lst (qs.take xs.length)) nW
    have hW : Trips (upd H5 W (.lst (qs.take xs.length))) W xs := by
      refine ⟨_, upd_same, ?_⟩
      have := (hWV.keep fun x v z => z.keep (Tk.of kW)).take xs.length
      rw [List.take_left' rfl] at this
      exact this
    have hx2 : Trips (upd H5 W (.lst (qs.take xs.length))) O2 xs := ⟨us, kW _ _ hu, hUV.keep fun x v z => z.keep (Tk.of kW)⟩
    have sh3 := trips_shaped okx
    refine ⟨_, rfl, _, _, hW.dp, hx2.dp, sh3, sh3, false, congrArg V.bl (by rw [tripsL_eq]; rfl), iteF ?_⟩
    have hu6 := kW _ _ hu
    have hw6 := kW _ _ hw
    have hWV6 := hWV.keep fun x v z => z.keep (Tk.of kW)
    have s06 := s05.trans kW
    have s16 := (s13.trans s35).trans kW
    generalize upd H5 W (.lst (qs.take xs.length)) = H6 at hu6 hw6 hWV6 s06 s16 ⊢
    refine ⟨_, rfl, _, rfl, O2, _, rfl, .inl (SqL.of hu6), _, rfl, O3, _, rfl, SqL.of hw6, fun V1 nV => ?_⟩
    have hql := hWV6.1
    rw [List.length_append] at hql
    rw [cutDrop (by omega), hul]
    have kV := same_upd (o := .lst (qs.drop xs.length)) nV
    have hRows : ∀ i v, (qs.drop xs.length)[i]? = some v → ∃ T t c, v = V.ref T ∧ upd H6 V1 (.lst (qs.drop xs.length)) T = some (.tup [.int t, .str "release", .str c]) := fun i v hv => by
      rw [List.getElem?_drop] at hv
      have hlt := (List.getElem?_eq_some_iff.mp hv).1
      have hy : (xs ++ ys)[xs.length + i]? = some ys[i] := by
        rw [List.getElem?_append_right (by omega), Nat.add_sub_cancel_left]
        exact List.getElem?_eq_getElem (by omega)
      obtain ⟨T, e, h1⟩ := hWV6.2 _ _ _ hv hy
      obtain ⟨c', hc'⟩ := hRel ys[i] (List.getElem_mem _)
      rw [hc'] at h1
      exact ⟨T, _, c', e, kV _ _ h1⟩
    have hV1 := upd_same (H := H6) (a := V1) (o := .lst (qs.drop xs.length))
    have s07 := s06.trans kV
    have s17 := s16.trans kV
    generalize upd H6 V1 (.lst (qs.drop xs.length)) = H7 at hRows hV1 s07 s17 ⊢
    refine ⟨V1, rfl, ⟨_, SqL.of hV1⟩, fun M nM => lc_it (walk_list (xs := qs.drop xs.length)) (fun j H' => Same H7 H' ∧ H' M = some (.lst [])) ⟨same_upd nM, upd_same⟩ (fun j H' _ p => SqL.of (p.1 _ _ hV1)) (fun j x Hx Hy hj p y => ?_) (fun H8 p => ?_)⟩
    · obtain ⟨sx, hM⟩ := p
      obtain ⟨rfl, hx⟩ := y
      obtain ⟨T, t, c', rfl, hT'⟩ := hRows j x hx
      exact ⟨rfl, _, rfl, T, _, 1, _, rfl, rfl, SqT.of (sx _ _ hT'), atI_nat (j := 1) rfl, rfl, false, neVt _, iteF ⟨sx, hM⟩⟩
    obtain ⟨sx, hM⟩ := p
    refine ⟨Nat.zero_le _, fun Z nZ => ?_⟩
    have kZ := same_upd (o := .lst []) nZ
    refine ⟨_, _, .lst (SqL.of (kZ _ _ hM)) .nil, .lst (SqL.of upd_same) .nil, shaped_nil, shaped_nil, true, rfl, iteT ?_⟩
    have s19 := (s17.trans sx).trans kZ
    refine ⟨_, rfl, P1, endM es ns, rfl, hP1.same s19, hVe, hl4, fun H9 P9 ns9 s9 nP9 hP9 _ _ mem9 _ => ?_⟩
    have e9 : ns9 = [] := List.eq_nil_iff_forall_not_mem.mpr fun y hy => by
      have := (mem9 y).mp hy
      rw [endM_none mem y] at this
      cases this
    subst e9
    have hP9 : Lst evV H9 P9 (endM (endM es ns) []) := hP9
    rw [endM_nil] at hP9
    obtain ⟨she, cle⟩ := recD_shaped (endM es ns)
    refine ⟨_, rfl, _, _, hP9.dp, (hP1.same (s19.trans s9)).dp, she, she, ?_⟩
    rw [SeqAt.eqv_refl _ cle]
    exact q _ ((((s07.trans sx).trans kZ)).trans s9)
end
end K86

set_option Elab.async false
set_option linter.all false
set_option maxRecDepth 100000
set_option maxHeartbeats 8000000
namespace K86
open PySem PySem.Spec PyProof.Rows L2 Gd Rm La Cb Pl
theorem two_EH {T : Prop} {C A : Int → Hp → Prop} (f : (∀ E H, A E H → C E H) → T) (g : ∀ E H, A E H → C E H) : T := f g
theorem two_H {T : Prop} {C A : Hp → Prop} (f : (∀ H, A H → C H) → T) (g : ∀ H, A H → C H) : T := f g
theorem eqv_rec (es : List Ev) : PyData.eqv (recD es) (.list []) = es.isEmpty := by cases es <;> rfl
theorem dp_opts {K : PySem.W.Frag} {H : Hp} : ∀ xs : List (Option Int), DpAll K H (xs.map optV) (xs.map optD)
  | [] => .nil
  | none :: xs => .cons .non (dp_opts xs)
  | some i :: xs => .cons (.int i) (dp_opts xs)
theorem shaped_opts (xs : List (Option Int)) : SeqAt.shaped (.list (xs.map optD)) = true ∧ (PyData.list (xs.map optD)).canLay0 = true := shaped_list (n := 1) (by decide) fun d hd => by
  obtain ⟨o, _, rfl⟩ := List.mem_map.mp hd
  cases o <;> exact ⟨rfl, Nat.zero_le _⟩
theorem ordD_shaped (es : List Ev) : SeqAt.shaped (ordD es) = true ∧ (ordD es).canLay0 = true := ⟨shaped_ord es, shaped_canlay (shaped_ord es)⟩
theorem eqv_zero {ns : List Int} (h : PyData.eqv (.list (ns.map PyData.int)) (.list ([0].map PyData.int)) = true) : ns = [0] := by
  cases ns with
  | nil => cases h
  | cons x r =>
    have h : (decide (x = 0) && PyData.eqvAll (r.map PyData.int) []) = true := h
    obtain ⟨a, b⟩ := Bool.and_eq_true_iff.mp h
    have a := of_decide_eq_true a
    cases r with
    | nil => rw [a]
    | cons y r => cases b
theorem pos_of {es : List Ev} (h : es.isEmpty = false) : 0 < es.length := by cases es with | nil => cases h | cons _ _ => exact Nat.succ_pos _
theorem emp_of {a : Ev} {es : List Ev} (h : a ∈ es) : es.isEmpty = false := by cases es with | nil => cases h | cons _ _ => rfl
theorem txts_size {one two : List Ev} (h1 : (recT one).length ≤ 6400) (h2 : (recT two).length ≤ 6400) : ((txts [one, two]).map (·.length)).sum + (txts [one, two]).length * 1 ≤ 16777216 := by
  cases one with
  | nil =>
    cases two with
    | nil => exact (by decide : (0 : Nat) + 0 * 1 ≤ 16777216)
    | cons b bs => show ((recT (b :: bs)).length + 0) + 1 * 1 ≤ 16777216; omega
  | cons a as =>
    cases two with
    | nil => show ((recT (a :: as)).length + 0) + 1 * 1 ≤ 16777216; omega
    | cons b bs => show ((recT (a :: as)).length + ((recT (b :: bs)).length + 0)) + 2 * 1 ≤ 16777216; omega
theorem mv_cons {s : Int} {es : List Ev} : mv s es = es.map (mvE s) := rfl
theorem mv_whole {s : Int} {es : List Ev} (h : ∀ k, heldB es k = false) (k : Int) : heldB (mv s es) k = false := by
  unfold heldB mv
  rw [List.foldl_map]
  exact h k
theorem low_of {t : Int} (h : -(10 ^ 25) < t) (h2 : t < 10 ^ 25) : LowN t := by
  have a : (10 : Int) ^ 25 = 10000000000000000000000000 := by decide
  have b := p30
  constructor <;> omega
section
variable {P : Program} {w : World} {K : PySem.W.Frag} {mg : Str → Option Value} {base : Heap}
def spJoin : Sp := fun vs H Q _ => ∃ (c g1 g2 : Addr) (L : List (List Actn)) (m : Nat) (one two : List Ev), vs = [.ref c, .ref g1, .ref g2] ∧ Lay H c L ∧ LayOk L m ∧ Lst evV H g1 one ∧ Valid one ∧ one.length ≤ 100 ∧ (∀ e ∈ one, e.k < (m : Int)) ∧ (∀ k, heldB one k = false) ∧ (∀ e ∈ one, -(10 ^ 21) < e.t ∧ e.t < 10 ^ 21) ∧
  Lst evV H g2 two ∧ Valid two ∧ two.length ≤ 100 ∧ (∀ e ∈ two, e.k < (m : Int)) ∧ (∀ k, heldB two k = false) ∧ (∀ e ∈ two, -(10 ^ 21) < e.t ∧ e.t < 10 ^ 21) ∧ ∀ H', Same H H' → Q (.bl true) H'
theorem ok__law_joined_right (bt : Bt mg) {C : Addr} (a : At K mg "_law_joined_right" s__law_joined_right ["_law_layout_here", "_law_one", "_law_two"]) (c_played : Cl P w K mg base 9 "played" spPlayed) (c_outputs : Cl P w K mg base 9 "outputs" spOutputs) (c_layers_on : Cl P w K mg base 9 "layers_on" (spLayersOn C)) (c_is_whole : Cl P w K mg base 5 "is_whole" spWhole) (c_order_of : Cl P w K mg base 5 "order_of" spOrder) (c_lengths : Cl P w K mg base 5 "lengths" spLens)
    (c_format_record : Cl P w K mg base 5 "format_record" spFmtR) (c_parse_record : Cl P w K mg base 4 "parse_record" spParseR) : Cl P w K mg base 10 "_law_joined_right" spJoin := by
  refine clG a sc__law_joined_right (fun vs H Q E h => ?_) (fun f cdv A0 outer s H vs Q hg hr h => ?_)
  · obtain ⟨c, g1, g2, L, m, one, two, rfl, _⟩ := h
    rfl
  · obtain ⟨c, g1, g2, L, m, one, two, rfl, hL, hO, hG1, hV1, h1, hk1, hw1, ht1, hG2, hV2, h2, hk2, hw2, ht2, q⟩ := h
    refine ⟨_, (pss_cons (ps_set (i := 3) sc__law_joined_right.nd rfl (Or.inr rfl) (pe_ifExp (PW.pt (pw_and (pt_cmpR (op_neD hr.units) (pv 1) (pe_lst pa_nil) (nomark _)) (pw_and1 (pt_cmpR (op_neD hr.units) (pv 2) (pe_lst pa_nil) (nomark _))))) (pe_op op_sub (pe_ix ix_tup (pe_ix ix_list (pv 1) (pe_un un_neg pe_int) (fun _ _ => rfl)) pe_int (fun _ _ => rfl)) (pe_ix ix_tup (pe_ix ix_list (pv 2) pe_int (fun _ _ => rfl)) pe_int (fun _ _ => rfl))) pe_int))
      (pss_cons (ps_setLc (i := 2) (own := [("_law_tick", 8), ("_law_key", 9), ("_law_way", 10)]) (g := (gTup K 3 (gCons (gName 8) (gCons (gName 9) (gCons (gName 10) gNil))))) (by rfl) sc__law_joined_right.nd rfl rfl (sw_true rfl rfl rfl (by decide +kernel)) (pi_list (pv 2)) (blkOk_by (N := n__law_joined_right) (sc := defScope s__law_joined_right) (by decide +kernel)) (fun _ _ _ _ _ => (pg_tup rfl (pgs_cons (pg_name (i := 8) sc__law_joined_right.nd rfl (Or.inl rfl)) (pgs_cons (pg_name (i := 9) sc__law_joined_right.nd rfl (Or.inl rfl)) (pgs_cons (pg_name (i := 10) sc__law_joined_right.nd rfl (Or.inl rfl)) pgs_nil))))) (fun _ _ _ _ _ => pts_nil) (fun _ _ _ _ _ => (pe_tup (pa_cons (pe_op op_add (pv 8) (pv 3)) (pa_cons (pv 9) (pa_cons (pv 10) pa_nil))))))
      (pss_cons (ps_par (i := 4) (j := 5) rfl sc__law_joined_right.nd rfl rfl (by decide) rfl rfl (pa_cons (pe_op op_cat (pv 1) (pv 2)) (pa_cons (pe_cl c_played hg hr (by decide) (by rfl) (pa_cons (pv 0) (pa_cons (pe_op op_cat (pv 1) (pv 2)) pa_nil))) pa_nil)) (by rfl))
      (pss_cons (ps_if (PW.pt (pw_or (pt_not (pt_val (pe_cl c_is_whole hg hr (by decide) (by rfl) (pa_cons (pv 4) pa_nil)))) (pw_or1 (pt_cmpR (op_neD hr.units) (pe_cl c_order_of hg hr (by decide) (by rfl) (pa_cons (pv 4) pa_nil)) (pe_op op_cat (pe_cl c_order_of hg hr (by decide) (by rfl) (pa_cons (pv 1) pa_nil)) (pe_cl c_order_of hg hr (by decide) (by rfl) (pa_cons (pv 2) pa_nil))) (nomark _))))) (pss_one (ps_ret pe_bl)) pss_nil)
      (pss_cons (ps_set (i := 6) sc__law_joined_right.nd rfl (Or.inl rfl) (pe_cl c_outputs hg hr (by decide) (by rfl) (pa_cons (pv 0) (pa_cons (pv 1) pa_nil))))
      (pss_cons (ps_if (PW.pt (pw_or (pt_cmpR (op_neD hr.units) (pe_slice sl_list (pv 5) po_none (po_some (pe_callB call_len_seq (by rfl) bt.m_len (by decide +kernel) (pa_cons (pv 1) pa_nil)))) (pe_cl c_played hg hr (by decide) (by rfl) (pa_cons (pv 0) (pa_cons (pv 1) pa_nil))) (nomark _)) (pw_or1 (pt_cmpR (op_neD hr.units) (pe_slice sl_list (pe_cl c_outputs hg hr (by decide) (by rfl) (pa_cons (pv 0) (pa_cons (pv 4) pa_nil))) po_none (po_some (pe_callB call_len_seq (by rfl) bt.m_len (by decide +kernel) (pa_cons (pv 6) pa_nil)))) (pv 6) (nomark _))))) (pss_one (ps_ret pe_bl)) pss_nil)
      (pss_cons (ps_if (pt_cmpR (op_neD hr.units) (pe_cl c_lengths hg hr (by decide) (by rfl) (pa_cons (pv 4) pa_nil)) (pe_op op_cat (pe_cl c_lengths hg hr (by decide) (by rfl) (pa_cons (pv 1) pa_nil)) (pe_cl c_lengths hg hr (by decide) (by rfl) (pa_cons (pv 2) pa_nil))) (nomark _)) (pss_one (ps_ret pe_bl)) pss_nil)
      (pss_cons (ps_if (PW.pt (pw_and (pt_cmpR (op_eqD hr.units) (pe_cl c_layers_on hg hr (by decide) (by rfl) (pa_cons (pv 0) (pa_cons (pv 1) pa_nil))) (pe_lst (pa_cons pe_int pa_nil)) (nomark _)) (pw_and1 (pt_cmpR (op_neD hr.units) (pe_slice sl_list (pv 5) (po_some (pe_callB call_len_seq (by rfl) bt.m_len (by decide +kernel) (pa_cons (pv 1) pa_nil))) po_none) (pe_cl c_played hg hr (by decide) (by rfl) (pa_cons (pv 0) (pa_cons (pv 2) pa_nil))) (nomark _))))) (pss_one (ps_ret pe_bl)) pss_nil)
      (pss_cons (ps_set (i := 7) sc__law_joined_right.nd rfl (Or.inl rfl) (pe_bm PySem.F.plainAttrs_str PySem.F.slot_str_join PySem.F.type_str_join mt_join pe_str (pa_cons (pe_lc (own := [("_law_record_here", 11)]) (g := (gName 11)) (by rfl) sc__law_joined_right.nd (pi_tup (pe_tup (pa_cons (pv 1) (pa_cons (pv 2) pa_nil)))) (blkOk_by (N := n__law_joined_right) (sc := defScope s__law_joined_right) (by decide +kernel)) (fun _ _ _ _ _ => (pg_name (i := 11) sc__law_joined_right.nd rfl (Or.inl rfl))) (fun _ _ _ _ _ => (pts_one (pt_cmpR (r := rNeD K) (op_neD hr.units) (pv 11) (pe_lst pa_nil) (nomark _)))) (fun _ _ _ _ _ => (pe_cl c_format_record hg hr (by decide) (by rfl) (pa_cons (pv 11) pa_nil)))) pa_nil)))
      (pss_one (ps_ret (pe_and (pe_cmpR op_eq (pv 7) (pe_cl c_format_record hg hr (by decide) (by rfl) (pa_cons (pv 4) pa_nil)) (nomark _)) (pe_one (pe_cmpR (op_eqD hr.units) (pe_cl c_parse_record hg hr (by decide) (by rfl) (pa_cons (pv 7) pa_nil)) (pv 4) (nomark _))))))))))))))), ?_⟩
    obtain ⟨rs1, cl1⟩ := recD_shaped one
    obtain ⟨rs2, cl2⟩ := recD_shaped two
    have p21 : (10 : Int) ^ 21 = 1000000000000000000000 := by decide
    have p25 : (10 : Int) ^ 25 = 10000000000000000000000000 := by decide
    apply two_EH (A := fun s H' => Same H H' ∧ (∀ a ∈ one, ∀ b ∈ two, a.t ≤ b.t + s) ∧ -(10 ^ 24) < s ∧ s < 10 ^ 24)
    · intro G
      have p24 : (10 : Int) ^ 24 = 1000000000000000000000000 := by decide
      have z0 : -(10 ^ 24) < (0 : Int) ∧ (0 : Int) < 10 ^ 24 := by omega
      by_cases hne : one.isEmpty = false ∧ two.isEmpty = false
      · obtain ⟨he1, he2⟩ := hne
        have pos1 := pos_of he1
        have pos2 := pos_of he2
        refine ⟨_, rfl, Nat.zero_le _, fun Z nZ => ?_⟩
        have kZ := same_upd (o := .lst []) nZ
        refine ⟨_, _, (hG1.same kZ).dp, .lst (SqL.of upd_same) .nil, rs1, shaped_nil, _, rfl, ?_⟩
        rw [eqv_rec, he1]
        refine iteT ⟨_, rfl, Nat.zero_le _, fun Z2 nZ2 => ?_⟩
        have kZ2 := same_upd (o := .lst []) nZ2
        have sZ := kZ.trans kZ2
        refine ⟨_, _, (hG2.same sZ).dp, .lst (SqL.of upd_same) .nil, rs2, shaped_nil, _, rfl, ?_⟩
        rw [eqv_rec, he2]
        obtain ⟨as, ha, hTa⟩ := hG1.same sZ
        obtain ⟨bs, hb, hTb⟩ := hG2.same sZ
        have hal := hTa.1
        have hpos : one.length - 1 < one.length := by omega
        obtain ⟨b1, hb1, hbt1⟩ := hTa.at_ hpos
        obtain ⟨b2, hb2, hbt2⟩ := hTb.at_ pos2
        have hlast : (as.map V.ref)[(as.map V.ref).length - 1]? = some (.ref b1) := by rw [List.length_map, hal]; exact get_map_ref hb1
        refine iteT ⟨_, rfl, 1, rfl, g1, _, -1, .ref b1, rfl, rfl, SqL.of ha, atI_end hlast, b1, _, 0, _, rfl, rfl, SqT.of hbt1, atI_nat (j := 0) rfl, _, rfl, g2, _, 0, .ref b2, rfl, rfl, SqL.of hb, atI_nat (j := 0) (get_map_ref hb2), b2, _, 0, _, rfl, rfl, SqT.of hbt2, atI_nat (j := 0) rfl, _, _, rfl, rfl, ?_⟩
        dsimp only
        have m1 := ht1 _ (List.getElem_mem hpos)
        have m2 := ht2 _ (List.getElem_mem pos2)
        have F : Same H (upd (upd H Z (.lst [])) Z2 (.lst [])) ∧ (∀ a ∈ one, ∀ b ∈ two, a.t ≤ b.t + (one[one.length - 1].t - two[0].t)) ∧ -(10 ^ 24) < (one[one.length - 1].t - two[0].t) ∧ (one[one.length - 1].t - two[0].t) < 10 ^ 24 := by
          refine ⟨sZ, fun a ha b hb => ?_, by omega, by omega⟩
          have l1 := le_last hV1 a ha
          have l2 : two[0].t ≤ b.t := by
            obtain ⟨i, hi⟩ := List.getElem?_of_mem hb
            cases i with
            | zero =>
              have e : two[0] = b := Option.some.inj ((List.getElem?_eq_getElem pos2).symm.trans hi)
              rw [e]; exact Int.le_refl _
            | succ i => exact hV2.mono 0 (i + 1) _ _ (Nat.succ_pos _) (List.getElem?_eq_getElem pos2) hi
          have el : lastT one = one[one.length - 1].t := by
            unfold lastT
            rw [List.getLast?_eq_getElem?, List.getElem?_eq_getElem hpos]
            rfl
          omega
        generalize upd (upd H Z (.lst [])) Z2 (.lst []) = H1 at F ⊢
        generalize (one[one.length - 1].t - two[0].t) = E0 at F ⊢
        exact G E0 H1 F
      · have F : ∀ H1, Same H H1 → Same H H1 ∧ (∀ a ∈ one, ∀ b ∈ two, a.t ≤ b.t + 0) ∧ -(10 ^ 24) < (0 : Int) ∧ (0 : Int) < 10 ^ 24 := fun H1 sH => ⟨sH, fun a ha b hb => absurd ⟨emp_of ha, emp_of hb⟩ hne, z0⟩
        refine ⟨_, rfl, Nat.zero_le _, fun Z nZ => ?_⟩
        have kZ := same_upd (o := .lst []) nZ
        refine ⟨_, _, (hG1.same kZ).dp, .lst (SqL.of upd_same) .nil, rs1, shaped_nil, _, rfl, ?_⟩
        rw [eqv_rec]
        rcases Bool.eq_false_or_eq_true one.isEmpty with he | he
        · rw [he]
          exact iteF (iteF (G 0 _ (F _ kZ)))
        · have he2 : two.isEmpty = true := by
            rcases Bool.eq_false_or_eq_true two.isEmpty with z | z
            · exact z
            · exact absurd ⟨he, z⟩ hne
          rw [he]
          refine iteT ⟨_, rfl, Nat.zero_le _, fun Z2 nZ2 => ?_⟩
          have kZ2 := same_upd (o := .lst []) nZ2
          have sZ := kZ.trans kZ2
          refine ⟨_, _, (hG2.same sZ).dp, .lst (SqL.of upd_same) .nil, rs2, shaped_nil, _, rfl, ?_⟩
          rw [eqv_rec, he2]
          exact iteF (G 0 _ (F _ sZ))
    rintro sh H1 ⟨s1, hord, l1, l2⟩
    have p24 : (10 : Int) ^ 24 = 1000000000000000000000000 := by decide
    -- the second one, moved
    obtain ⟨bs, hb0, hT0⟩ := hG2.same s1
    refine ⟨_, rfl, g2, rfl, ⟨_, SqL.of hb0⟩, fun M nM => lc_it (walk_list (xs := bs.map V.ref)) (fun i H' => Grown evV H1 M (mv sh (two.take i)) H') (Grown.start nM) (fun i H' _ p => SqL.of (p.same _ _ hb0)) (fun i x Hx H3 hi p y => ?_) (fun H3 p => ?_)⟩
    · obtain ⟨rfl, e2⟩ := y
      have hi' : i < two.length := by rw [List.length_map] at hi; have := hT0.1; omega
      obtain ⟨b, hb, hbt⟩ := hT0.at_ hi'
      have e2' : x = .ref b := Option.some.inj (e2.symm.trans (get_map_ref hb))
      subst e2'
      refine ⟨b, _, rfl, SqT.of (p.same _ _ hbt), rfl, _, _, rfl, _, _, rfl, _, _, rfl, rfl, rfl, ⟨_, rfl, _, rfl, _, _, rfl, rfl, _, rfl, _, rfl, (by show 3 ≤ sizeLine; decide), fun p' np => ?_⟩⟩
      obtain ⟨acc, ha, hal', hg'⟩ := p.more (e := mvE sh two[i]) nM np
      refine ⟨acc, ha, ?_, ?_⟩
      · rw [hal', mv_len, List.length_take]; exact small1000 (by omega)
      · rw [List.take_add_one, List.getElem?_eq_getElem hi']
        unfold mv at hg' ⊢
        rw [List.map_append]
        exact hg'
    rw [show (bs.map V.ref).length = two.length by rw [List.length_map]; exact hT0.1, List.take_length] at p
    obtain ⟨s13, hG3⟩ := p
    have s3 := s1.trans s13
    clear s13 hb0 hT0 nM
    have hVm := mv_valid (s := sh) hV2
    have hwm := mv_whole (s := sh) hw2
    have hlm : (mv sh two).length ≤ 100 := by rw [mv_len]; exact h2
    have hkmv : ∀ e ∈ mv sh two, e.k < (m : Int) := fun e he => by
      obtain ⟨e', he', rfl⟩ := List.mem_map.mp he
      exact hk2 e' he'
    have htm : ∀ e ∈ mv sh two, -(10 ^ 25) < e.t ∧ e.t < 10 ^ 25 := fun e he => by
      obtain ⟨e', he', rfl⟩ := List.mem_map.mp he
      have := ht2 e' he'
      show -(10 ^ 25) < e'.t + sh ∧ e'.t + sh < 10 ^ 25
      omega
    have hordm : ∀ a ∈ one, ∀ b ∈ mv sh two, a.t ≤ b.t := fun a ha b hb => by
      obtain ⟨b', hb', rfl⟩ := List.mem_map.mp hb
      exact hord a ha b' hb'
    generalize mv sh two = tw at hG3 hVm hwm hlm hkmv htm hordm
    clear hG2 hV2 hw2 hk2 ht2 hord h2 l1 l2
    have hV := valid_app hV1 hVm hw1 hordm
    have hw : ∀ k, heldB (one ++ tw) k = false := fun k => by rw [held_app hw1]; exact hwm k
    have hlb : (one ++ tw).length = one.length + tw.length := List.length_append
    have hk : ∀ e ∈ one ++ tw, e.k < (m : Int) := fun e he => (List.mem_append.mp he).elim (hk1 e) (hkmv e)
    have m16 := hO.m16
    have low1 : ∀ e ∈ one, EvLow e := fun e he => by
      obtain ⟨i, hi⟩ := List.getElem?_of_mem he
      have a := (hV1 i e hi).1
      have b := hk1 e he
      have c := ht1 e he
      have := p30
      exact ⟨a, by omega, low_of (by omega) (by omega)⟩
    have low2 : ∀ e ∈ tw, EvLow e := fun e he => by
      obtain ⟨i, hi⟩ := List.getElem?_of_mem he
      have a := (hVm i e hi).1
      have b := hkmv e he
      have c := htm e he
      have := p30
      exact ⟨a, by omega, low_of (by omega) (by omega)⟩
    have low : ∀ e ∈ one ++ tw, EvLow e := fun e he => (List.mem_append.mp he).elim (low1 e) (low2 e)
    obtain ⟨rsb, clb⟩ := recD_shaped (one ++ tw)
    -- both, and what is told
    have app : ∀ {H' H2 : Hp} {U : Addr} {as bs : List Addr} {f : Ev → List V} {xs ys : List Ev}, Tups H' f as xs → Tups H' f bs ys → H' U = none → Lst f (upd H' U (.lst (as.map V.ref ++ bs.map V.ref))) U (xs ++ ys) := fun ha hb nU => ⟨_, by rw [upd_same, List.map_append], (ha.append hb).same (same_upd nU)⟩
    obtain ⟨as, ha3, hTa⟩ := hG1.same s3
    obtain ⟨bs, hb3, hTb⟩ := id hG3
    have hal := hTa.1
    have hbl := hTb.1
    refine ⟨_, rfl, _, rfl, g1, M, _, _, rfl, rfl, ha3, hb3, by rw [sizeLine_eq, List.length_map, List.length_map]; omega, fun U nU => ?_⟩
    have hU := app (H2 := H3) hTa hTb nU
    have kU := same_upd (o := .lst (as.map V.ref ++ bs.map V.ref)) nU
    have s4 := s3.trans kU
    have hG4 := hG3.same kU
    generalize upd H3 U (.lst (as.map V.ref ++ bs.map V.ref)) = H4 at hU s4 hG4 ⊢
    clear ha3 hTa hb3 hTb hal hbl
    obtain ⟨as, ha4, hTa⟩ := hG1.same s4
    obtain ⟨bs, hb4, hTb⟩ := id hG4
    have hal := hTa.1
    have hbl := hTb.1
    refine ⟨_, rfl, _, rfl, _, rfl, g1, M, _, _, rfl, rfl, ha4, hb4, by rw [sizeLine_eq, List.length_map, List.length_map]; omega, fun U2 nU2 => ?_⟩
    have hU2 := app (H2 := H4) hTa hTb nU2
    have kU2 := same_upd (o := .lst (as.map V.ref ++ bs.map V.ref)) nU2
    have s5 := s4.trans kU2
    have hU5 := hU.same kU2
    have hG5 := hG4.same kU2
    generalize upd H4 U2 (.lst (as.map V.ref ++ bs.map V.ref)) = H5 at hU2 hU5 s5 hG5 ⊢
    refine ⟨c, U2, L, m, one ++ tw, rfl, hL.same s5, hO, hU2, hV, by omega, hk, fun H6 P6 s56 nP6 hP6 => ⟨_, _, rfl, ?_⟩⟩
    have s6 := s5.trans s56
    have hU6 := hU5.same s56
    have hG6 := hG5.same s56
    clear hU2 kU2 hU5 hG5 s5 hTa hTb hal hbl ha4 hb4 hG4 hG3 hU
    -- whole, and its order
    refine ⟨_, rfl, U, one ++ tw, true, rfl, hU6, hV, by omega, ⟨fun _ => hw, fun _ => rfl⟩, fun H7 s67 => ⟨_, rfl, iteF ?_⟩⟩
    refine ⟨_, rfl, U, one ++ tw, rfl, hU6.same s67, hV, by omega, fun H8 O8 s78 n8 hO8 => ?_⟩
    have s68 := s67.trans s78
    refine ⟨_, rfl, g1, one, rfl, hG1.same (s6.trans s68), hV1, by omega, fun H9 O9 s89 n9 hO9 => ?_⟩
    have s69 := s68.trans s89
    refine ⟨_, rfl, M, tw, rfl, hG6.same s69, hVm, by omega, fun H10 O10 s9a na hO10 => ?_⟩
    have s6a := s69.trans s9a
    obtain ⟨xs, hx, hTx⟩ := hO9.same s9a
    obtain ⟨ys, hy, hTy⟩ := id hO10
    have hxl := hTx.1
    have hyl := hTy.1
    refine ⟨O9, O10, _, _, rfl, rfl, hx, hy, by rw [sizeLine_eq, List.length_map, List.length_map]; omega, fun W nW => ?_⟩
    have hW := app (H2 := H10) hTx hTy nW
    have kW := same_upd (o := .lst (xs.map V.ref ++ ys.map V.ref)) nW
    obtain ⟨os1, os2⟩ := ordD_shaped (one ++ tw)
    refine ⟨_, _, (hO8.same ((s89.trans s9a).trans kW)).dpO, hW.dpO, os1, os1, false, congrArg V.bl (by show (!PyData.eqv (ordD (one ++ tw)) (ordD (one ++ tw))) = false; rw [SeqAt.eqv_refl _ os2]; rfl), iteF ?_⟩
    have s6b := s6a.trans kW
    generalize upd H10 W (.lst (xs.map V.ref ++ ys.map V.ref)) = H11 at s6b ⊢
    clear hW kW hx hy hTx hTy hxl hyl hO8 hO9 hO10 s6a s69 s68 s67 s78 s89 s9a
    have sb := s6.trans s6b
    have hUb := hU6.same s6b
    have hGb := hG6.same s6b
    have hPb := hP6.same s6b
    clear s6b s6 s56 hU6 hG6 hP6
    -- what came
    refine ⟨_, rfl, _, rfl, c, g1, L, m, one, rfl, hL.same sb, hO, hG1.same sb, hV1, by omega, hk1, fun H12 O12 sbc nc hO12 => ?_⟩
    have sc := sb.trans sbc
    obtain ⟨as, hac, hTa⟩ := hG1.same sc
    have hal : (as.map V.ref).length = one.length := by rw [List.length_map]; exact hTa.1
    obtain ⟨ps, hps, hPs⟩ := hPb.same sbc
    have hpl := hPs.1
    rw [outsM_len] at hpl
    refine ⟨_, rfl, _, rfl, g1, _, rfl, .inl (SqL.of hac), _, rfl, P6, _, rfl, SqL.of hps, fun U3 nU3 => ?_⟩
    rw [cutTake, hal]
    have k3 := same_upd (o := .lst (ps.take one.length)) nU3
    have A := whole_agree (L := L) (es := one ++ tw) (c := one.length) (by omega) (by rw [List.take_left' rfl]; exact hw1)
    rw [List.take_left' rfl] at A
    have hU3 : Outs (upd H12 U3 (.lst (ps.take one.length))) U3 (outsM L one one.length) := by
      refine ⟨_, upd_same, ?_⟩
      have := (hPs.take one.length).keep (Tk.of k3)
      unfold outsM at this
      rw [range_take (by omega)] at this
      have e : outsM L (one ++ tw) one.length = outsM L one one.length := by
        unfold outsM
        exact List.map_congr_left fun i hi => (A.2 i (List.mem_range.mp hi)).2.1
      rw [← e]
      exact this
    have sd := sc.trans k3
    refine ⟨_, rfl, _, rfl, c, g1, L, m, one, rfl, hL.same sd, hO, hG1.same sd, hV1, by omega, hk1, fun H13 P13 sde nP13 hP13 => ?_⟩
    obtain ⟨sh1, cs1⟩ := shaped_outs (outs_ok2 hO hV1 hk1 (Nat.le_refl _))
    refine ⟨_, _, (hU3.same sde).dp, hP13.dp, sh1, sh1, false, congrArg V.bl (by rw [SeqAt.eqv_refl _ cs1]; rfl), iteF ?_⟩
    have sbe := (sbc.trans k3).trans sde
    have se := sb.trans sbe
    have hO13 := hO12.same (k3.trans sde)
    refine ⟨_, rfl, _, rfl, c, U, L, m, one ++ tw, rfl, hL.same se, hO, hUb.same sbe, hV, by omega, hk, fun H14 O14 sef nf hO14 => ?_⟩
    have eB := outsT_app (L := L) (es := one ++ tw) (f := 0) (g := one.length) (h := (one ++ tw).length) (Nat.zero_le _) (by omega)
    have eA : outsT L (one ++ tw) 0 one.length = outsT L one 0 one.length := outsT_congr fun i _ hi => ⟨(A.2 i hi).1, (A.2 i hi).2.1⟩
    rw [eA] at eB
    obtain ⟨us, hu, hUV⟩ := hO13.same sef
    obtain ⟨qs, hw4, hWV⟩ := id hO14
    rw [← eB] at hWV
    have okx := outsT_ok (L := L) hO hV1 hk1 (f := 0) (Nat.le_refl one.length)
    have hul := hUV.1
    refine ⟨_, rfl, O12, _, rfl, .inl (SqL.of hu), _, rfl, O14, _, rfl, SqL.of hw4, fun W nW => ?_⟩
    rw [cutTake, hul]
    have kW := same_upd (o := .lst (qs.take (outsT L one 0 one.length).length)) nW
    have hW : Trips (upd H14 W (.lst (qs.take (outsT L one 0 one.length).length))) W (outsT L one 0 one.length) := by
      refine ⟨_, upd_same, ?_⟩
      have := (hWV.keep fun x v z => z.keep (Tk.of kW)).take (outsT L one 0 one.length).length
      rw [List.take_left' rfl] at this
      exact this
    have hx2 : Trips (upd H14 W (.lst (qs.take (outsT L one 0 one.length).length))) O12 (outsT L one 0 one.length) := ⟨us, kW _ _ hu, hUV.keep fun x v z => z.keep (Tk.of kW)⟩
    have sh3 := trips_shaped okx
    refine ⟨_, rfl, _, _, hW.dp, hx2.dp, sh3, sh3, false, congrArg V.bl (by rw [tripsL_eq]; rfl), iteF ?_⟩
    have sbg := (sbe.trans sef).trans kW
    generalize upd H14 W (.lst (qs.take (outsT L one 0 one.length).length)) = H15 at sbg ⊢
    clear hW hx2 kW hu hUV hw4 hWV hO13 hO14 hO12 sef se sde sd sc sbc sbe k3 hU3 hP13 hps hPs hpl hTa hac hal
    -- lengths
    have sg := sb.trans sbg
    have hUg := hUb.same sbg
    have hGg := hGb.same sbg
    have hPg := hPb.same sbg
    clear hUb hGb hPb sbg sb
    have ll : ∀ es : List Ev, (lens es).length = es.length := fun es => by unfold lens; rw [List.length_map, List.length_range]
    refine ⟨_, rfl, U, one ++ tw, rfl, hUg, hV, by omega, fun H16 A1 t1 n1 hA1 => ?_⟩
    refine ⟨_, rfl, g1, one, rfl, hG1.same (sg.trans t1), hV1, by omega, fun H17 A2 t2 n2 hA2 => ?_⟩
    have t12 := t1.trans t2
    refine ⟨_, rfl, M, tw, rfl, hGg.same t12, hVm, by omega, fun H18 A3 t3 n3 hA3 => ?_⟩
    refine ⟨A2, A3, _, _, rfl, rfl, t3 _ _ hA2, hA3, by rw [sizeLine_eq, List.length_map, List.length_map, ll, ll]; omega, fun W nW => ?_⟩
    have kW := same_upd (o := .lst ((lens one).map optV ++ (lens tw).map optV)) nW
    have hW : upd H18 W (.lst ((lens one).map optV ++ (lens tw).map optV)) W = some (.lst ((lens (one ++ tw)).map optV)) := by rw [upd_same, lens_app hw1, List.map_append]
    obtain ⟨so1, so2⟩ := shaped_opts (lens (one ++ tw))
    refine ⟨_, _, .lst (SqL.of (((t2.trans t3).trans kW) _ _ hA1)) (dp_opts _), .lst (SqL.of hW) (dp_opts _), so1, so1, false, congrArg V.bl (by rw [SeqAt.eqv_refl _ so2]; rfl), iteF ?_⟩
    have tg := (t12.trans t3).trans kW
    have sj := sg.trans tg
    have hUj := hUg.same tg
    have hGj := hGg.same tg
    have hPj := hPg.same tg
    generalize upd H18 W (.lst ((lens one).map optV ++ (lens tw).map optV)) = H19 at sj hUj hGj hPj ⊢
    clear hW kW hA1 hA2 hA3 t1 t2 t3 t12 tg hUg hGg hPg sg
    -- behind layer 0 alone
    apply two_H (A := fun H' => Same H19 H')
    · intro G
      refine ⟨_, rfl, _, rfl, c, g1, L, m, one, rfl, hL.same sj, hO, hG1.same sj, hV1, by omega, hk1, fun H20 D1 t1 n1 hD1 => ⟨(by show 1 ≤ sizeLine; decide), fun Z nZ => ?_⟩⟩
      have kZ := same_upd (o := .lst [.int 0]) nZ
      refine ⟨_, _, .lst (SqL.of (kZ _ _ hD1)) (dpInts _), .lst (SqL.of upd_same) (dpInts [0]), shaped_ints _, shaped_ints [0], _, rfl, ?_⟩
      have t2 := t1.trans kZ
      generalize upd H20 Z (.lst [.int 0]) = H21 at t2 ⊢
      cases hb : PyData.eqv (.list ((onLs (runS L one one.length) L.length).map PyData.int)) (.list ([0].map PyData.int)) with
      | false =>
        exact iteF (iteF (G _ t2))
      | true =>
        have bi := back_init hO hV1 hk1 hw1 (eqv_zero hb)
        have bi2 : runS L (one ++ tw) one.length = init L.length := by rw [A.1]; exact bi
        have ea := app_outs bi2
        have s21 := sj.trans t2
        obtain ⟨as, hac, hTa⟩ := hG1.same s21
        have hal : (as.map V.ref).length = one.length := by rw [List.length_map]; exact hTa.1
        obtain ⟨ps, hps, hPs⟩ := hPj.same t2
        have hpl := hPs.1
        rw [outsM_len] at hpl
        refine iteT ⟨_, rfl, _, rfl, g1, _, rfl, .inl (SqL.of hac), _, rfl, P6, _, rfl, SqL.of hps, fun U3 nU3 => ?_⟩
        rw [cutDrop (by omega), hal]
        have k3 := same_upd (o := .lst (ps.drop one.length)) nU3
        have hU3 : Outs (upd H21 U3 (.lst (ps.drop one.length))) U3 (outsM L tw tw.length) := by
          refine ⟨_, upd_same, ?_⟩
          rw [← ea]
          have hp := hPs.keep (Tk.of k3)
          refine ⟨by rw [List.length_drop, List.length_drop, hp.1], fun i v x a b => ?_⟩
          rw [List.getElem?_drop] at a b
          exact hp.2 _ v x a b
        have t3 := t2.trans k3
        refine ⟨_, rfl, _, rfl, c, M, L, m, tw, rfl, hL.same (sj.trans t3), hO, hGj.same t3, hVm, by omega, hkmv, fun H22 P22 t4 n4 hP22 => ?_⟩
        obtain ⟨sh1, cs1⟩ := shaped_outs (outs_ok2 hO hVm hkmv (Nat.le_refl _))
        exact ⟨_, _, (hU3.same t4).dp, hP22.dp, sh1, sh1, false, congrArg V.bl (by rw [SeqAt.eqv_refl _ cs1]; rfl), iteF (G _ (t3.trans t4))⟩
    intro H20 t20
    have sk := sj.trans t20
    have hUk := hUj.same t20
    have hGk := hGj.same t20
    clear hUj hGj hPj sj t20
    -- the text
    refine ⟨rfl, _, rfl, _, rfl, (by show 2 ≤ sizeLine; decide), fun T nT => ⟨T, rfl, ⟨_, SqT.of upd_same⟩, fun N nN => lc_it (walk_tup (xs := [.ref g1, .ref M])) (fun j H' => Same (upd H20 T (.tup [.ref g1, .ref M])) H' ∧ H' N = some (.lst ((txts ([one, tw].take j)).map V.str))) ⟨same_upd nN, upd_same⟩ (fun j H' _ p => SqT.of (p.1 _ _ upd_same)) (fun j x Hx Hy hj p y => ?_) (fun H21 p => ?_)⟩⟩
    · obtain ⟨sx, hN⟩ := p
      obtain ⟨rfl, hx⟩ := y
      have kT := (same_upd (o := .tup [.ref g1, .ref M]) nT).trans sx
      obtain ⟨g, es, rfl, hes, hg, hv, hl, hlow⟩ : ∃ (g : Addr) (es : List Ev), x = .ref g ∧ [one, tw][j]? = some es ∧ Lst evV Hy g es ∧ Valid es ∧ es.length ≤ 400 ∧ ∀ e ∈ es, EvLow e := by
        match j, hj, hx with
        | 0, _, hx => exact ⟨g1, one, (Option.some.inj hx).symm, rfl, hG1.same (sk.trans kT), hV1, by omega, low1⟩
        | 1, _, hx => exact ⟨M, tw, (Option.some.inj hx).symm, rfl, hGk.same kT, hVm, by omega, low2⟩
        | j + 2, hj, _ => exact absurd hj (by show ¬ j + 2 < 2; omega)
      obtain ⟨r1, c1⟩ := recD_shaped es
      refine ⟨rfl, _, rfl, Nat.zero_le _, fun Z nZ => ?_⟩
      have kZ := same_upd (o := .lst []) nZ
      refine ⟨_, _, (hg.same kZ).dp, .lst (SqL.of upd_same) .nil, r1, shaped_nil, _, rfl, ?_⟩
      rw [eqv_rec]
      have htx : txts ([one, tw].take (j + 1)) = txts ([one, tw].take j) ++ if es.isEmpty = true then [] else [recT es] := by
        unfold txts
        rw [List.take_add_one, hes, List.filter_append, List.map_append]
        cases es <;> rfl
      rw [htx]
      have hNl : (txts ([one, tw].take j)).length ≤ 2 := by
        unfold txts
        rw [List.length_map]
        exact Nat.le_trans (List.length_filter_le ..) (by rw [List.length_take]; exact Nat.min_le_right _ _)
      cases es with
      | nil =>
        refine iteF ⟨sx.trans kZ, ?_⟩
        show _ = some (HO.lst ((txts ([one, tw].take j) ++ []).map V.str))
        rw [List.append_nil]
        exact kZ _ _ hN
      | cons e0 r0 =>
        refine iteT ⟨_, rfl, g, e0 :: r0, rfl, hg.same kZ, hv, hl, hlow, fun Hz sz => ⟨_, sz _ _ (kZ _ _ hN), small1000 (by rw [List.length_map]; omega), Same.off ((sx.trans kZ).trans sz) nN off_upd, ?_⟩⟩
        show _ = some (HO.lst ((txts ([one, tw].take j) ++ [recT (e0 :: r0)]).map V.str))
        rw [upd_same, List.map_append]
        rfl
    obtain ⟨sx, hN⟩ := p
    have hN : H21 N = some (.lst ((txts [one, tw]).map V.str)) := hN
    have kT := (same_upd (o := .tup [.ref g1, .ref M]) nT).trans sx
    have rl := rec_len low
    refine ⟨_, N, txts [one, tw], rfl, rfl, .inl (SqL.of hN), ?_, ?_⟩
    · rw [Tx.sp_len]
      have r1 := rec_len low1
      have r2 := rec_len low2
      exact txts_size (by omega) (by omega)
    rw [join_two]
    have sm := sk.trans kT
    refine ⟨_, rfl, _, rfl, U, one ++ tw, rfl, hUk.same kT, hV, by omega, low, fun H22 t22 => ⟨rfl, true, eqVt _, iteT ?_⟩⟩
    refine ⟨_, rfl, one ++ tw, rfl, hV, by omega, low, fun H23 R23 t23 n23 hR23 => ?_⟩
    refine ⟨_, rfl, _, _, hR23.dp, (hUk.same (kT.trans (t22.trans t23))).dp, rsb, rsb, ?_⟩
    rw [SeqAt.eqv_refl _ clb]
    exact q _ (sm.trans (t22.trans t23))
end
end K86

set_option Elab.async false
set_option linter.all false
set_option maxRecDepth 100000
set_option maxHeartbeats 8000000
namespace K86
open PySem PySem.Spec PyProof.Rows L2 Gd Rm La Cb Pl
theorem args4 {r : Addr} {a b n m g : Int} (h1 : a = n) (h2 : b = m) : [V.ref r, .int a, .int b, .int g] = [V.ref r, .int n, .int m, .int g] := by rw [h1, h2]
theorem Lst.offR {H H' : Hp} {r p : Addr} {es : List Ev} {k : Nat} (h : Lst evV H p es) (o : Off r H H') (R : Reel H r k) (n : p ≠ r) : Lst evV H' p es := by
  obtain ⟨as, a, b⟩ := h
  exact ⟨as, o _ _ a n, b.1, fun i x e u v => (R.tk o) _ _ (b.2 i x e u v)⟩
/-- a record that is ended -/
structure EndOk (m : Nat) (es : List Ev) : Prop where
  valid : Valid es
  len : es.length ≤ 100
  key : ∀ e ∈ es, e.k < (m : Int)
  whole : ∀ k, heldB es k = false
  tick : ∀ e ∈ es, -(10 ^ 21) < e.t ∧ e.t < 10 ^ 21
theorem EndOk.nil {m : Nat} : EndOk m [] := ⟨Valid.nil, by decide, (fun e h => by cases h), (fun k => rfl), (fun e h => by cases h)⟩
/-- the records in the pair -/
structure Pairs (H : Hp) (r Pp : Addr) (m : Nat) (rows : List (Addr × List Ev)) : Prop where
  at_ : H Pp = some (.lst (rows.map fun p => V.ref p.1))
  row : ∀ p ∈ rows, Lst evV H p.1 p.2 ∧ p.1 ≠ r ∧ EndOk m p.2
theorem Pairs.go {H H' : Hp} {r Pp : Addr} {m k : Nat} {rows : List (Addr × List Ev)} (h : Pairs H r Pp m rows) (o : Off r H H') (R : Reel H r k) (n : Pp ≠ r) : Pairs H' r Pp m rows :=
  ⟨o _ _ h.at_ n, fun p hp => by obtain ⟨a, b, c⟩ := h.row p hp; exact ⟨Lst.offR a o R b, b, c⟩⟩
theorem Pairs.push {H : Hp} {r Pp p : Addr} {m : Nat} {es : List Ev} {rows : List (Addr × List Ev)} (h : Pairs H r Pp m rows) (hl : Lst evV H p es) (n : p ≠ r) (ok : EndOk m es) (ne : ∀ q ∈ rows, q.1 ≠ Pp) (np : p ≠ Pp) : Pairs (upd H Pp (.lst (rows.map (fun p => V.ref p.1) ++ [.ref p]))) r Pp m (rows ++ [(p, es)]) := by
  refine ⟨by rw [upd_same, List.map_append]; rfl, fun q hq => ?_⟩
  rcases List.mem_append.mp hq with z | z
  · obtain ⟨a, b, c⟩ := h.row q z
    exact ⟨a.off h.at_ (ne q z) off_upd, b, c⟩
  · rw [List.mem_singleton.mp z]
    exact ⟨hl.off h.at_ np off_upd, n, ok⟩
section
variable {P : Program} {w : World} {K : PySem.W.Frag} {mg : Str → Option Value} {base : Heap}
def spLaw (K : PySem.W.Frag) : Sp := fun vs H Q _ => ∃ (a : Addr) (ns : List Int), vs = [.ref a] ∧ SqL K H a (ns.map V.int) ∧ ns.length ≤ 63 ∧ ∀ H', Q (.bl true) H'
theorem ok_law {f : Addr} {fd : FuncData} (bt : Bt mg) (a : Fun K "law" "law" s_law f fd) (c__law_reel : Cl P w K mg base 1 "_law_reel" (spReel K)) (c__law_spin : Cl P w K mg base 1 "_law_spin" spSpin)
    (c__law_layout : Cl P w K mg base 4 "_law_layout" spLLay) (c__law_record : Cl P w K mg base 2 "_law_record" spRec) (c__law_cuts_right : Cl P w K mg base 10 "_law_cuts_right" spCuts) (c__law_ended_right : Cl P w K mg base 10 "_law_ended_right" spEndR)
    (c_ended : Cl P w K mg base 5 "ended" spEnded) (c__law_joined_right : Cl P w K mg base 10 "_law_joined_right" spJoin) : FnG P w K mg base 12 f fd ["_law_script"] (spLaw K) := by
  refine fnG a sc_law (fun vs H Q E h => ?_) (fun cdv A outer s H vs Q hg hr h => ?_)
  · obtain ⟨a, e, rfl, _⟩ := h
    rfl
  · obtain ⟨sc, ns, rfl, hS, hl, q⟩ := h
    refine ⟨_, (pss_cons (ps_for PassesOwn.never rfl (pi_range1 (by rfl) bt.m_range (pa_cons (pe_callB (call_max2 rfl) (by rfl) bt.m_max (by decide +kernel) (pa_cons pe_int (pa_cons (pe_callB (call_min2 rfl) (by rfl) bt.m_min (by decide +kernel) (pa_cons pe_int (pa_cons (pe_callB call_len_seq (by rfl) bt.m_len (by decide +kernel) (pa_cons (pv 0) pa_nil)) pa_nil))) pa_nil))) pa_nil)) (pg_name (i := 1) sc_law.nd rfl (Or.inl rfl)) (pss_cons (ps_set (i := 2) sc_law.nd rfl (Or.inl rfl) (pe_cl c__law_reel hg hr (by decide) (by rfl) (pa_cons (pv 0) (pa_cons (pv 1) pa_nil))))
      (pss_one (ps_for PassesOwn.never rfl (pi_range1 (by rfl) bt.m_range (pa_cons pe_int pa_nil)) (pg_name (i := 3) sc_law.nd rfl (Or.inl rfl)) (pss_cons (ps_par (i := 4) (j := 5) rfl sc_law.nd rfl rfl (by decide) rfl rfl (pa_cons (pe_op op_add pe_int (pe_cl c__law_spin hg hr (by decide) (by rfl) (pa_cons (pv 2) (pa_cons pe_int pa_nil)))) (pa_cons (pe_op op_add pe_int (pe_cl c__law_spin hg hr (by decide) (by rfl) (pa_cons (pv 2) (pa_cons pe_int pa_nil)))) pa_nil)) (by rfl))
      (pss_cons (ps_set (i := 6) sc_law.nd rfl (Or.inl rfl) (pe_cl c__law_layout hg hr (by decide) (by rfl) (pa_cons (pv 2) (pa_cons (pv 4) (pa_cons (pv 5) (pa_cons (pe_ix ix_list (pe_lst (pa_cons pe_int (pa_cons (pe_op op_powW pe_int pe_int) pa_nil))) (pe_op op_mod (pv 3) pe_int) (fun _ _ => rfl)) pa_nil))))))
      (pss_cons (ps_par (i := 7) (j := 8) rfl sc_law.nd rfl rfl (by decide) rfl rfl (pa_cons (pe_lst (pa_cons pe_int (pa_cons pe_int (pa_cons pe_int (pa_cons pe_int (pa_cons (pe_ix ix_list (pe_lst (pa_cons pe_int (pa_cons (pe_op op_powW pe_int pe_int) pa_nil))) (pe_op op_mod (pv 3) pe_int) (fun _ _ => rfl)) pa_nil)))))) (pa_cons (pe_lst pa_nil) pa_nil)) (by rfl))
      (pss_cons (ps_for PassesOwn.never rfl (pi_range1 (by rfl) bt.m_range (pa_cons pe_int pa_nil)) (pg_name (i := 9) sc_law.nd rfl (Or.inl rfl)) (pss_cons (ps_set (i := 10) sc_law.nd rfl (Or.inl rfl) (pe_cl c__law_record hg hr (by decide) (by rfl) (pa_cons (pv 2) (pa_cons (pv 5) (pa_cons (pe_cl c__law_spin hg hr (by decide) (by rfl) (pa_cons (pv 2) (pa_cons pe_int pa_nil))) (pa_cons (pv 7) pa_nil))))))
      (pss_cons (ps_if (PW.pt (pw_or (pt_not (pt_val (pe_cl c__law_cuts_right hg hr (by decide) (by rfl) (pa_cons (pv 6) (pa_cons (pv 10) pa_nil))))) (pw_or1 (pt_not (pt_val (pe_cl c__law_ended_right hg hr (by decide) (by rfl) (pa_cons (pv 6) (pa_cons (pv 10) pa_nil)))))))) (pss_one (ps_ret pe_bl)) pss_nil)
      (pss_one (ps_expr (pe_bm PySem.F.plainAttrs_list PySem.F.slot_list_append PySem.F.type_list_append mt_append (pv 8) (pa_cons (pe_cl c_ended hg hr (by decide) (by rfl) (pa_cons (pv 10) pa_nil)) pa_nil)))))))
      (pss_one (ps_for PassesOwn.never rfl (pi_tup (pe_tup (pa_cons (pe_tup (pa_cons (pe_ix ix_list (pv 8) pe_int (fun _ _ => rfl)) (pa_cons (pe_ix ix_list (pv 8) pe_int (fun _ _ => rfl)) pa_nil))) (pa_cons (pe_tup (pa_cons (pe_ix ix_list (pv 8) pe_int (fun _ _ => rfl)) (pa_cons (pe_ix ix_list (pv 8) pe_int (fun _ _ => rfl)) pa_nil))) (pa_cons (pe_tup (pa_cons (pe_ix ix_list (pv 8) pe_int (fun _ _ => rfl)) (pa_cons (pe_lst pa_nil) pa_nil))) (pa_cons (pe_tup (pa_cons (pe_lst pa_nil) (pa_cons (pe_ix ix_list (pv 8) pe_int (fun _ _ => rfl)) pa_nil))) pa_nil)))))) (pg_tup rfl (pgs_cons (pg_name (i := 11) sc_law.nd rfl (Or.inl rfl)) (pgs_cons (pg_name (i := 12) sc_law.nd rfl (Or.inl rfl)) pgs_nil))) (pss_one (ps_if (pt_not (pt_val (pe_cl c__law_joined_right hg hr (by decide) (by rfl) (pa_cons (pv 6) (pa_cons (pv 11) (pa_cons (pv 12) pa_nil)))))) (pss_one (ps_ret pe_bl)) pss_nil))))))))))))
      (pss_one (ps_ret pe_bl))), ?_⟩
    refine ⟨_, rfl, sc, _, rfl, .inl hS, _, _, rfl, ?_⟩
    refine ⟨1, _, rfl, _, rfl, ?_, ?_, ?_⟩
    · (repeat' split) <;> omega
    · (repeat' split) <;> omega
    refine for_it walk_range (fun i σ H' => Same H H' ∧ ∃ y1 y2 y3 y4 y5 y6 y7 y8 y9 y10 y11 y12, σ = [some (.ref sc), y1, y2, y3, y4, y5, y6, y7, y8, y9, y10, y11, y12]) ⟨Same.refl _, _, _, _, _, _, _, _, _, _, _, _, _, rfl⟩ (fun _ _ _ _ _ => True.intro) (fun i x σ Hx H1 hi p y => ?_) (fun σ H1 p => q _)
    obtain ⟨s1, y1, y2, y3, y4, y5, y6, y7, y8, y9, y10, y11, y12, rfl⟩ := p
    obtain ⟨rfl, hx⟩ := y
    have hx : x = .int (0 + (i : Int)) := hx
    have e0 : (0 : Int) + (i : Int) = ((i : Nat) : Int) := Int.zero_add _
    rw [e0] at hx
    subst hx
    have hi4 : i < 60 := by
      refine Nat.lt_of_lt_of_le hi ?_
      (repeat' split) <;> omega
    have hS1 : SqL K H1 sc (ns.map V.int) := s1.seq hS
    refine ⟨_, rfl, _, rfl, sc, ns, i, rfl, hS1, hl, by omega, fun r H2 s2 nr R2 => ?_⟩
    refine ⟨3, rfl, by decide, by decide, for_it walk_range (fun t σ H' => Off r H2 H' ∧ Reel H' r (30000 * t) ∧ ∃ y3 y4 y5 y6 y7 y8 y9 y10 y11 y12, σ = [some (.ref sc), some (.int (i : Int)), some (.ref r), y3, y4, y5, y6, y7, y8, y9, y10, y11, y12]) ⟨Off.refl _, R2, _, _, _, _, _, _, _, _, _, _, rfl⟩ (fun _ _ _ _ _ => True.intro) (fun t x σ Hx H3 ht p y => ?_) (fun σ H3 p => ?_)⟩
    · obtain ⟨o3, R3, y3, y4, y5, y6, y7, y8, y9, y10, y11, y12, rfl⟩ := p
      obtain ⟨rfl, hx⟩ := y
      subst hx
      have ht : t < 3 := ht
      obtain ⟨_, _, _, hr2, _⟩ := id R2
      refine ⟨_, rfl, r, 4, 30000 * t, rfl, by decide, by decide, by show _ < 1000000000; omega, R3, fun d1 H4 d10 d11 R4 o4 => ⟨_, _, rfl, rfl, ?_⟩⟩
      refine ⟨_, rfl, r, 5, 30000 * t + 1, rfl, by decide, by decide, by show _ < 1000000000; omega, R4, fun d2 H5 d20 d21 R5 o5 => ⟨_, _, rfl, rfl, _, _, rfl, ?_⟩⟩
      have o25 : Off r H2 H5 := (o3.trans o4).trans o5
      obtain ⟨nk, hnk⟩ : ∃ nk : Nat, 1 + d1 = (nk : Int) := ⟨(1 + d1).toNat, by omega⟩
      obtain ⟨mk, hmk⟩ : ∃ mk : Nat, 1 + d2 = (mk : Int) := ⟨(1 + d2).toNat, by omega⟩
      have hb2 : (0 + (t : Int)) % 2 = 0 ∨ (0 + (t : Int)) % 2 = 1 := by omega
      refine ⟨_, rfl, _, rfl, _, rfl, _, _, rfl, rfl, powW (n := 40) (k := 9) (by decide) (by decide), (by show 2 ≤ sizeLine; decide), fun M3 n3 => ?_⟩
      have k3 := same_upd (o := .lst ([6, 10 ^ 9].map V.int)) n3
      obtain ⟨lo, hlo, hm3⟩ := getI (ns := [6, 10 ^ 9]) (d := (0 + (t : Int)) % 2) (by omega) (by show _ < (2 : Int); omega)
      have hlob : 6 ≤ lo ∧ lo ≤ 1000000000 := by
        have := List.mem_of_getElem? hm3
        simp only [List.mem_cons, List.mem_nil_iff, or_false] at this
        omega
      have R5' := R5.same k3
      have o25' := o25.sameTrans k3
      refine ⟨_, rfl, _, _, rfl, rfl, (by show (0 : Int) < 2; decide), M3, _, _, .int lo, rfl, rfl, SqL.of upd_same, hlo, ?_⟩
      refine ⟨r, 30000 * t + 1 + 1, nk, mk, lo, args4 hnk hmk, R5', by show _ < 1000000000; omega, by omega, by omega, by omega, by omega, by omega, by omega, fun H6 c L o6 nc R6 fl hO hLn => ?_⟩
      have o26 : Off r H2 H6 := o25'.trans o6
      obtain ⟨rs, hc, hRows, _, hrs⟩ := fl
      have cr : c ≠ r := R5'.new nc
      have rr : ∀ x ∈ rs, x ≠ r := fun x hx => R5'.new (hrs x hx).1
      have lay : ∀ {H' : Hp} {k : Nat}, Off r H6 H' → Reel H6 r k → Lay H' c L := fun {H' k} o R => ⟨rs, o _ _ hc cr, hRows.1, fun i x row a b => row_off (hRows.2 i x row a b) (rr x (List.mem_of_getElem? a)) o (R.tk o)⟩
      -- the gaps
      refine ⟨_, _, rfl, rfl, powW (n := 40) (k := 9) (by decide) (by decide), (by show 2 ≤ sizeLine; decide), fun M4 n4 => ?_⟩
      have k4 := same_upd (o := .lst ([5, 10 ^ 9].map V.int)) n4
      obtain ⟨a4, ha4, hm4⟩ := getI (ns := [5, 10 ^ 9]) (d := (0 + (t : Int)) % 2) (by omega) (by show _ < (2 : Int); omega)
      have ha4b : 5 ≤ a4 ∧ a4 ≤ 1000000000 := by
        have := List.mem_of_getElem? hm4
        simp only [List.mem_cons, List.mem_nil_iff, or_false] at this
        omega
      refine ⟨_, rfl, _, _, rfl, rfl, (by show (0 : Int) < 2; decide), M4, _, _, .int a4, rfl, rfl, SqL.of upd_same, ha4, (by show 5 ≤ sizeLine; decide), fun G nG => ?_⟩
      have kG := same_upd (o := .lst ([0, 1, 2, 6, a4].map V.int)) nG
      refine ⟨Nat.zero_le _, fun Pp nPp => ⟨_, _, rfl, ?_⟩⟩
      have kP := same_upd (o := .lst []) nPp
      have gl : ∀ x ∈ ([0, 1, 2, 6, a4] : List Int), 0 ≤ x ∧ x ≤ 10 ^ 10 := fun x hx => by
        simp only [List.mem_cons, List.mem_nil_iff, or_false] at hx
        omega
      have s67 : Same H6 (upd (upd (upd H6 M4 (.lst ([5, 10 ^ 9].map V.int))) G (.lst ([0, 1, 2, 6, a4].map V.int))) Pp (.lst [])) := (k4.trans kG).trans kP
      have nP6 : H6 Pp = none := none_back (k4.trans kG) nPp
      have nG6 : H6 G = none := none_back k4 nG
      have Gr : G ≠ r := R6.new nG6
      have Pr : Pp ≠ r := R6.new nP6
      have hG7 : (upd (upd (upd H6 M4 (.lst ([5, 10 ^ 9].map V.int))) G (.lst ([0, 1, 2, 6, a4].map V.int))) Pp (.lst [])) G = some (.lst ([0, 1, 2, 6, a4].map V.int)) := kP _ _ (upd_same (H := upd H6 M4 (.lst ([5, 10 ^ 9].map V.int))) (a := G) (o := .lst ([0, 1, 2, 6, a4].map V.int)))
      have hP7 : (upd (upd (upd H6 M4 (.lst ([5, 10 ^ 9].map V.int))) G (.lst ([0, 1, 2, 6, a4].map V.int))) Pp (.lst [])) Pp = some (.lst []) := upd_same (H := upd (upd H6 M4 (.lst ([5, 10 ^ 9].map V.int))) G (.lst ([0, 1, 2, 6, a4].map V.int))) (a := Pp) (o := .lst [])
      have GP : G ≠ Pp := ne_of_none (upd_same (H := upd H6 M4 (.lst ([5, 10 ^ 9].map V.int))) (a := G) (o := .lst ([0, 1, 2, 6, a4].map V.int))) nPp
      have R7 := R6.same s67
      show tSeq _ _ _ _ (upd (upd (upd H6 M4 (.lst ([5, 10 ^ 9].map V.int))) G (.lst ([0, 1, 2, 6, a4].map V.int))) Pp (.lst []))
      generalize upd (upd (upd H6 M4 (.lst ([5, 10 ^ 9].map V.int))) G (.lst ([0, 1, 2, 6, a4].map V.int))) Pp (.lst []) = H7 at s67 hG7 hP7 R7 ⊢
      clear kP kG k4 nG nPp n4
      have hk0 : (0 : Int) < 1 + d2 := by omega
      refine ⟨2, rfl, by decide, by decide, for_it walk_range (fun u σ H' => ∃ (rows : List (Addr × List Ev)) (y9 y10 y11 y12 : Option V), σ = [some (.ref sc), some (.int (i : Int)), some (.ref r), some (.int (0 + (t : Int))), some (.int (1 + d1)), some (.int (1 + d2)), some (.ref c), some (.ref G), some (.ref Pp), y9, y10, y11, y12] ∧ Off r H6 H' ∧ Reel H' r (30000 * t + 1 + 1 + 10000 + 2001 * u) ∧ H' G = some (.lst ([0, 1, 2, 6, a4].map V.int)) ∧ Pairs H' r Pp mk rows ∧ rows.length = u)
        ⟨[], _, _, _, _, rfl, Off.of s67, R7, hG7, ⟨hP7, fun p hp => by cases hp⟩, rfl⟩ (fun _ _ _ _ _ => True.intro) (fun u x σ Hx H8 hu p y => ?_) (fun σ H8 p => ?_)⟩
      · obtain ⟨rows, y9, y10, y11, y12, rfl, o68, R8, hG8, P8, hrl⟩ := p
        obtain ⟨rfl, hx⟩ := y
        subst hx
        have hu : u < 2 := hu
        refine ⟨_, rfl, _, rfl, _, rfl, r, 25, _, rfl, by decide, by decide, by show _ < 1000000000; omega, R8, fun sz H9 z0 z1 R9 o9 => ?_⟩
        obtain ⟨sn, hsn⟩ : ∃ sn : Nat, sz = (sn : Int) := ⟨sz.toNat, by omega⟩
        subst hsn
        refine ⟨_, rfl, r, G, _, sn, 1 + d2, [0, 1, 2, 6, a4], rfl, R9, by show _ < 1000000000; omega, by omega, by omega, by omega, o9 _ _ hG8 Gr, Gr, (by show 0 < 5; decide), (by show 5 ≤ 10; decide), gl, fun Ha p es oa np Ra hLa oka => ?_⟩
        have hkm : ∀ e ∈ es, e.k < (mk : Int) := fun e he => by have := (oka.key e he).2; omega
        have hlen := oka.len
        have hV := oka.valid
        have pr : p ≠ r := R9.new np
        have o6a := (o68.trans o9).trans oa
        have Pa := (P8.go o9 R8 Pr).go oa R9 Pr
        have hGa := oa _ _ (o9 _ _ hG8 Gr) Gr
        have laya := lay o6a R6
        refine ⟨_, rfl, _, rfl, c, p, L, mk, es, rfl, laya, hO, hLa, hV, by omega, hkm, fun Hb sb => ⟨_, rfl, iteF ?_⟩⟩
        refine ⟨_, rfl, _, rfl, c, p, L, mk, es, rfl, laya.same sb, hO, hLa.same sb, hV, by omega, hkm, fun Hc sc' => ⟨_, rfl, iteF ?_⟩⟩
        have sac := sb.trans sc'
        have Pc := Pa.go (Off.of sac) Ra Pr
        refine ⟨_, rfl, .inl ⟨rfl, _, SqL.of Pc.at_⟩, ?_⟩
        refine ⟨_, rfl, p, es, rfl, hLa.same sac, hV, by omega, fun Hd pd ns' sd nd hLd pw ndp mem hnl => ?_⟩
        have hLd : Lst evV Hd pd (endM es ns') := hLd
        have sad := sac.trans sd
        have Pd := Pc.go (Off.of sd) (Ra.same sac) Pr
        have Rd := Ra.same sad
        have pdr : pd ≠ r := (Ra.same sac).new nd
        have pdP : pd ≠ Pp := fun z => by rw [z, Pc.at_] at nd; cases nd
        have rP : ∀ q ∈ rows, q.1 ≠ Pp := fun q hq z => by
          obtain ⟨⟨as, ha, hT⟩, _, _⟩ := Pd.row q hq
          rw [z, Pd.at_] at ha
          have e := HO.lst.inj (Option.some.inj ha)
          have hm : V.ref q.1 ∈ as.map V.ref := by rw [← e]; exact List.mem_map.mpr ⟨q, hq, rfl⟩
          obtain ⟨b, hb, eb⟩ := List.mem_map.mp hm
          obtain ⟨j, hj⟩ := List.getElem?_of_mem hb
          have hjl := (List.getElem?_eq_some_iff.mp hj).1
          have := hT.2 j b _ hj (List.getElem?_eq_getElem (by have := hT.1; omega))
          have eb := V.ref.inj eb
          rw [eb, z, Pd.at_] at this
          cases this
        have p20 : (10 : Int) ^ 20 = 100000000000000000000 := by decide
        have p21 : (10 : Int) ^ 21 = 1000000000000000000000 := by decide
        have lT : -(10 ^ 20) ≤ lastT es ∧ lastT es ≤ 10 ^ 20 := by
          unfold lastT
          cases hz : es.getLast? with
          | none => exact ⟨by decide, by decide⟩
          | some e =>
            have := oka.tick e (List.mem_of_getLast? hz)
            exact ⟨Int.le_of_lt this.1, Int.le_of_lt this.2⟩
        have ok : EndOk mk (endM es ns') := by
          refine ⟨endM_valid hV ndp mem, by rw [endM_len]; omega, end_key hkm mem, endM_none mem, fun e he => ?_⟩
          rcases List.mem_append.mp he with z | z
          · have := oka.tick e z; omega
          · obtain ⟨k, hk, rfl⟩ := List.mem_map.mp z
            show -(10 ^ 21) < lastT es + 1000000000 ∧ lastT es + 1000000000 < 10 ^ 21
            omega
        refine ⟨Pp, _, .ref pd, rfl, rfl, Pd.at_, small1000 (by rw [List.length_map]; omega), rows ++ [(pd, endM es ns')], _, _, _, _, rfl, ?_, ?_, ?_, Pd.push hLd pdr ok rP pdP, by rw [List.length_append, hrl]; rfl⟩
        · exact (o6a.sameTrans sad).new nP6
        · exact (Rd.upd Pr).mono (by omega)
        · rw [upd_ne GP]
          exact sad _ _ hGa
      · obtain ⟨rows, y9, y10, y11, y12, rfl, o68, R8, hG8, P8, hrl⟩ := p
        have hrl : rows.length = 2 := hrl
        match rows, hrl, P8 with
        | [pa, pb], _, P8 => ?_
        obtain ⟨pa, ea⟩ := pa
        obtain ⟨pb, eb⟩ := pb
        obtain ⟨la, na, oka⟩ := P8.row (pa, ea) List.mem_cons_self
        obtain ⟨lb, nb, okb⟩ := P8.row (pb, eb) (List.mem_cons_of_mem _ List.mem_cons_self)
        have hPp : H8 Pp = some (.lst [.ref pa, .ref pb]) := P8.at_
        have it0 : ∀ {H' : Hp}, Same H8 H' → SqL K H' Pp [.ref pa, .ref pb] := fun s => SqL.of (s _ _ hPp)
        refine ⟨_, rfl, Pp, _, 0, .ref pa, rfl, rfl, it0 (Same.refl _), atI_nat (j := 0) rfl, _, rfl, Pp, _, 1, .ref pb, rfl, rfl, it0 (Same.refl _), atI_nat (j := 1) rfl, (by show 2 ≤ sizeLine; decide), fun T1 n1 => ?_⟩
        have k1 := same_upd (o := .tup [.ref pa, .ref pb]) n1
        refine ⟨_, rfl, Pp, _, 1, .ref pb, rfl, rfl, it0 k1, atI_nat (j := 1) rfl, _, rfl, Pp, _, 0, .ref pa, rfl, rfl, it0 k1, atI_nat (j := 0) rfl, (by show 2 ≤ sizeLine; decide), fun T2 n2 => ?_⟩
        have k2 := same_upd (o := .tup [.ref pb, .ref pa]) n2
        have k12 := k1.trans k2
        refine ⟨_, rfl, Pp, _, 0, .ref pa, rfl, rfl, it0 k12, atI_nat (j := 0) rfl, Nat.zero_le _, fun Z nZ => ⟨(by show 2 ≤ sizeLine; decide), fun T3 n3 => ?_⟩⟩
        have kZ := same_upd (o := .lst []) nZ
        have k3 := same_upd (o := .tup [.ref pa, .ref Z]) n3
        have k13 := (k12.trans kZ).trans k3
        refine ⟨Nat.zero_le _, fun Y nY => ?_⟩
        have kY := same_upd (o := .lst []) nY
        refine ⟨_, rfl, Pp, _, 1, .ref pb, rfl, rfl, it0 (k13.trans kY), atI_nat (j := 1) rfl, (by show 2 ≤ sizeLine; decide), fun T4 n4 => ⟨(by show 4 ≤ sizeLine; decide), fun T nT => ?_⟩⟩
        have k4 := same_upd (o := .tup [.ref Y, .ref pb]) n4
        have kT := same_upd (o := .tup [.ref T1, .ref T2, .ref T3, .ref T4]) nT
        have f1 := (((((k2.trans kZ).trans k3).trans kY).trans k4).trans kT) _ _ (upd_same (H := H8) (a := T1) (o := .tup [.ref pa, .ref pb]))
        have f2 := ((((kZ.trans k3).trans kY).trans k4).trans kT) _ _ (upd_same (H := upd H8 T1 (.tup [.ref pa, .ref pb])) (a := T2) (o := .tup [.ref pb, .ref pa]))
        have fZ := (((k3.trans kY).trans k4).trans kT) _ _ (upd_same (H := upd (upd H8 T1 (.tup [.ref pa, .ref pb])) T2 (.tup [.ref pb, .ref pa])) (a := Z) (o := .lst []))
        have f3 := ((kY.trans k4).trans kT) _ _ (upd_same (H := upd (upd (upd H8 T1 (.tup [.ref pa, .ref pb])) T2 (.tup [.ref pb, .ref pa])) Z (.lst [])) (a := T3) (o := .tup [.ref pa, .ref Z]))
        have fY := (k4.trans kT) _ _ (upd_same (H := upd (upd (upd (upd H8 T1 (.tup [.ref pa, .ref pb])) T2 (.tup [.ref pb, .ref pa])) Z (.lst [])) T3 (.tup [.ref pa, .ref Z])) (a := Y) (o := .lst []))
        have f4 := kT _ _ (upd_same (H := upd (upd (upd (upd (upd H8 T1 (.tup [.ref pa, .ref pb])) T2 (.tup [.ref pb, .ref pa])) Z (.lst [])) T3 (.tup [.ref pa, .ref Z])) Y (.lst [])) (a := T4) (o := .tup [.ref Y, .ref pb]))
        have s89 := ((k13.trans kY).trans k4).trans kT
        have hT := upd_same (H := upd (upd (upd (upd (upd (upd H8 T1 (.tup [.ref pa, .ref pb])) T2 (.tup [.ref pb, .ref pa])) Z (.lst [])) T3 (.tup [.ref pa, .ref Z])) Y (.lst [])) T4 (.tup [.ref Y, .ref pb])) (a := T) (o := .tup [.ref T1, .ref T2, .ref T3, .ref T4])
        generalize upd (upd (upd (upd (upd (upd (upd H8 T1 (.tup [.ref pa, .ref pb])) T2 (.tup [.ref pb, .ref pa])) Z (.lst [])) T3 (.tup [.ref pa, .ref Z])) Y (.lst [])) T4 (.tup [.ref Y, .ref pb])) T (.tup [.ref T1, .ref T2, .ref T3, .ref T4]) = H9 at f1 f2 fZ f3 fY f4 s89 hT ⊢
        clear k1 k2 k12 kZ k3 k13 kY k4 kT n1 n2 n3 n4 nZ nY nT
        have lay9 := (lay o68 R6).same s89
        have lZ : Lst evV H9 Z [] := ⟨[], fZ, Tups.nil⟩
        have lY : Lst evV H9 Y [] := ⟨[], fY, Tups.nil⟩
        have la9 := la.same s89
        have lb9 := lb.same s89
        refine ⟨T, rfl, ⟨_, SqT.of hT⟩, for_it (walk_tup (xs := [.ref T1, .ref T2, .ref T3, .ref T4])) (fun j σ H' => Same H9 H' ∧ ∃ y11 y12, σ = [some (.ref sc), some (.int (i : Int)), some (.ref r), some (.int (0 + (t : Int))), some (.int (1 + d1)), some (.int (1 + d2)), some (.ref c), some (.ref G), some (.ref Pp), y9, y10, y11, y12]) ⟨Same.refl _, _, _, rfl⟩ (fun j σ H' _ p => SqT.of (p.1 _ _ hT)) (fun j x σ Hx Hy hj p y => ?_) (fun σ Hz p => ?_)⟩
        · obtain ⟨sx, y11, y12, rfl⟩ := p
          obtain ⟨rfl, hx⟩ := y
          obtain ⟨Tj, ga, gb, one, two, rfl, hTj, l1, l2, o1, o2⟩ : ∃ (Tj ga gb : Addr) (one two : List Ev), x = .ref Tj ∧ Hy Tj = some (.tup [.ref ga, .ref gb]) ∧ Lst evV Hy ga one ∧ Lst evV Hy gb two ∧ EndOk mk one ∧ EndOk mk two := by
            match j, hj, hx with
            | 0, _, hx => exact ⟨T1, pa, pb, ea, eb, (Option.some.inj hx).symm, sx _ _ f1, la9.same sx, lb9.same sx, oka, okb⟩
            | 1, _, hx => exact ⟨T2, pb, pa, eb, ea, (Option.some.inj hx).symm, sx _ _ f2, lb9.same sx, la9.same sx, okb, oka⟩
            | 2, _, hx => exact ⟨T3, pa, Z, ea, [], (Option.some.inj hx).symm, sx _ _ f3, la9.same sx, lZ.same sx, oka, EndOk.nil⟩
            | 3, _, hx => exact ⟨T4, Y, pb, [], eb, (Option.some.inj hx).symm, sx _ _ f4, lY.same sx, lb9.same sx, EndOk.nil, okb⟩
            | j + 4, hj, _ => exact absurd hj (by show ¬ j + 4 < 4; omega)
          refine ⟨Tj, _, rfl, SqT.of hTj, rfl, _, _, rfl, _, _, rfl, rfl, ?_⟩
          exact ⟨_, rfl, _, rfl, _, rfl, c, ga, gb, L, mk, one, two, rfl, lay9.same sx, hO, l1, o1.valid, o1.len, o1.key, o1.whole, o1.tick, l2, o2.valid, o2.len, o2.key, o2.whole, o2.tick, fun Hz sz => ⟨_, rfl, iteF ⟨sx.trans sz, _, _, rfl⟩⟩⟩
        · obtain ⟨sx, y11, y12, rfl⟩ := p
          have oz := (o68.sameTrans s89).sameTrans sx
          exact ⟨o26.trans oz, (((R8.same s89).same sx)).mono (by omega), _, _, _, _, _, _, _, _, _, _, rfl⟩
    · obtain ⟨o3, R3, y3, y4, y5, y6, y7, y8, y9, y10, y11, y12, rfl⟩ := p
      exact ⟨s1.trans (fun b u hb => o3 _ _ (s2 _ _ hb) (ne_of_none hb nr)), _, _, _, _, _, _, _, _, _, _, _, _, rfl⟩
end
end K86

set_option Elab.async false
set_option linter.all false
set_option maxRecDepth 100000
set_option maxHeartbeats 8000000
namespace K86
open PySem PySem.Spec PyProof.Rows L2 Gd Rm
theorem at_mk {K : PySem.W.Frag} {h : Heap} {mg : Str → Option Value} {x : Str} {st : Stmt} {ps : List Str} {f : Addr} {od an : Option Addr} {sl : Array (Option Value)} {oc kV dc pm cd ct : Value} (X : K.In h) (G : h.Ns mainGlobals mg)
    (a : PySem.W.nsIn K mainGlobals x = some (some (.ref f))) (l : K.lookup f = some ⟨oc, od, .func (PySem.W.fnOf x x (defArgs st) (defBody st) (defScope st) .none kV dc pm an cd ct), sl⟩) (c : PySem.W.codeIn K cd x = true) (k : PySem.W.keepIn K (.ref f) = true)
    (hb : ∀ (kV doc pm : Value) (an : Option Addr) (cdv ct : Value) (us : List Value), us.length = ps.length → bindArgs (PySem.W.fnOf x x (defArgs st) (defBody st) (defScope st) .none kV doc pm an cdv ct) ⟨us, []⟩ = pure (ps.zip us)) : At K mg x st ps :=
  ⟨_, _, fun_mk l c k, PySem.W.mg_of X G a, (fun_mk l c k).binds hb⟩
theorem all_mk {l : PySem.W.OpenLaw} {w : World} {K : PySem.W.Frag} {h : Heap} {mg : Str → Option Value} {fa : Addr} (X : K.In h) (G : h.Ns mainGlobals mg) (hfa : mg "law" = some (.ref fa))
    {f0 : Addr} {od0 an0 : Option Addr} {sl0 : Array (Option Value)} {oc0 kV0 dc0 pm0 cd0 ct0 : Value}
    {f1 : Addr} {od1 an1 : Option Addr} {sl1 : Array (Option Value)} {oc1 kV1 dc1 pm1 cd1 ct1 : Value}
    {f2 : Addr} {od2 an2 : Option Addr} {sl2 : Array (Option Value)} {oc2 kV2 dc2 pm2 cd2 ct2 : Value}
    {f3 : Addr} {od3 an3 : Option Addr} {sl3 : Array (Option Value)} {oc3 kV3 dc3 pm3 cd3 ct3 : Value}
    {f4 : Addr} {od4 an4 : Option Addr} {sl4 : Array (Option Value)} {oc4 kV4 dc4 pm4 cd4 ct4 : Value}
    {f5 : Addr} {od5 an5 : Option Addr} {sl5 : Array (Option Value)} {oc5 kV5 dc5 pm5 cd5 ct5 : Value}
    {f6 : Addr} {od6 an6 : Option Addr} {sl6 : Array (Option Value)} {oc6 kV6 dc6 pm6 cd6 ct6 : Value}
    {f7 : Addr} {od7 an7 : Option Addr} {sl7 : Array (Option Value)} {oc7 kV7 dc7 pm7 cd7 ct7 : Value}
    {f8 : Addr} {od8 an8 : Option Addr} {sl8 : Array (Option Value)} {oc8 kV8 dc8 pm8 cd8 ct8 : Value}
    {f9 : Addr} {od9 an9 : Option Addr} {sl9 : Array (Option Value)} {oc9 kV9 dc9 pm9 cd9 ct9 : Value}
    {f10 : Addr} {od10 an10 : Option Addr} {sl10 : Array (Option Value)} {oc10 kV10 dc10 pm10 cd10 ct10 : Value}
    {f11 : Addr} {od11 an11 : Option Addr} {sl11 : Array (Option Value)} {oc11 kV11 dc11 pm11 cd11 ct11 : Value}
    {f12 : Addr} {od12 an12 : Option Addr} {sl12 : Array (Option Value)} {oc12 kV12 dc12 pm12 cd12 ct12 : Value}
    {f13 : Addr} {od13 an13 : Option Addr} {sl13 : Array (Option Value)} {oc13 kV13 dc13 pm13 cd13 ct13 : Value}
    {f14 : Addr} {od14 an14 : Option Addr} {sl14 : Array (Option Value)} {oc14 kV14 dc14 pm14 cd14 ct14 : Value}
    {f15 : Addr} {od15 an15 : Option Addr} {sl15 : Array (Option Value)} {oc15 kV15 dc15 pm15 cd15 ct15 : Value}
    {f16 : Addr} {od16 an16 : Option Addr} {sl16 : Array (Option Value)} {oc16 kV16 dc16 pm16 cd16 ct16 : Value}
    {T16 : Addr} {td16 : Option Addr} {ts16 : Array (Option Value)} {tn16 : Nat}
    {f17 : Addr} {od17 an17 : Option Addr} {sl17 : Array (Option Value)} {oc17 kV17 dc17 pm17 cd17 ct17 : Value}
    {T17 : Addr} {td17 : Option Addr} {ts17 : Array (Option Value)} {tn17 : Nat}
    {f18 : Addr} {od18 an18 : Option Addr} {sl18 : Array (Option Value)} {oc18 kV18 dc18 pm18 cd18 ct18 : Value}
    {f19 : Addr} {od19 an19 : Option Addr} {sl19 : Array (Option Value)} {oc19 kV19 dc19 pm19 cd19 ct19 : Value}
    {f20 : Addr} {od20 an20 : Option Addr} {sl20 : Array (Option Value)} {oc20 kV20 dc20 pm20 cd20 ct20 : Value}
    {f21 : Addr} {od21 an21 : Option Addr} {sl21 : Array (Option Value)} {oc21 kV21 dc21 pm21 cd21 ct21 : Value}
    {f22 : Addr} {od22 an22 : Option Addr} {sl22 : Array (Option Value)} {oc22 kV22 dc22 pm22 cd22 ct22 : Value}
    {f23 : Addr} {od23 an23 : Option Addr} {sl23 : Array (Option Value)} {oc23 kV23 dc23 pm23 cd23 ct23 : Value}
    {f24 : Addr} {od24 an24 : Option Addr} {sl24 : Array (Option Value)} {oc24 kV24 dc24 pm24 cd24 ct24 : Value}
    {f25 : Addr} {od25 an25 : Option Addr} {sl25 : Array (Option Value)} {oc25 kV25 dc25 pm25 cd25 ct25 : Value}
    {f26 : Addr} {od26 an26 : Option Addr} {sl26 : Array (Option Value)} {oc26 kV26 dc26 pm26 cd26 ct26 : Value}
    {f27 : Addr} {od27 an27 : Option Addr} {sl27 : Array (Option Value)} {oc27 kV27 dc27 pm27 cd27 ct27 : Value}
    {f28 : Addr} {od28 an28 : Option Addr} {sl28 : Array (Option Value)} {oc28 kV28 dc28 pm28 cd28 ct28 : Value}
    {f29 : Addr} {od29 an29 : Option Addr} {sl29 : Array (Option Value)} {oc29 kV29 dc29 pm29 cd29 ct29 : Value}
    {f30 : Addr} {od30 an30 : Option Addr} {sl30 : Array (Option Value)} {oc30 kV30 dc30 pm30 cd30 ct30 : Value}
    {f31 : Addr} {od31 an31 : Option Addr} {sl31 : Array (Option Value)} {oc31 kV31 dc31 pm31 cd31 ct31 : Value}
    {f32 : Addr} {od32 an32 : Option Addr} {sl32 : Array (Option Value)} {oc32 kV32 dc32 pm32 cd32 ct32 : Value}
    {f33 : Addr} {od33 an33 : Option Addr} {sl33 : Array (Option Value)} {oc33 kV33 dc33 pm33 cd33 ct33 : Value}
    {f34 : Addr} {od34 an34 : Option Addr} {sl34 : Array (Option Value)} {oc34 kV34 dc34 pm34 cd34 ct34 : Value}
    {f35 : Addr} {od35 an35 : Option Addr} {sl35 : Array (Option Value)} {oc35 kV35 dc35 pm35 cd35 ct35 : Value}
    {f36 : Addr} {od36 an36 : Option Addr} {sl36 : Array (Option Value)} {oc36 kV36 dc36 pm36 cd36 ct36 : Value}
    {f37 : Addr} {od37 an37 : Option Addr} {sl37 : Array (Option Value)} {oc37 kV37 dc37 pm37 cd37 ct37 : Value}
    {f38 : Addr} {od38 an38 : Option Addr} {sl38 : Array (Option Value)} {oc38 kV38 dc38 pm38 cd38 ct38 : Value}
    {f39 : Addr} {od39 an39 : Option Addr} {sl39 : Array (Option Value)} {oc39 kV39 dc39 pm39 cd39 ct39 : Value}
    {f40 : Addr} {od40 an40 : Option Addr} {sl40 : Array (Option Value)} {oc40 kV40 dc40 pm40 cd40 ct40 : Value}
    {f41 : Addr} {od41 an41 : Option Addr} {sl41 : Array (Option Value)} {oc41 kV41 dc41 pm41 cd41 ct41 : Value}
    {f42 : Addr} {od42 an42 : Option Addr} {sl42 : Array (Option Value)} {oc42 kV42 dc42 pm42 cd42 ct42 : Value}
    {f43 : Addr} {od43 an43 : Option Addr} {sl43 : Array (Option Value)} {oc43 kV43 dc43 pm43 cd43 ct43 : Value}
    {f44 : Addr} {od44 an44 : Option Addr} {sl44 : Array (Option Value)} {oc44 kV44 dc44 pm44 cd44 ct44 : Value}
    {f45 : Addr} {od45 an45 : Option Addr} {sl45 : Array (Option Value)} {oc45 kV45 dc45 pm45 cd45 ct45 : Value}
    {f46 : Addr} {od46 an46 : Option Addr} {sl46 : Array (Option Value)} {oc46 kV46 dc46 pm46 cd46 ct46 : Value}
    {f47 : Addr} {od47 an47 : Option Addr} {sl47 : Array (Option Value)} {oc47 kV47 dc47 pm47 cd47 ct47 : Value}
    {f48 : Addr} {od48 an48 : Option Addr} {sl48 : Array (Option Value)} {oc48 kV48 dc48 pm48 cd48 ct48 : Value}
    {f49 : Addr} {od49 an49 : Option Addr} {sl49 : Array (Option Value)} {oc49 kV49 dc49 pm49 cd49 ct49 : Value}
    {f50 : Addr} {od50 an50 : Option Addr} {sl50 : Array (Option Value)} {oc50 kV50 dc50 pm50 cd50 ct50 : Value}
    {f51 : Addr} {od51 an51 : Option Addr} {sl51 : Array (Option Value)} {oc51 kV51 dc51 pm51 cd51 ct51 : Value}
    {f52 : Addr} {od52 an52 : Option Addr} {sl52 : Array (Option Value)} {oc52 kV52 dc52 pm52 cd52 ct52 : Value}
    {f53 : Addr} {od53 an53 : Option Addr} {sl53 : Array (Option Value)} {oc53 kV53 dc53 pm53 cd53 ct53 : Value}
    {tk0 : Tok}
    {tk1 : Tok}
    {tk2 : Tok}
    {g3 : Addr} {gs3 : Array (Option Value)} {gn3 : Nat} {tk3_0 tk3_1 tk3_2 : Tok}
    {g4 : Addr} {gs4 : Array (Option Value)} {gn4 : Nat} {tk4_0 tk4_1 tk4_2 : Tok}
    {tk5 : Tok}
    {tk6 : Tok}
    {tk7 : Tok}
    {tk8 : Tok}
    {tk9 : Tok}
    {tk10 : Tok}
    {tk11 : Tok}
    {C : Addr}
    {mf0 : Addr} {mod0 man0 : Option Addr} {msl0 : Array (Option Value)} {moc0 mkV0 mdc0 mpm0 mcd0 mct0 : Value}
    {mf1 : Addr} {mod1 man1 : Option Addr} {msl1 : Array (Option Value)} {moc1 mkV1 mdc1 mpm1 mcd1 mct1 : Value}
    {mf2 : Addr} {mod2 man2 : Option Addr} {msl2 : Array (Option Value)} {moc2 mkV2 mdc2 mpm2 mcd2 mct2 : Value}
    {mf3 : Addr} {mod3 man3 : Option Addr} {msl3 : Array (Option Value)} {moc3 mkV3 mdc3 mpm3 mcd3 mct3 : Value}
    {mf4 : Addr} {mod4 man4 : Option Addr} {msl4 : Array (Option Value)} {moc4 mkV4 mdc4 mpm4 mcd4 mct4 : Value}
    {mf5 : Addr} {mod5 man5 : Option Addr} {msl5 : Array (Option Value)} {moc5 mkV5 mdc5 mpm5 mcd5 mct5 : Value}
    {C1 : Addr}
    {q1mf0 : Addr} {q1mod0 q1man0 : Option Addr} {q1msl0 : Array (Option Value)} {q1moc0 q1mkV0 q1mdc0 q1mpm0 q1mcd0 q1mct0 : Value}
    {q1mf1 : Addr} {q1mod1 q1man1 : Option Addr} {q1msl1 : Array (Option Value)} {q1moc1 q1mkV1 q1mdc1 q1mpm1 q1mcd1 q1mct1 : Value}
    {q1mf2 : Addr} {q1mod2 q1man2 : Option Addr} {q1msl2 : Array (Option Value)} {q1moc2 q1mkV2 q1mdc2 q1mpm2 q1mcd2 q1mct2 : Value}
    {q1mf3 : Addr} {q1mod3 q1man3 : Option Addr} {q1msl3 : Array (Option Value)} {q1moc3 q1mkV3 q1mdc3 q1mpm3 q1mcd3 q1mct3 : Value}
    {q1mf4 : Addr} {q1mod4 q1man4 : Option Addr} {q1msl4 : Array (Option Value)} {q1moc4 q1mkV4 q1mdc4 q1mpm4 q1mcd4 q1mct4 : Value}
    {q1mf5 : Addr} {q1mod5 q1man5 : Option Addr} {q1msl5 : Array (Option Value)} {q1moc5 q1mkV5 q1mdc5 q1mpm5 q1mcd5 q1mct5 : Value}
    (a0 : PySem.W.nsIn K mainGlobals "is_an_integer" = some (some (.ref f0))) (l0 : K.lookup f0 = some ⟨oc0, od0, .func (PySem.W.fnOf "is_an_integer" "is_an_integer" (defArgs s_is_an_integer) (defBody s_is_an_integer) (defScope s_is_an_integer) .none kV0 dc0 pm0 an0 cd0 ct0), sl0⟩) (c0 : PySem.W.codeIn K cd0 "is_an_integer" = true) (k0 : PySem.W.keepIn K (.ref f0) = true)
    (a1 : PySem.W.nsIn K mainGlobals "is_between" = some (some (.ref f1))) (l1 : K.lookup f1 = some ⟨oc1, od1, .func (PySem.W.fnOf "is_between" "is_between" (defArgs s_is_between) (defBody s_is_between) (defScope s_is_between) .none kV1 dc1 pm1 an1 cd1 ct1), sl1⟩) (c1 : PySem.W.codeIn K cd1 "is_between" = true) (k1 : PySem.W.keepIn K (.ref f1) = true)
    (a2 : PySem.W.nsIn K mainGlobals "is_code" = some (some (.ref f2))) (l2 : K.lookup f2 = some ⟨oc2, od2, .func (PySem.W.fnOf "is_code" "is_code" (defArgs s_is_code) (defBody s_is_code) (defScope s_is_code) .none kV2 dc2 pm2 an2 cd2 ct2), sl2⟩) (c2 : PySem.W.codeIn K cd2 "is_code" = true) (k2 : PySem.W.keepIn K (.ref f2) = true)
    (a3 : PySem.W.nsIn K mainGlobals "is_code_action" = some (some (.ref f3))) (l3 : K.lookup f3 = some ⟨oc3, od3, .func (PySem.W.fnOf "is_code_action" "is_code_action" (defArgs s_is_code_action) (defBody s_is_code_action) (defScope s_is_code_action) .none kV3 dc3 pm3 an3 cd3 ct3), sl3⟩) (c3 : PySem.W.codeIn K cd3 "is_code_action" = true) (k3 : PySem.W.keepIn K (.ref f3) = true)
    (a4 : PySem.W.nsIn K mainGlobals "is_layer_action" = some (some (.ref f4))) (l4 : K.lookup f4 = some ⟨oc4, od4, .func (PySem.W.fnOf "is_layer_action" "is_layer_action" (defArgs s_is_layer_action) (defBody s_is_layer_action) (defScope s_is_layer_action) .none kV4 dc4 pm4 an4 cd4 ct4), sl4⟩) (c4 : PySem.W.codeIn K cd4 "is_layer_action" = true) (k4 : PySem.W.keepIn K (.ref f4) = true)
    (a5 : PySem.W.nsIn K mainGlobals "is_hold" = some (some (.ref f5))) (l5 : K.lookup f5 = some ⟨oc5, od5, .func (PySem.W.fnOf "is_hold" "is_hold" (defArgs s_is_hold) (defBody s_is_hold) (defScope s_is_hold) .none kV5 dc5 pm5 an5 cd5 ct5), sl5⟩) (c5 : PySem.W.codeIn K cd5 "is_hold" = true) (k5 : PySem.W.keepIn K (.ref f5) = true)
    (a6 : PySem.W.nsIn K mainGlobals "is_dual_action" = some (some (.ref f6))) (l6 : K.lookup f6 = some ⟨oc6, od6, .func (PySem.W.fnOf "is_dual_action" "is_dual_action" (defArgs s_is_dual_action) (defBody s_is_dual_action) (defScope s_is_dual_action) .none kV6 dc6 pm6 an6 cd6 ct6), sl6⟩) (c6 : PySem.W.codeIn K cd6 "is_dual_action" = true) (k6 : PySem.W.keepIn K (.ref f6) = true)
    (a7 : PySem.W.nsIn K mainGlobals "can_stand" = some (some (.ref f7))) (l7 : K.lookup f7 = some ⟨oc7, od7, .func (PySem.W.fnOf "can_stand" "can_stand" (defArgs s_can_stand) (defBody s_can_stand) (defScope s_can_stand) .none kV7 dc7 pm7 an7 cd7 ct7), sl7⟩) (c7 : PySem.W.codeIn K cd7 "can_stand" = true) (k7 : PySem.W.keepIn K (.ref f7) = true)
    (a8 : PySem.W.nsIn K mainGlobals "has_layout_form" = some (some (.ref f8))) (l8 : K.lookup f8 = some ⟨oc8, od8, .func (PySem.W.fnOf "has_layout_form" "has_layout_form" (defArgs s_has_layout_form) (defBody s_has_layout_form) (defScope s_has_layout_form) .none kV8 dc8 pm8 an8 cd8 ct8), sl8⟩) (c8 : PySem.W.codeIn K cd8 "has_layout_form" = true) (k8 : PySem.W.keepIn K (.ref f8) = true)
    (a9 : PySem.W.nsIn K mainGlobals "check_layout" = some (some (.ref f9))) (l9 : K.lookup f9 = some ⟨oc9, od9, .func (PySem.W.fnOf "check_layout" "check_layout" (defArgs s_check_layout) (defBody s_check_layout) (defScope s_check_layout) .none kV9 dc9 pm9 an9 cd9 ct9), sl9⟩) (c9 : PySem.W.codeIn K cd9 "check_layout" = true) (k9 : PySem.W.keepIn K (.ref f9) = true)
    (a10 : PySem.W.nsIn K mainGlobals "is_step" = some (some (.ref f10))) (l10 : K.lookup f10 = some ⟨oc10, od10, .func (PySem.W.fnOf "is_step" "is_step" (defArgs s_is_step) (defBody s_is_step) (defScope s_is_step) .none kV10 dc10 pm10 an10 cd10 ct10), sl10⟩) (c10 : PySem.W.codeIn K cd10 "is_step" = true) (k10 : PySem.W.keepIn K (.ref f10) = true)
    (a11 : PySem.W.nsIn K mainGlobals "is_event" = some (some (.ref f11))) (l11 : K.lookup f11 = some ⟨oc11, od11, .func (PySem.W.fnOf "is_event" "is_event" (defArgs s_is_event) (defBody s_is_event) (defScope s_is_event) .none kV11 dc11 pm11 an11 cd11 ct11), sl11⟩) (c11 : PySem.W.codeIn K cd11 "is_event" = true) (k11 : PySem.W.keepIn K (.ref f11) = true)
    (a12 : PySem.W.nsIn K mainGlobals "is_short_list" = some (some (.ref f12))) (l12 : K.lookup f12 = some ⟨oc12, od12, .func (PySem.W.fnOf "is_short_list" "is_short_list" (defArgs s_is_short_list) (defBody s_is_short_list) (defScope s_is_short_list) .none kV12 dc12 pm12 an12 cd12 ct12), sl12⟩) (c12 : PySem.W.codeIn K cd12 "is_short_list" = true) (k12 : PySem.W.keepIn K (.ref f12) = true)
    (a13 : PySem.W.nsIn K mainGlobals "takes_turn" = some (some (.ref f13))) (l13 : K.lookup f13 = some ⟨oc13, od13, .func (PySem.W.fnOf "takes_turn" "takes_turn" (defArgs s_takes_turn) (defBody s_takes_turn) (defScope s_takes_turn) .none kV13 dc13 pm13 an13 cd13 ct13), sl13⟩) (c13 : PySem.W.codeIn K cd13 "takes_turn" = true) (k13 : PySem.W.keepIn K (.ref f13) = true)
    (a14 : PySem.W.nsIn K mainGlobals "is_below" = some (some (.ref f14))) (l14 : K.lookup f14 = some ⟨oc14, od14, .func (PySem.W.fnOf "is_below" "is_below" (defArgs s_is_below) (defBody s_is_below) (defScope s_is_below) .none kV14 dc14 pm14 an14 cd14 ct14), sl14⟩) (c14 : PySem.W.codeIn K cd14 "is_below" = true) (k14 : PySem.W.keepIn K (.ref f14) = true)
    (a15 : PySem.W.nsIn K mainGlobals "can_follow" = some (some (.ref f15))) (l15 : K.lookup f15 = some ⟨oc15, od15, .func (PySem.W.fnOf "can_follow" "can_follow" (defArgs s_can_follow) (defBody s_can_follow) (defScope s_can_follow) .none kV15 dc15 pm15 an15 cd15 ct15), sl15⟩) (c15 : PySem.W.codeIn K cd15 "can_follow" = true) (k15 : PySem.W.keepIn K (.ref f15) = true)
    (a16 : PySem.W.nsIn K mainGlobals "check_record" = some (some (.ref f16))) (l16 : K.lookup f16 = some ⟨oc16, od16, .func (PySem.W.fnOf "check_record" "check_record" (defArgs s_check_record) (defBody s_check_record) (defScope s_check_record) (.ref T16) kV16 dc16 pm16 an16 cd16 ct16), sl16⟩) (c16 : PySem.W.codeIn K cd16 "check_record" = true) (k16 : PySem.W.keepIn K (.ref f16) = true) (u_16 : K.lookup T16 = some ⟨.type "tuple", td16, .seq #[.none] tn16, ts16⟩)
    (a17 : PySem.W.nsIn K mainGlobals "check_order" = some (some (.ref f17))) (l17 : K.lookup f17 = some ⟨oc17, od17, .func (PySem.W.fnOf "check_order" "check_order" (defArgs s_check_order) (defBody s_check_order) (defScope s_check_order) (.ref T17) kV17 dc17 pm17 an17 cd17 ct17), sl17⟩) (c17 : PySem.W.codeIn K cd17 "check_order" = true) (k17 : PySem.W.keepIn K (.ref f17) = true) (u_17 : K.lookup T17 = some ⟨.type "tuple", td17, .seq #[.none] tn17, ts17⟩)
    (a18 : PySem.W.nsIn K mainGlobals "are_ticks" = some (some (.ref f18))) (l18 : K.lookup f18 = some ⟨oc18, od18, .func (PySem.W.fnOf "are_ticks" "are_ticks" (defArgs s_are_ticks) (defBody s_are_ticks) (defScope s_are_ticks) .none kV18 dc18 pm18 an18 cd18 ct18), sl18⟩) (c18 : PySem.W.codeIn K cd18 "are_ticks" = true) (k18 : PySem.W.keepIn K (.ref f18) = true)
    (a19 : PySem.W.nsIn K mainGlobals "with_ticks" = some (some (.ref f19))) (l19 : K.lookup f19 = some ⟨oc19, od19, .func (PySem.W.fnOf "with_ticks" "with_ticks" (defArgs s_with_ticks) (defBody s_with_ticks) (defScope s_with_ticks) .none kV19 dc19 pm19 an19 cd19 ct19), sl19⟩) (c19 : PySem.W.codeIn K cd19 "with_ticks" = true) (k19 : PySem.W.keepIn K (.ref f19) = true)
    (a20 : PySem.W.nsIn K mainGlobals "is_dual" = some (some (.ref f20))) (l20 : K.lookup f20 = some ⟨oc20, od20, .func (PySem.W.fnOf "is_dual" "is_dual" (defArgs s_is_dual) (defBody s_is_dual) (defScope s_is_dual) .none kV20 dc20 pm20 an20 cd20 ct20), sl20⟩) (c20 : PySem.W.codeIn K cd20 "is_dual" = true) (k20 : PySem.W.keepIn K (.ref f20) = true)
    (a21 : PySem.W.nsIn K mainGlobals "deciding_event" = some (some (.ref f21))) (l21 : K.lookup f21 = some ⟨oc21, od21, .func (PySem.W.fnOf "deciding_event" "deciding_event" (defArgs s_deciding_event) (defBody s_deciding_event) (defScope s_deciding_event) .none kV21 dc21 pm21 an21 cd21 ct21), sl21⟩) (c21 : PySem.W.codeIn K cd21 "deciding_event" = true) (k21 : PySem.W.keepIn K (.ref f21) = true)
    (a22 : PySem.W.nsIn K mainGlobals "sure_event" = some (some (.ref f22))) (l22 : K.lookup f22 = some ⟨oc22, od22, .func (PySem.W.fnOf "sure_event" "sure_event" (defArgs s_sure_event) (defBody s_sure_event) (defScope s_sure_event) .none kV22 dc22 pm22 an22 cd22 ct22), sl22⟩) (c22 : PySem.W.codeIn K cd22 "sure_event" = true) (k22 : PySem.W.keepIn K (.ref f22) = true)
    (a23 : PySem.W.nsIn K mainGlobals "dual_kind" = some (some (.ref f23))) (l23 : K.lookup f23 = some ⟨oc23, od23, .func (PySem.W.fnOf "dual_kind" "dual_kind" (defArgs s_dual_kind) (defBody s_dual_kind) (defScope s_dual_kind) .none kV23 dc23 pm23 an23 cd23 ct23), sl23⟩) (c23 : PySem.W.codeIn K cd23 "dual_kind" = true) (k23 : PySem.W.keepIn K (.ref f23) = true)
    (a24 : PySem.W.nsIn K mainGlobals "what_is_done" = some (some (.ref f24))) (l24 : K.lookup f24 = some ⟨oc24, od24, .func (PySem.W.fnOf "what_is_done" "what_is_done" (defArgs s_what_is_done) (defBody s_what_is_done) (defScope s_what_is_done) .none kV24 dc24 pm24 an24 cd24 ct24), sl24⟩) (c24 : PySem.W.codeIn K cd24 "what_is_done" = true) (k24 : PySem.W.keepIn K (.ref f24) = true)
    (a25 : PySem.W.nsIn K mainGlobals "play" = some (some (.ref f25))) (l25 : K.lookup f25 = some ⟨oc25, od25, .func (PySem.W.fnOf "play" "play" (defArgs s_play) (defBody s_play) (defScope s_play) .none kV25 dc25 pm25 an25 cd25 ct25), sl25⟩) (c25 : PySem.W.codeIn K cd25 "play" = true) (k25 : PySem.W.keepIn K (.ref f25) = true)
    (a26 : PySem.W.nsIn K mainGlobals "check_playable" = some (some (.ref f26))) (l26 : K.lookup f26 = some ⟨oc26, od26, .func (PySem.W.fnOf "check_playable" "check_playable" (defArgs s_check_playable) (defBody s_check_playable) (defScope s_check_playable) .none kV26 dc26 pm26 an26 cd26 ct26), sl26⟩) (c26 : PySem.W.codeIn K cd26 "check_playable" = true) (k26 : PySem.W.keepIn K (.ref f26) = true)
    (a27 : PySem.W.nsIn K mainGlobals "played" = some (some (.ref f27))) (l27 : K.lookup f27 = some ⟨oc27, od27, .func (PySem.W.fnOf "played" "played" (defArgs s_played) (defBody s_played) (defScope s_played) .none kV27 dc27 pm27 an27 cd27 ct27), sl27⟩) (c27 : PySem.W.codeIn K cd27 "played" = true) (k27 : PySem.W.keepIn K (.ref f27) = true)
    (a28 : PySem.W.nsIn K mainGlobals "layers_on" = some (some (.ref f28))) (l28 : K.lookup f28 = some ⟨oc28, od28, .func (PySem.W.fnOf "layers_on" "layers_on" (defArgs s_layers_on) (defBody s_layers_on) (defScope s_layers_on) .none kV28 dc28 pm28 an28 cd28 ct28), sl28⟩) (c28 : PySem.W.codeIn K cd28 "layers_on" = true) (k28 : PySem.W.keepIn K (.ref f28) = true)
    (a29 : PySem.W.nsIn K mainGlobals "come_all" = some (some (.ref f29))) (l29 : K.lookup f29 = some ⟨oc29, od29, .func (PySem.W.fnOf "come_all" "come_all" (defArgs s_come_all) (defBody s_come_all) (defScope s_come_all) .none kV29 dc29 pm29 an29 cd29 ct29), sl29⟩) (c29 : PySem.W.codeIn K cd29 "come_all" = true) (k29 : PySem.W.keepIn K (.ref f29) = true)
    (a30 : PySem.W.nsIn K mainGlobals "run_out" = some (some (.ref f30))) (l30 : K.lookup f30 = some ⟨oc30, od30, .func (PySem.W.fnOf "run_out" "run_out" (defArgs s_run_out) (defBody s_run_out) (defScope s_run_out) .none kV30 dc30 pm30 an30 cd30 ct30), sl30⟩) (c30 : PySem.W.codeIn K cd30 "run_out" = true) (k30 : PySem.W.keepIn K (.ref f30) = true)
    (a31 : PySem.W.nsIn K mainGlobals "outputs" = some (some (.ref f31))) (l31 : K.lookup f31 = some ⟨oc31, od31, .func (PySem.W.fnOf "outputs" "outputs" (defArgs s_outputs) (defBody s_outputs) (defScope s_outputs) .none kV31 dc31 pm31 an31 cd31 ct31), sl31⟩) (c31 : PySem.W.codeIn K cd31 "outputs" = true) (k31 : PySem.W.keepIn K (.ref f31) = true)
    (a32 : PySem.W.nsIn K mainGlobals "held_keys" = some (some (.ref f32))) (l32 : K.lookup f32 = some ⟨oc32, od32, .func (PySem.W.fnOf "held_keys" "held_keys" (defArgs s_held_keys) (defBody s_held_keys) (defScope s_held_keys) .none kV32 dc32 pm32 an32 cd32 ct32), sl32⟩) (c32 : PySem.W.codeIn K cd32 "held_keys" = true) (k32 : PySem.W.keepIn K (.ref f32) = true)
    (a33 : PySem.W.nsIn K mainGlobals "is_whole" = some (some (.ref f33))) (l33 : K.lookup f33 = some ⟨oc33, od33, .func (PySem.W.fnOf "is_whole" "is_whole" (defArgs s_is_whole) (defBody s_is_whole) (defScope s_is_whole) .none kV33 dc33 pm33 an33 cd33 ct33), sl33⟩) (c33 : PySem.W.codeIn K cd33 "is_whole" = true) (k33 : PySem.W.keepIn K (.ref f33) = true)
    (a34 : PySem.W.nsIn K mainGlobals "ended" = some (some (.ref f34))) (l34 : K.lookup f34 = some ⟨oc34, od34, .func (PySem.W.fnOf "ended" "ended" (defArgs s_ended) (defBody s_ended) (defScope s_ended) .none kV34 dc34 pm34 an34 cd34 ct34), sl34⟩) (c34 : PySem.W.codeIn K cd34 "ended" = true) (k34 : PySem.W.keepIn K (.ref f34) = true)
    (a35 : PySem.W.nsIn K mainGlobals "order_of" = some (some (.ref f35))) (l35 : K.lookup f35 = some ⟨oc35, od35, .func (PySem.W.fnOf "order_of" "order_of" (defArgs s_order_of) (defBody s_order_of) (defScope s_order_of) .none kV35 dc35 pm35 an35 cd35 ct35), sl35⟩) (c35 : PySem.W.codeIn K cd35 "order_of" = true) (k35 : PySem.W.keepIn K (.ref f35) = true)
    (a36 : PySem.W.nsIn K mainGlobals "lengths" = some (some (.ref f36))) (l36 : K.lookup f36 = some ⟨oc36, od36, .func (PySem.W.fnOf "lengths" "lengths" (defArgs s_lengths) (defBody s_lengths) (defScope s_lengths) .none kV36 dc36 pm36 an36 cd36 ct36), sl36⟩) (c36 : PySem.W.codeIn K cd36 "lengths" = true) (k36 : PySem.W.keepIn K (.ref f36) = true)
    (a37 : PySem.W.nsIn K mainGlobals "is_number" = some (some (.ref f37))) (l37 : K.lookup f37 = some ⟨oc37, od37, .func (PySem.W.fnOf "is_number" "is_number" (defArgs s_is_number) (defBody s_is_number) (defScope s_is_number) .none kV37 dc37 pm37 an37 cd37 ct37), sl37⟩) (c37 : PySem.W.codeIn K cd37 "is_number" = true) (k37 : PySem.W.keepIn K (.ref f37) = true)
    (a38 : PySem.W.nsIn K mainGlobals "is_signed_number" = some (some (.ref f38))) (l38 : K.lookup f38 = some ⟨oc38, od38, .func (PySem.W.fnOf "is_signed_number" "is_signed_number" (defArgs s_is_signed_number) (defBody s_is_signed_number) (defScope s_is_signed_number) .none kV38 dc38 pm38 an38 cd38 ct38), sl38⟩) (c38 : PySem.W.codeIn K cd38 "is_signed_number" = true) (k38 : PySem.W.keepIn K (.ref f38) = true)
    (a39 : PySem.W.nsIn K mainGlobals "way_sign" = some (some (.ref f39))) (l39 : K.lookup f39 = some ⟨oc39, od39, .func (PySem.W.fnOf "way_sign" "way_sign" (defArgs s_way_sign) (defBody s_way_sign) (defScope s_way_sign) .none kV39 dc39 pm39 an39 cd39 ct39), sl39⟩) (c39 : PySem.W.codeIn K cd39 "way_sign" = true) (k39 : PySem.W.keepIn K (.ref f39) = true)
    (a40 : PySem.W.nsIn K mainGlobals "event_text" = some (some (.ref f40))) (l40 : K.lookup f40 = some ⟨oc40, od40, .func (PySem.W.fnOf "event_text" "event_text" (defArgs s_event_text) (defBody s_event_text) (defScope s_event_text) .none kV40 dc40 pm40 an40 cd40 ct40), sl40⟩) (c40 : PySem.W.codeIn K cd40 "event_text" = true) (k40 : PySem.W.keepIn K (.ref f40) = true)
    (a41 : PySem.W.nsIn K mainGlobals "event_of" = some (some (.ref f41))) (l41 : K.lookup f41 = some ⟨oc41, od41, .func (PySem.W.fnOf "event_of" "event_of" (defArgs s_event_of) (defBody s_event_of) (defScope s_event_of) .none kV41 dc41 pm41 an41 cd41 ct41), sl41⟩) (c41 : PySem.W.codeIn K cd41 "event_of" = true) (k41 : PySem.W.keepIn K (.ref f41) = true)
    (a42 : PySem.W.nsIn K mainGlobals "format_record" = some (some (.ref f42))) (l42 : K.lookup f42 = some ⟨oc42, od42, .func (PySem.W.fnOf "format_record" "format_record" (defArgs s_format_record) (defBody s_format_record) (defScope s_format_record) .none kV42 dc42 pm42 an42 cd42 ct42), sl42⟩) (c42 : PySem.W.codeIn K cd42 "format_record" = true) (k42 : PySem.W.keepIn K (.ref f42) = true)
    (a43 : PySem.W.nsIn K mainGlobals "parse_record" = some (some (.ref f43))) (l43 : K.lookup f43 = some ⟨oc43, od43, .func (PySem.W.fnOf "parse_record" "parse_record" (defArgs s_parse_record) (defBody s_parse_record) (defScope s_parse_record) .none kV43 dc43 pm43 an43 cd43 ct43), sl43⟩) (c43 : PySem.W.codeIn K cd43 "parse_record" = true) (k43 : PySem.W.keepIn K (.ref f43) = true)
    (a44 : PySem.W.nsIn K mainGlobals "_law_reel" = some (some (.ref f44))) (l44 : K.lookup f44 = some ⟨oc44, od44, .func (PySem.W.fnOf "_law_reel" "_law_reel" (defArgs s__law_reel) (defBody s__law_reel) (defScope s__law_reel) .none kV44 dc44 pm44 an44 cd44 ct44), sl44⟩) (c44 : PySem.W.codeIn K cd44 "_law_reel" = true) (k44 : PySem.W.keepIn K (.ref f44) = true)
    (a45 : PySem.W.nsIn K mainGlobals "_law_spin" = some (some (.ref f45))) (l45 : K.lookup f45 = some ⟨oc45, od45, .func (PySem.W.fnOf "_law_spin" "_law_spin" (defArgs s__law_spin) (defBody s__law_spin) (defScope s__law_spin) .none kV45 dc45 pm45 an45 cd45 ct45), sl45⟩) (c45 : PySem.W.codeIn K cd45 "_law_spin" = true) (k45 : PySem.W.keepIn K (.ref f45) = true)
    (a46 : PySem.W.nsIn K mainGlobals "_law_code" = some (some (.ref f46))) (l46 : K.lookup f46 = some ⟨oc46, od46, .func (PySem.W.fnOf "_law_code" "_law_code" (defArgs s__law_code) (defBody s__law_code) (defScope s__law_code) .none kV46 dc46 pm46 an46 cd46 ct46), sl46⟩) (c46 : PySem.W.codeIn K cd46 "_law_code" = true) (k46 : PySem.W.keepIn K (.ref f46) = true)
    (a47 : PySem.W.nsIn K mainGlobals "_law_action" = some (some (.ref f47))) (l47 : K.lookup f47 = some ⟨oc47, od47, .func (PySem.W.fnOf "_law_action" "_law_action" (defArgs s__law_action) (defBody s__law_action) (defScope s__law_action) .none kV47 dc47 pm47 an47 cd47 ct47), sl47⟩) (c47 : PySem.W.codeIn K cd47 "_law_action" = true) (k47 : PySem.W.keepIn K (.ref f47) = true)
    (a48 : PySem.W.nsIn K mainGlobals "_law_layout" = some (some (.ref f48))) (l48 : K.lookup f48 = some ⟨oc48, od48, .func (PySem.W.fnOf "_law_layout" "_law_layout" (defArgs s__law_layout) (defBody s__law_layout) (defScope s__law_layout) .none kV48 dc48 pm48 an48 cd48 ct48), sl48⟩) (c48 : PySem.W.codeIn K cd48 "_law_layout" = true) (k48 : PySem.W.keepIn K (.ref f48) = true)
    (a49 : PySem.W.nsIn K mainGlobals "_law_record" = some (some (.ref f49))) (l49 : K.lookup f49 = some ⟨oc49, od49, .func (PySem.W.fnOf "_law_record" "_law_record" (defArgs s__law_record) (defBody s__law_record) (defScope s__law_record) .none kV49 dc49 pm49 an49 cd49 ct49), sl49⟩) (c49 : PySem.W.codeIn K cd49 "_law_record" = true) (k49 : PySem.W.keepIn K (.ref f49) = true)
    (a50 : PySem.W.nsIn K mainGlobals "_law_cuts_right" = some (some (.ref f50))) (l50 : K.lookup f50 = some ⟨oc50, od50, .func (PySem.W.fnOf "_law_cuts_right" "_law_cuts_right" (defArgs s__law_cuts_right) (defBody s__law_cuts_right) (defScope s__law_cuts_right) .none kV50 dc50 pm50 an50 cd50 ct50), sl50⟩) (c50 : PySem.W.codeIn K cd50 "_law_cuts_right" = true) (k50 : PySem.W.keepIn K (.ref f50) = true)
    (a51 : PySem.W.nsIn K mainGlobals "_law_ended_right" = some (some (.ref f51))) (l51 : K.lookup f51 = some ⟨oc51, od51, .func (PySem.W.fnOf "_law_ended_right" "_law_ended_right" (defArgs s__law_ended_right) (defBody s__law_ended_right) (defScope s__law_ended_right) .none kV51 dc51 pm51 an51 cd51 ct51), sl51⟩) (c51 : PySem.W.codeIn K cd51 "_law_ended_right" = true) (k51 : PySem.W.keepIn K (.ref f51) = true)
    (a52 : PySem.W.nsIn K mainGlobals "_law_joined_right" = some (some (.ref f52))) (l52 : K.lookup f52 = some ⟨oc52, od52, .func (PySem.W.fnOf "_law_joined_right" "_law_joined_right" (defArgs s__law_joined_right) (defBody s__law_joined_right) (defScope s__law_joined_right) .none kV52 dc52 pm52 an52 cd52 ct52), sl52⟩) (c52 : PySem.W.codeIn K cd52 "_law_joined_right" = true) (k52 : PySem.W.keepIn K (.ref f52) = true)
    (a53 : PySem.W.nsIn K mainGlobals "law" = some (some (.ref f53))) (l53 : K.lookup f53 = some ⟨oc53, od53, .func (PySem.W.fnOf "law" "law" (defArgs s_law) (defBody s_law) (defScope s_law) .none kV53 dc53 pm53 an53 cd53 ct53), sl53⟩) (c53 : PySem.W.codeIn K cd53 "law" = true) (k53 : PySem.W.keepIn K (.ref f53) = true)
    (v0 : PySem.W.nsIn K mainGlobals "MOST_SIGNS" = some (some (.int 8 tk0)))
    (v1 : PySem.W.nsIn K mainGlobals "CODE_SIGNS" = some (some (.str "abcdefghijklmnopqrstuvwxyz0123456789" tk1)))
    (v2 : PySem.W.nsIn K mainGlobals "GREATEST_TIME" = some (some (.int 1000000000 tk2)))
    (v3 : PySem.W.nsIn K mainGlobals "RULES" = some (some (.ref g3))) (u3 : K.lookup g3 = some ⟨.type "tuple", none, .seq #[.str "time" tk3_0, .str "other" tk3_1, .str "within" tk3_2] gn3, gs3⟩)
    (v4 : PySem.W.nsIn K mainGlobals "LAYER_WORDS" = some (some (.ref g4))) (u4 : K.lookup g4 = some ⟨.type "tuple", none, .seq #[.str "layer" tk4_0, .str "lock" tk4_1, .str "once" tk4_2] gn4, gs4⟩)
    (v5 : PySem.W.nsIn K mainGlobals "MOST_LAYERS" = some (some (.int 6 tk5)))
    (v6 : PySem.W.nsIn K mainGlobals "MOST_KEYS" = some (some (.int 16 tk6)))
    (v7 : PySem.W.nsIn K mainGlobals "MOST_EVENTS" = some (some (.int 400 tk7)))
    (v8 : PySem.W.nsIn K mainGlobals "TICKS_BEHIND" = some (some (.int 1000000000 tk8)))
    (v9 : PySem.W.nsIn K mainGlobals "NO_LAYER" = some (some (.int 0 tk9)))
    (v10 : PySem.W.nsIn K mainGlobals "DIGITS" = some (some (.str "0123456789" tk10)))
    (v11 : PySem.W.nsIn K mainGlobals "MOST_DIGITS" = some (some (.int 30 tk11)))
    (z0 : PySem.W.nsIn K mainGlobals "len" = some none)
    (z1 : PySem.W.nsIn K mainGlobals "abs" = some none)
    (z2 : PySem.W.nsIn K mainGlobals "max" = some none)
    (z3 : PySem.W.nsIn K mainGlobals "min" = some none)
    (z4 : PySem.W.nsIn K mainGlobals "sum" = some none)
    (z5 : PySem.W.nsIn K mainGlobals "repr" = some none)
    (z6 : PySem.W.nsIn K mainGlobals "isinstance" = some none)
    (z7 : PySem.W.nsIn K mainGlobals "all" = some none)
    (z8 : PySem.W.nsIn K mainGlobals "list" = some none)
    (z9 : PySem.W.nsIn K mainGlobals "tuple" = some none)
    (z10 : PySem.W.nsIn K mainGlobals "int" = some none)
    (z11 : PySem.W.nsIn K mainGlobals "bool" = some none)
    (z12 : PySem.W.nsIn K mainGlobals "str" = some none)
    (z13 : PySem.W.nsIn K mainGlobals "range" = some none)
    (z14 : PySem.W.nsIn K mainGlobals "enumerate" = some none)
    (z15 : PySem.W.nsIn K mainGlobals "sorted" = some none)
    (z16 : PySem.W.nsIn K mainGlobals "zip" = some none)
    (z17 : PySem.W.nsIn K mainGlobals "set" = some none)
    (aC : PySem.W.nsIn K mainGlobals "Player" = some (some (.ref C)))
    (ma0 : PySem.W.findIn K (.ref C) "__init__" = some (some (.ref mf0))) (mi0 : PySem.W.isFn K (.ref mf0) = true) (ml0 : K.lookup mf0 = some ⟨moc0, mod0, .func (PySem.W.fnOf "__init__" "Player.__init__" (defArgs s_Player_init) (defBody s_Player_init) (defScope s_Player_init) .none mkV0 mdc0 mpm0 man0 mcd0 mct0), msl0⟩) (mc0 : PySem.W.codeIn K mcd0 "Player.__init__" = true) (mk0 : PySem.W.keepIn K (.ref mf0) = true)
    (ma1 : PySem.W.findIn K (.ref C) "is_on" = some (some (.ref mf1))) (mi1 : PySem.W.isFn K (.ref mf1) = true) (ml1 : K.lookup mf1 = some ⟨moc1, mod1, .func (PySem.W.fnOf "is_on" "Player.is_on" (defArgs s_is_on) (defBody s_is_on) (defScope s_is_on) .none mkV1 mdc1 mpm1 man1 mcd1 mct1), msl1⟩) (mc1 : PySem.W.codeIn K mcd1 "Player.is_on" = true) (mk1 : PySem.W.keepIn K (.ref mf1) = true)
    (ma2 : PySem.W.findIn K (.ref C) "taken" = some (some (.ref mf2))) (mi2 : PySem.W.isFn K (.ref mf2) = true) (ml2 : K.lookup mf2 = some ⟨moc2, mod2, .func (PySem.W.fnOf "taken" "Player.taken" (defArgs s_taken) (defBody s_taken) (defScope s_taken) .none mkV2 mdc2 mpm2 man2 mcd2 mct2), msl2⟩) (mc2 : PySem.W.codeIn K mcd2 "Player.taken" = true) (mk2 : PySem.W.keepIn K (.ref mf2) = true)
    (ma3 : PySem.W.findIn K (.ref C) "press" = some (some (.ref mf3))) (mi3 : PySem.W.isFn K (.ref mf3) = true) (ml3 : K.lookup mf3 = some ⟨moc3, mod3, .func (PySem.W.fnOf "press" "Player.press" (defArgs s_press) (defBody s_press) (defScope s_press) .none mkV3 mdc3 mpm3 man3 mcd3 mct3), msl3⟩) (mc3 : PySem.W.codeIn K mcd3 "Player.press" = true) (mk3 : PySem.W.keepIn K (.ref mf3) = true)
    (ma4 : PySem.W.findIn K (.ref C) "release" = some (some (.ref mf4))) (mi4 : PySem.W.isFn K (.ref mf4) = true) (ml4 : K.lookup mf4 = some ⟨moc4, mod4, .func (PySem.W.fnOf "release" "Player.release" (defArgs s_release) (defBody s_release) (defScope s_release) .none mkV4 mdc4 mpm4 man4 mcd4 mct4), msl4⟩) (mc4 : PySem.W.codeIn K mcd4 "Player.release" = true) (mk4 : PySem.W.keepIn K (.ref mf4) = true)
    (ma5 : PySem.W.findIn K (.ref C) "on_layers" = some (some (.ref mf5))) (mi5 : PySem.W.isFn K (.ref mf5) = true) (ml5 : K.lookup mf5 = some ⟨moc5, mod5, .func (PySem.W.fnOf "on_layers" "Player.on_layers" (defArgs s_on_layers) (defBody s_on_layers) (defScope s_on_layers) .none mkV5 mdc5 mpm5 man5 mcd5 mct5), msl5⟩) (mc5 : PySem.W.codeIn K mcd5 "Player.on_layers" = true) (mk5 : PySem.W.keepIn K (.ref mf5) = true)
    (pg : PySem.W.plainGet K C Str.empty = true) (hd : PySem.W.hasDictIn K C = true) (po : PySem.W.plainOver K C = true) (sa : PySem.W.findIn K (.ref C) "__setattr__" = some (some (.builtin "object.__setattr__"))) (mkC : PySem.W.makesIn K C = true) (kc : PySem.W.keepIn K (.ref C) = true)
    (nn0 : PySem.W.findIn K (.ref C) "layout" = some none)
    (nn1 : PySem.W.findIn K (.ref C) "locked" = some none)
    (nn2 : PySem.W.findIn K (.ref C) "once" = some none)
    (nn3 : PySem.W.findIn K (.ref C) "bound" = some none)
    (nn4 : PySem.W.findIn K (.ref C) "pressed" = some none)
    (aC1 : PySem.W.nsIn K mainGlobals "Row" = some (some (.ref C1)))
    (q1ma0 : PySem.W.findIn K (.ref C1) "__init__" = some (some (.ref q1mf0))) (q1mi0 : PySem.W.isFn K (.ref q1mf0) = true) (q1ml0 : K.lookup q1mf0 = some ⟨q1moc0, q1mod0, .func (PySem.W.fnOf "__init__" "Row.__init__" (defArgs s_Row_init) (defBody s_Row_init) (defScope s_Row_init) .none q1mkV0 q1mdc0 q1mpm0 q1man0 q1mcd0 q1mct0), q1msl0⟩) (q1mc0 : PySem.W.codeIn K q1mcd0 "Row.__init__" = true) (q1mk0 : PySem.W.keepIn K (.ref q1mf0) = true)
    (q1ma1 : PySem.W.findIn K (.ref C1) "due" = some (some (.ref q1mf1))) (q1mi1 : PySem.W.isFn K (.ref q1mf1) = true) (q1ml1 : K.lookup q1mf1 = some ⟨q1moc1, q1mod1, .func (PySem.W.fnOf "due" "Row.due" (defArgs s_due) (defBody s_due) (defScope s_due) .none q1mkV1 q1mdc1 q1mpm1 q1man1 q1mcd1 q1mct1), q1msl1⟩) (q1mc1 : PySem.W.codeIn K q1mcd1 "Row.due" = true) (q1mk1 : PySem.W.keepIn K (.ref q1mf1) = true)
    (q1ma2 : PySem.W.findIn K (.ref C1) "clock" = some (some (.ref q1mf2))) (q1mi2 : PySem.W.isFn K (.ref q1mf2) = true) (q1ml2 : K.lookup q1mf2 = some ⟨q1moc2, q1mod2, .func (PySem.W.fnOf "clock" "Row.clock" (defArgs s_clock) (defBody s_clock) (defScope s_clock) .none q1mkV2 q1mdc2 q1mpm2 q1man2 q1mcd2 q1mct2), q1msl2⟩) (q1mc2 : PySem.W.codeIn K q1mcd2 "Row.clock" = true) (q1mk2 : PySem.W.keepIn K (.ref q1mf2) = true)
    (q1ma3 : PySem.W.findIn K (.ref C1) "come" = some (some (.ref q1mf3))) (q1mi3 : PySem.W.isFn K (.ref q1mf3) = true) (q1ml3 : K.lookup q1mf3 = some ⟨q1moc3, q1mod3, .func (PySem.W.fnOf "come" "Row.come" (defArgs s_come) (defBody s_come) (defScope s_come) .none q1mkV3 q1mdc3 q1mpm3 q1man3 q1mcd3 q1mct3), q1msl3⟩) (q1mc3 : PySem.W.codeIn K q1mcd3 "Row.come" = true) (q1mk3 : PySem.W.keepIn K (.ref q1mf3) = true)
    (q1ma4 : PySem.W.findIn K (.ref C1) "let_out" = some (some (.ref q1mf4))) (q1mi4 : PySem.W.isFn K (.ref q1mf4) = true) (q1ml4 : K.lookup q1mf4 = some ⟨q1moc4, q1mod4, .func (PySem.W.fnOf "let_out" "Row.let_out" (defArgs s_let_out) (defBody s_let_out) (defScope s_let_out) .none q1mkV4 q1mdc4 q1mpm4 q1man4 q1mcd4 q1mct4), q1msl4⟩) (q1mc4 : PySem.W.codeIn K q1mcd4 "Row.let_out" = true) (q1mk4 : PySem.W.keepIn K (.ref q1mf4) = true)
    (q1ma5 : PySem.W.findIn K (.ref C1) "front_means" = some (some (.ref q1mf5))) (q1mi5 : PySem.W.isFn K (.ref q1mf5) = true) (q1ml5 : K.lookup q1mf5 = some ⟨q1moc5, q1mod5, .func (PySem.W.fnOf "front_means" "Row.front_means" (defArgs s_front_means) (defBody s_front_means) (defScope s_front_means) .none q1mkV5 q1mdc5 q1mpm5 q1man5 q1mcd5 q1mct5), q1msl5⟩) (q1mc5 : PySem.W.codeIn K q1mcd5 "Row.front_means" = true) (q1mk5 : PySem.W.keepIn K (.ref q1mf5) = true)
    (q1pg : PySem.W.plainGet K C1 Str.empty = true) (q1hd : PySem.W.hasDictIn K C1 = true) (q1po : PySem.W.plainOver K C1 = true) (q1sa : PySem.W.findIn K (.ref C1) "__setattr__" = some (some (.builtin "object.__setattr__"))) (q1mkC : PySem.W.makesIn K C1 = true) (q1kc : PySem.W.keepIn K (.ref C1) = true)
    (q1nn0 : PySem.W.findIn K (.ref C1) "player" = some none)
    (q1nn1 : PySem.W.findIn K (.ref C1) "events" = some none) :
    ∃ fd : FuncData, (∀ (s : Shared) (u : Value), BindsTo s fd ⟨[u], []⟩ [("_law_script", u)]) ∧ ∀ base : Heap, K.In base → base.Ns mainGlobals mg → FnG l.prog w K mg base 12 fa fd ["_law_script"] (spLaw K) := by
  have e := hfa.symm.trans (PySem.W.mg_of X G a53)
  cases e
  have A_is_an_integer : At K mg "is_an_integer" s_is_an_integer ["value"] := at_mk X G a0 l0 c0 k0 fun _ _ _ _ _ _ us hl => match us, hl with | [_], _ => rfl
  have A_is_between : At K mg "is_between" s_is_between ["value", "low", "high"] := at_mk X G a1 l1 c1 k1 fun _ _ _ _ _ _ us hl => match us, hl with | [_, _, _], _ => rfl
  have A_is_code : At K mg "is_code" s_is_code ["value"] := at_mk X G a2 l2 c2 k2 fun _ _ _ _ _ _ us hl => match us, hl with | [_], _ => rfl
  have A_is_code_action : At K mg "is_code_action" s_is_code_action ["action"] := at_mk X G a3 l3 c3 k3 fun _ _ _ _ _ _ us hl => match us, hl with | [_], _ => rfl
  have A_is_layer_action : At K mg "is_layer_action" s_is_layer_action ["action", "words", "layer_count"] := at_mk X G a4 l4 c4 k4 fun _ _ _ _ _ _ us hl => match us, hl with | [_, _, _], _ => rfl
  have A_is_hold : At K mg "is_hold" s_is_hold ["value", "layer_count"] := at_mk X G a5 l5 c5 k5 fun _ _ _ _ _ _ us hl => match us, hl with | [_, _], _ => rfl
  have A_is_dual_action : At K mg "is_dual_action" s_is_dual_action ["action", "layer_count"] := at_mk X G a6 l6 c6 k6 fun _ _ _ _ _ _ us hl => match us, hl with | [_, _], _ => rfl
  have A_can_stand : At K mg "can_stand" s_can_stand ["action", "layer", "layer_count"] := at_mk X G a7 l7 c7 k7 fun _ _ _ _ _ _ us hl => match us, hl with | [_, _, _], _ => rfl
  have A_has_layout_form : At K mg "has_layout_form" s_has_layout_form ["value"] := at_mk X G a8 l8 c8 k8 fun _ _ _ _ _ _ us hl => match us, hl with | [_], _ => rfl
  have A_check_layout : At K mg "check_layout" s_check_layout ["value"] := at_mk X G a9 l9 c9 k9 fun _ _ _ _ _ _ us hl => match us, hl with | [_], _ => rfl
  have A_is_step : At K mg "is_step" s_is_step ["value"] := at_mk X G a10 l10 c10 k10 fun _ _ _ _ _ _ us hl => match us, hl with | [_], _ => rfl
  have A_is_event : At K mg "is_event" s_is_event ["value"] := at_mk X G a11 l11 c11 k11 fun _ _ _ _ _ _ us hl => match us, hl with | [_], _ => rfl
  have A_is_short_list : At K mg "is_short_list" s_is_short_list ["value"] := at_mk X G a12 l12 c12 k12 fun _ _ _ _ _ _ us hl => match us, hl with | [_], _ => rfl
  have A_takes_turn : At K mg "takes_turn" s_takes_turn ["held", "key", "way"] := at_mk X G a13 l13 c13 k13 fun _ _ _ _ _ _ us hl => match us, hl with | [_, _, _], _ => rfl
  have A_is_below : At K mg "is_below" s_is_below ["key", "many"] := at_mk X G a14 l14 c14 k14 fun _ _ _ _ _ _ us hl => match us, hl with | [_, _], _ => rfl
  have A_can_follow : At K mg "can_follow" s_can_follow ["event", "last", "held"] := at_mk X G a15 l15 c15 k15 fun _ _ _ _ _ _ us hl => match us, hl with | [_, _, _], _ => rfl
  have A_check_recordN : AtX K mg "check_record" s_check_record ["value", "many"] [.none] := atX_less X G a16 l16 c16 k16 u_16 fun _ _ _ _ _ _ _ us its hl hi => match us, its, hl, hi with | [_], [_], _, _ => ⟨_, rfl, rfl⟩
  have A_check_record : AtX K mg "check_record" s_check_record ["value", "many"] [] := atX_all X G a16 l16 c16 k16 u_16 fun _ _ _ _ _ _ _ us its hl hi => match us, its, hl, hi with | [_, _], [_], _, _ => ⟨_, rfl, rfl⟩
  have A_check_order : AtX K mg "check_order" s_check_order ["value", "many"] [.none] := atX_less X G a17 l17 c17 k17 u_17 fun _ _ _ _ _ _ _ us its hl hi => match us, its, hl, hi with | [_], [_], _, _ => ⟨_, rfl, rfl⟩
  have A_are_ticks : At K mg "are_ticks" s_are_ticks ["value", "many"] := at_mk X G a18 l18 c18 k18 fun _ _ _ _ _ _ us hl => match us, hl with | [_, _], _ => rfl
  have A_with_ticks : At K mg "with_ticks" s_with_ticks ["order", "ticks"] := at_mk X G a19 l19 c19 k19 fun _ _ _ _ _ _ us hl => match us, hl with | [_, _], _ => rfl
  have A_is_dual : At K mg "is_dual" s_is_dual ["action"] := at_mk X G a20 l20 c20 k20 fun _ _ _ _ _ _ us hl => match us, hl with | [_], _ => rfl
  have A_deciding_event : At K mg "deciding_event" s_deciding_event ["record", "at", "rule"] := at_mk X G a21 l21 c21 k21 fun _ _ _ _ _ _ us hl => match us, hl with | [_, _, _], _ => rfl
  have A_sure_event : At K mg "sure_event" s_sure_event ["record", "at", "dual"] := at_mk X G a22 l22 c22 k22 fun _ _ _ _ _ _ us hl => match us, hl with | [_, _, _], _ => rfl
  have A_dual_kind : At K mg "dual_kind" s_dual_kind ["record", "at", "sure"] := at_mk X G a23 l23 c23 k23 fun _ _ _ _ _ _ us hl => match us, hl with | [_, _, _], _ => rfl
  have A_what_is_done : At K mg "what_is_done" s_what_is_done ["action", "kind"] := at_mk X G a24 l24 c24 k24 fun _ _ _ _ _ _ us hl => match us, hl with | [_, _], _ => rfl
  have A_play : At K mg "play" s_play ["layout", "record"] := at_mk X G a25 l25 c25 k25 fun _ _ _ _ _ _ us hl => match us, hl with | [_, _], _ => rfl
  have A_check_playable : At K mg "check_playable" s_check_playable ["layout", "record"] := at_mk X G a26 l26 c26 k26 fun _ _ _ _ _ _ us hl => match us, hl with | [_, _], _ => rfl
  have A_played : At K mg "played" s_played ["layout", "record"] := at_mk X G a27 l27 c27 k27 fun _ _ _ _ _ _ us hl => match us, hl with | [_, _], _ => rfl
  have A_layers_on : At K mg "layers_on" s_layers_on ["layout", "record"] := at_mk X G a28 l28 c28 k28 fun _ _ _ _ _ _ us hl => match us, hl with | [_, _], _ => rfl
  have A_come_all : At K mg "come_all" s_come_all ["machine", "events"] := at_mk X G a29 l29 c29 k29 fun _ _ _ _ _ _ us hl => match us, hl with | [_, _], _ => rfl
  have A_run_out : At K mg "run_out" s_run_out ["machine"] := at_mk X G a30 l30 c30 k30 fun _ _ _ _ _ _ us hl => match us, hl with | [_], _ => rfl
  have A_outputs : At K mg "outputs" s_outputs ["layout", "record"] := at_mk X G a31 l31 c31 k31 fun _ _ _ _ _ _ us hl => match us, hl with | [_, _], _ => rfl
  have A_held_keys : At K mg "held_keys" s_held_keys ["record"] := at_mk X G a32 l32 c32 k32 fun _ _ _ _ _ _ us hl => match us, hl with | [_], _ => rfl
  have A_is_whole : At K mg "is_whole" s_is_whole ["record"] := at_mk X G a33 l33 c33 k33 fun _ _ _ _ _ _ us hl => match us, hl with | [_], _ => rfl
  have A_ended : At K mg "ended" s_ended ["record"] := at_mk X G a34 l34 c34 k34 fun _ _ _ _ _ _ us hl => match us, hl with | [_], _ => rfl
  have A_order_of : At K mg "order_of" s_order_of ["record"] := at_mk X G a35 l35 c35 k35 fun _ _ _ _ _ _ us hl => match us, hl with | [_], _ => rfl
  have A_lengths : At K mg "lengths" s_lengths ["record"] := at_mk X G a36 l36 c36 k36 fun _ _ _ _ _ _ us hl => match us, hl with | [_], _ => rfl
  have A_is_number : At K mg "is_number" s_is_number ["text"] := at_mk X G a37 l37 c37 k37 fun _ _ _ _ _ _ us hl => match us, hl with | [_], _ => rfl
  have A_is_signed_number : At K mg "is_signed_number" s_is_signed_number ["text"] := at_mk X G a38 l38 c38 k38 fun _ _ _ _ _ _ us hl => match us, hl with | [_], _ => rfl
  have A_way_sign : At K mg "way_sign" s_way_sign ["way"] := at_mk X G a39 l39 c39 k39 fun _ _ _ _ _ _ us hl => match us, hl with | [_], _ => rfl
  have A_event_text : At K mg "event_text" s_event_text ["event"] := at_mk X G a40 l40 c40 k40 fun _ _ _ _ _ _ us hl => match us, hl with | [_], _ => rfl
  have A_event_of : At K mg "event_of" s_event_of ["word"] := at_mk X G a41 l41 c41 k41 fun _ _ _ _ _ _ us hl => match us, hl with | [_], _ => rfl
  have A_format_record : At K mg "format_record" s_format_record ["record"] := at_mk X G a42 l42 c42 k42 fun _ _ _ _ _ _ us hl => match us, hl with | [_], _ => rfl
  have A_parse_record : At K mg "parse_record" s_parse_record ["text"] := at_mk X G a43 l43 c43 k43 fun _ _ _ _ _ _ us hl => match us, hl with | [_], _ => rfl
  have A__law_reel : At K mg "_law_reel" s__law_reel ["_law_script", "_law_index"] := at_mk X G a44 l44 c44 k44 fun _ _ _ _ _ _ us hl => match us, hl with | [_, _], _ => rfl
  have A__law_spin : At K mg "_law_spin" s__law_spin ["_law_reel_here", "_law_size"] := at_mk X G a45 l45 c45 k45 fun _ _ _ _ _ _ us hl => match us, hl with | [_, _], _ => rfl
  have A__law_code : At K mg "_law_code" s__law_code ["_law_reel_here"] := at_mk X G a46 l46 c46 k46 fun _ _ _ _ _ _ us hl => match us, hl with | [_], _ => rfl
  have A__law_action : At K mg "_law_action" s__law_action ["_law_reel_here", "_law_layer", "_law_layers", "_law_longest"] := at_mk X G a47 l47 c47 k47 fun _ _ _ _ _ _ us hl => match us, hl with | [_, _, _, _], _ => rfl
  have A__law_layout : At K mg "_law_layout" s__law_layout ["_law_reel_here", "_law_layers", "_law_keys", "_law_longest"] := at_mk X G a48 l48 c48 k48 fun _ _ _ _ _ _ us hl => match us, hl with | [_, _, _, _], _ => rfl
  have A__law_record : At K mg "_law_record" s__law_record ["_law_reel_here", "_law_keys", "_law_size", "_law_gaps"] := at_mk X G a49 l49 c49 k49 fun _ _ _ _ _ _ us hl => match us, hl with | [_, _, _, _], _ => rfl
  have A__law_cuts_right : At K mg "_law_cuts_right" s__law_cuts_right ["_law_layout_here", "_law_record_here"] := at_mk X G a50 l50 c50 k50 fun _ _ _ _ _ _ us hl => match us, hl with | [_, _], _ => rfl
  have A__law_ended_right : At K mg "_law_ended_right" s__law_ended_right ["_law_layout_here", "_law_record_here"] := at_mk X G a51 l51 c51 k51 fun _ _ _ _ _ _ us hl => match us, hl with | [_, _], _ => rfl
  have A__law_joined_right : At K mg "_law_joined_right" s__law_joined_right ["_law_layout_here", "_law_one", "_law_two"] := at_mk X G a52 l52 c52 k52 fun _ _ _ _ _ _ us hl => match us, hl with | [_, _, _], _ => rfl
  have A_law : At K mg "law" s_law ["_law_script"] := at_mk X G a53 l53 c53 k53 fun _ _ _ _ _ _ us hl => match us, hl with | [_], _ => rfl
  have m_MOST_SIGNS := PySem.W.mg_of X G v0
  have m_CODE_SIGNS := PySem.W.mg_of X G v1
  have m_GREATEST_TIME := PySem.W.mg_of X G v2
  have m_RULES := PySem.W.mg_of X G v3
  have t_RULES : ∀ H, SqT K H g3 ((["time", "other", "within"] : List Str).map V.str) := fun H => .inr ⟨_, _, _, u3, rfl, rfl, (by show 3 ≤ sizeLine; decide), .cons ⟨_, rfl⟩ (.cons ⟨_, rfl⟩ (.cons ⟨_, rfl⟩ (.nil)))⟩
  have n_RULES : ∃ o : Obj, K.lookup g3 = some o ∧ o.cls = .type "tuple" ∧ o.dict = none := ⟨_, u3, rfl, rfl⟩
  have m_LAYER_WORDS := PySem.W.mg_of X G v4
  have t_LAYER_WORDS : ∀ H, SqT K H g4 ((["layer", "lock", "once"] : List Str).map V.str) := fun H => .inr ⟨_, _, _, u4, rfl, rfl, (by show 3 ≤ sizeLine; decide), .cons ⟨_, rfl⟩ (.cons ⟨_, rfl⟩ (.cons ⟨_, rfl⟩ (.nil)))⟩
  have n_LAYER_WORDS : ∃ o : Obj, K.lookup g4 = some o ∧ o.cls = .type "tuple" ∧ o.dict = none := ⟨_, u4, rfl, rfl⟩
  have m_MOST_LAYERS := PySem.W.mg_of X G v5
  have m_MOST_KEYS := PySem.W.mg_of X G v6
  have m_MOST_EVENTS := PySem.W.mg_of X G v7
  have m_TICKS_BEHIND := PySem.W.mg_of X G v8
  have m_NO_LAYER := PySem.W.mg_of X G v9
  have m_DIGITS := PySem.W.mg_of X G v10
  have m_MOST_DIGITS := PySem.W.mg_of X G v11
  have bt : Bt mg := ⟨PySem.W.mg_none_of X G z0, PySem.W.mg_none_of X G z1, PySem.W.mg_none_of X G z2, PySem.W.mg_none_of X G z3, PySem.W.mg_none_of X G z4, PySem.W.mg_none_of X G z5, PySem.W.mg_none_of X G z6, PySem.W.mg_none_of X G z7, PySem.W.mg_none_of X G z8, PySem.W.mg_none_of X G z9, PySem.W.mg_none_of X G z10, PySem.W.mg_none_of X G z11, PySem.W.mg_none_of X G z12, PySem.W.mg_none_of X G z13, PySem.W.mg_none_of X G z14, PySem.W.mg_none_of X G z15, PySem.W.mg_none_of X G z16, PySem.W.mg_none_of X G z17⟩
  have cp : Cp K C := ⟨⟨pg, hd, po, sa⟩, nn0, nn1, nn2, nn3, nn4⟩
  have A_Player : AtI K mg C "Player" "Player.__init__" s_Player_init ["self", "layout"] := ⟨⟨_, _, fun_mk ml0 mc0 mk0, ⟨mkC, ma0, mi0, kc⟩, PySem.W.mg_of X G aC, (fun_mk ml0 mc0 mk0).binds (ps := ["self", "layout"]) fun _ _ _ _ _ _ us hl => match us, hl with | [_, _], _ => rfl⟩⟩
  have A_is_on : AtM K C "is_on" "Player.is_on" s_is_on ["self", "layer"] := ⟨⟨_, _, fun_mk ml1 mc1 mk1, ⟨ma1, mi1, mk1⟩, (fun_mk ml1 mc1 mk1).binds (ps := ["self", "layer"]) fun _ _ _ _ _ _ us hl => match us, hl with | [_, _], _ => rfl⟩⟩
  have A_taken : AtM K C "taken" "Player.taken" s_taken ["self", "key"] := ⟨⟨_, _, fun_mk ml2 mc2 mk2, ⟨ma2, mi2, mk2⟩, (fun_mk ml2 mc2 mk2).binds (ps := ["self", "key"]) fun _ _ _ _ _ _ us hl => match us, hl with | [_, _], _ => rfl⟩⟩
  have A_press : AtM K C "press" "Player.press" s_press ["self", "key", "what"] := ⟨⟨_, _, fun_mk ml3 mc3 mk3, ⟨ma3, mi3, mk3⟩, (fun_mk ml3 mc3 mk3).binds (ps := ["self", "key", "what"]) fun _ _ _ _ _ _ us hl => match us, hl with | [_, _, _], _ => rfl⟩⟩
  have A_release : AtM K C "release" "Player.release" s_release ["self", "key"] := ⟨⟨_, _, fun_mk ml4 mc4 mk4, ⟨ma4, mi4, mk4⟩, (fun_mk ml4 mc4 mk4).binds (ps := ["self", "key"]) fun _ _ _ _ _ _ us hl => match us, hl with | [_, _], _ => rfl⟩⟩
  have A_on_layers : AtM K C "on_layers" "Player.on_layers" s_on_layers ["self"] := ⟨⟨_, _, fun_mk ml5 mc5 mk5, ⟨ma5, mi5, mk5⟩, (fun_mk ml5 mc5 mk5).binds (ps := ["self"]) fun _ _ _ _ _ _ us hl => match us, hl with | [_], _ => rfl⟩⟩
  have cp1 : Rp K C1 := ⟨⟨q1pg, q1hd, q1po, q1sa⟩, q1nn0, q1nn1⟩
  have A_Row : AtI K mg C1 "Row" "Row.__init__" s_Row_init ["self", "layout"] := ⟨⟨_, _, fun_mk q1ml0 q1mc0 q1mk0, ⟨q1mkC, q1ma0, q1mi0, q1kc⟩, PySem.W.mg_of X G aC1, (fun_mk q1ml0 q1mc0 q1mk0).binds (ps := ["self", "layout"]) fun _ _ _ _ _ _ us hl => match us, hl with | [_, _], _ => rfl⟩⟩
  have A_due : AtM K C1 "due" "Row.due" s_due ["self"] := ⟨⟨_, _, fun_mk q1ml1 q1mc1 q1mk1, ⟨q1ma1, q1mi1, q1mk1⟩, (fun_mk q1ml1 q1mc1 q1mk1).binds (ps := ["self"]) fun _ _ _ _ _ _ us hl => match us, hl with | [_], _ => rfl⟩⟩
  have A_clock : AtM K C1 "clock" "Row.clock" s_clock ["self", "tick"] := ⟨⟨_, _, fun_mk q1ml2 q1mc2 q1mk2, ⟨q1ma2, q1mi2, q1mk2⟩, (fun_mk q1ml2 q1mc2 q1mk2).binds (ps := ["self", "tick"]) fun _ _ _ _ _ _ us hl => match us, hl with | [_, _], _ => rfl⟩⟩
  have A_come : AtM K C1 "come" "Row.come" s_come ["self", "event"] := ⟨⟨_, _, fun_mk q1ml3 q1mc3 q1mk3, ⟨q1ma3, q1mi3, q1mk3⟩, (fun_mk q1ml3 q1mc3 q1mk3).binds (ps := ["self", "event"]) fun _ _ _ _ _ _ us hl => match us, hl with | [_, _], _ => rfl⟩⟩
  have A_let_out : AtM K C1 "let_out" "Row.let_out" s_let_out ["self", "now"] := ⟨⟨_, _, fun_mk q1ml4 q1mc4 q1mk4, ⟨q1ma4, q1mi4, q1mk4⟩, (fun_mk q1ml4 q1mc4 q1mk4).binds (ps := ["self", "now"]) fun _ _ _ _ _ _ us hl => match us, hl with | [_, _], _ => rfl⟩⟩
  have A_front_means : AtM K C1 "front_means" "Row.front_means" s_front_means ["self", "now"] := ⟨⟨_, _, fun_mk q1ml5 q1mc5 q1mk5, ⟨q1ma5, q1mi5, q1mk5⟩, (fun_mk q1ml5 q1mc5 q1mk5).binds (ps := ["self", "now"]) fun _ _ _ _ _ _ us hl => match us, hl with | [_, _], _ => rfl⟩⟩
  refine ⟨PySem.W.fnOf "law" "law" (defArgs s_law) (defBody s_law) (defScope s_law) .none kV53 dc53 pm53 an53 cd53 ct53, fun s u => .of_eq rfl, fun base _ _ => ?_⟩
  have C1 := ok_is_an_integer (P := l.prog) (w := w) (base := base) bt A_is_an_integer
  have C2 := ok_is_between bt A_is_between C1
  have C3 := ok_is_code (P := l.prog) (w := w) (base := base) bt m_MOST_SIGNS m_CODE_SIGNS A_is_code
  have C4 := ok_is_code_action bt A_is_code_action C3
  have C5 := ok_is_layer_action bt A_is_layer_action C2
  have C6 := ok_is_hold bt A_is_hold C4 C5
  have C7 := ok_is_dual_action bt m_GREATEST_TIME m_RULES t_RULES A_is_dual_action C3 C6 C2
  have C8 := ok_can_stand bt m_LAYER_WORDS t_LAYER_WORDS A_can_stand C4 C5 C7
  have C9 := ok_has_layout_form (P := l.prog) (w := w) (base := base) bt m_MOST_LAYERS m_MOST_KEYS A_has_layout_form
  have C10 := ok_check_layout bt A_check_layout C9 C8
  have E3 := ok_is_step bt A_is_step C1
  have E4 := ok_is_event bt A_is_event C1 E3
  have E5 := ok_is_short_list (P := l.prog) (w := w) (base := base) bt _ m_MOST_EVENTS A_is_short_list
  have E6 := ok_takes_turn (P := l.prog) (w := w) (base := base) A_takes_turn
  have E7 := ok_is_below (P := l.prog) (w := w) (base := base) A_is_below
  have E8 := ok_can_follow A_can_follow E6
  have E9 := ok_check_record bt A_check_record E5 E4 E8 E7
  have P1 := ok_Player_init (P := l.prog) (w := w) (base := base) bt cp m_NO_LAYER A_Player
  have P2 := ok_is_on (P := l.prog) (w := w) (mg := mg) (base := base) bt cp A_is_on
  have P3 := ok_taken bt cp A_taken P2
  have P4 := ok_press (P := l.prog) (w := w) (base := base) bt cp m_NO_LAYER A_press
  have P5 := ok_release (P := l.prog) (w := w) (base := base) bt cp m_NO_LAYER A_release
  have Q1 := ok_is_dual (P := l.prog) (w := w) (base := base) bt A_is_dual
  have Q2 := ok_deciding_event (P := l.prog) (w := w) (base := base) bt A_deciding_event
  have Q3 := ok_sure_event bt A_sure_event Q2
  have Q4 := ok_dual_kind (P := l.prog) (w := w) (base := base) bt A_dual_kind
  have Q5 := ok_what_is_done (P := l.prog) (w := w) (base := base) A_what_is_done
  have Q6 := ok_play bt cp A_play P1 P5 P3 P4 Q1 Q3 Q4 Q5
  have Q7 := ok_check_playable bt A_check_playable C10 E9
  have S1 := ok_on_layers bt cp A_on_layers P2
  have S2 := ok_layers_on bt cp A_layers_on Q7 Q6 S1
  have S3 := ok_played bt A_played Q7 Q6
  have I1 := ok_Row_init bt cp cp1 A_Row P1
  have I2 := ok_due bt cp cp1 A_due P3
  have I3 := ok_front_means bt cp cp1 A_front_means P3 Q1 Q3 Q4 Q5
  have I4 := ok_let_out bt cp cp1 A_let_out P5 P4 I3
  have I5 := ok_clock bt cp1 A_clock I2 I4
  have I6 := ok_come bt cp1 A_come I4
  have I7 := ok_come_all bt cp1 A_come_all I5 I6
  have I8 := ok_run_out bt cp1 A_run_out I2 I5
  have I9 := ok_outputs bt cp cp1 A_outputs Q7 I1 I7 I8
  have N1 := ok_is_belowN (P := l.prog) (w := w) (base := base) A_is_below
  have N2 := ok_check_recordN bt A_check_recordN E5 E4 E8 N1
  have N3 := ok_held_keys (P := l.prog) (w := w) (base := base) bt A_held_keys
  have N4 := ok_is_whole bt A_is_whole N2 N3
  have N5 := ok_ended bt m_TICKS_BEHIND A_ended N2 N3
  have N6 := ok_order_of bt A_order_of N2
  have N7 := ok_lengths bt A_lengths N2
  have N8 := ok_check_order bt A_check_order E5 E3 E6 N1
  have N9 := ok_are_ticks bt A_are_ticks C1
  have N10 := ok_with_ticks bt A_with_ticks N8 N9
  have T1 := ok_is_number (P := l.prog) (w := w) (base := base) bt m_MOST_DIGITS m_DIGITS A_is_number
  have T2 := ok_is_signed_number A_is_signed_number T1
  have T3 := ok_way_sign (P := l.prog) (w := w) (base := base) A_way_sign
  have T4 := ok_event_text A_event_text T3
  have T5 := ok_event_of bt A_event_of T3 T1 T2
  have T6 := ok_format_record A_format_record N2 T4
  have T7 := ok_parse_record bt m_MOST_EVENTS A_parse_record T5 E8
  have D1 := ok__law_spin (P := l.prog) (w := w) (base := base) A__law_spin
  have D2 := ok__law_reel (P := l.prog) (w := w) (base := base) bt A__law_reel
  have D4 := ok__law_code bt A__law_code D1
  have D6 := ok__law_action bt A__law_action D1 D4
  have D7 := ok__law_layout bt A__law_layout D6
  have D9 := ok__law_record bt A__law_record D1
  have D17 := ok__law_cuts_right bt A__law_cuts_right S3 I9 N4 N10 N6
  have D18 := ok__law_ended_right bt A__law_ended_right N5 I9 N4
  have D19 := ok__law_joined_right (C := C) bt A__law_joined_right S3 I9 S2 N4 N6 N7 T6 T7
  exact ok_law bt (fun_mk l53 c53 k53) D2 D1 D7 D9 D17 D18 N5 D19
end K86
open PySem PySem.W PyProof.Rows
set_option maxHeartbeats 0 in
theorem PySem.Challenge.cw_holdtap_k86_whole_records_cut_and_joined_holds : PySem.Challenge.rw_holdtap_k86_whole_records_cut_and_joined.Holds := by
  w_on; o_law; k_head; (case hw => w_witness2)
  k_fill
  refine Gd.walkG (l := PySem.Challenge.rw_holdtap_k86_whole_records_cut_and_joined) (n := 63) (k := 12) (x := "_law_script") (sp := fun K => K86.spLaw K) rfl (by decide) rfl ⟨rfl, by decide, by decide⟩ (fun w h Y => PySem.W.kIn_of Y) ?F (fun _ _ a ns hl hS => ⟨a, ns, rfl, hS, hl, fun _ => rfl⟩)
  case F =>
    intro w mg fa h KX G hmg
    refine' K86.all_mk KX G hmg ?a0 ?l0 ?c0 ?k0 ?a1 ?l1 ?c1 ?k1 ?a2 ?l2 ?c2 ?k2 ?a3 ?l3 ?c3 ?k3 ?a4 ?l4 ?c4 ?k4 ?a5 ?l5 ?c5 ?k5 ?a6 ?l6 ?c6 ?k6 ?a7 ?l7 ?c7 ?k7 ?a8 ?l8 ?c8 ?k8 ?a9 ?l9 ?c9 ?k9 ?a10 ?l10 ?c10 ?k10 ?a11 ?l11 ?c11 ?k11 ?a12 ?l12 ?c12 ?k12 ?a13 ?l13 ?c13 ?k13 ?a14 ?l14 ?c14 ?k14 ?a15 ?l15 ?c15 ?k15 ?a16 ?l16 ?c16 ?k16 ?u_16 ?a17 ?l17 ?c17 ?k17 ?u_17 ?a18 ?l18 ?c18 ?k18 ?a19 ?l19 ?c19 ?k19 ?a20 ?l20 ?c20 ?k20 ?a21 ?l21 ?c21 ?k21 ?a22 ?l22 ?c22 ?k22 ?a23 ?l23 ?c23 ?k23 ?a24 ?l24 ?c24 ?k24 ?a25 ?l25 ?c25 ?k25 ?a26 ?l26 ?c26 ?k26 ?a27 ?l27 ?c27 ?k27 ?a28 ?l28 ?c28 ?k28 ?a29 ?l29 ?c29 ?k29 ?a30 ?l30 ?c30 ?k30 ?a31 ?l31 ?c31 ?k31 ?a32 ?l32 ?c32 ?k32 ?a33 ?l33 ?c33 ?k33 ?a34 ?l34 ?c34 ?k34 ?a35 ?l35 ?c35 ?k35 ?a36 ?l36 ?c36 ?k36 ?a37 ?l37 ?c37 ?k37 ?a38 ?l38 ?c38 ?k38 ?a39 ?l39 ?c39 ?k39 ?a40 ?l40 ?c40 ?k40 ?a41 ?l41 ?c41 ?k41 ?a42 ?l42 ?c42 ?k42 ?a43 ?l43 ?c43 ?k43 ?a44 ?l44 ?c44 ?k44 ?a45 ?l45 ?c45 ?k45 ?a46 ?l46 ?c46 ?k46 ?a47 ?l47 ?c47 ?k47 ?a48 ?l48 ?c48 ?k48 ?a49 ?l49 ?c49 ?k49 ?a50 ?l50 ?c50 ?k50 ?a51 ?l51 ?c51 ?k51 ?a52 ?l52 ?c52 ?k52 ?a53 ?l53 ?c53 ?k53 ?v0 ?v1 ?v2 ?v3 ?u3 ?v4 ?u4 ?v5 ?v6 ?v7 ?v8 ?v9 ?v10 ?v11 ?z0 ?z1 ?z2 ?z3 ?z4 ?z5 ?z6 ?z7 ?z8 ?z9 ?z10 ?z11 ?z12 ?z13 ?z14 ?z15 ?z16 ?z17 ?aC ?ma0 ?mi0 ?ml0 ?mc0 ?mk0 ?ma1 ?mi1 ?ml1 ?mc1 ?mk1 ?ma2 ?mi2 ?ml2 ?mc2 ?mk2 ?ma3 ?mi3 ?ml3 ?mc3 ?mk3 ?ma4 ?mi4 ?ml4 ?mc4 ?mk4 ?ma5 ?mi5 ?ml5 ?mc5 ?mk5 ?pg ?hd ?po ?sa ?mkC ?kc ?nn0 ?nn1 ?nn2 ?nn3 ?nn4 ?aC1 ?q1ma0 ?q1mi0 ?q1ml0 ?q1mc0 ?q1mk0 ?q1ma1 ?q1mi1 ?q1ml1 ?q1mc1 ?q1mk1 ?q1ma2 ?q1mi2 ?q1ml2 ?q1mc2 ?q1mk2 ?q1ma3 ?q1mi3 ?q1ml3 ?q1mc3 ?q1mk3 ?q1ma4 ?q1mi4 ?q1ml4 ?q1mc4 ?q1mk4 ?q1ma5 ?q1mi5 ?q1ml5 ?q1mc5 ?q1mk5 ?q1pg ?q1hd ?q1po ?q1sa ?q1mkC ?q1kc ?q1nn0 ?q1nn1
    (case a0 => k_is); (case l0 => k_is); (case c0 => k_is); (case k0 => k_is); (case a1 => k_is); (case l1 => k_is); (case c1 => k_is); (case k1 => k_is); (case a2 => k_is); (case l2 => k_is); (case c2 => k_is); (case k2 => k_is); (case a3 => k_is); (case l3 => k_is); (case c3 => k_is); (case k3 => k_is); (case a4 => k_is); (case l4 => k_is); (case c4 => k_is); (case k4 => k_is); (case a5 => k_is); (case l5 => k_is); (case c5 => k_is); (case k5 => k_is); (case a6 => k_is); (case l6 => k_is); (case c6 => k_is); (case k6 => k_is); (case a7 => k_is); (case l7 => k_is); (case c7 => k_is); (case k7 => k_is); (case a8 => k_is); (case l8 => k_is); (case c8 => k_is); (case k8 => k_is); (case a9 => k_is); (case l9 => k_is); (case c9 => k_is); (case k9 => k_is); (case a10 => k_is); (case l10 => k_is); (case c10 => k_is); (case k10 => k_is); (case a11 => k_is); (case l11 => k_is); (case c11 => k_is); (case k11 => k_is); (case a12 => k_is); (case l12 => k_is); (case c12 => k_is); (case k12 => k_is); (case a13 => k_is); (case l13 => k_is); (case c13 => k_is); (case k13 => k_is); (case a14 => k_is); (case l14 => k_is); (case c14 => k_is); (case k14 => k_is); (case a15 => k_is); (case l15 => k_is); (case c15 => k_is); (case k15 => k_is); (case a16 => k_is); (case l16 => k_is); (case c16 => k_is); (case k16 => k_is); (case u_16 => k_is); (case a17 => k_is); (case l17 => k_is); (case c17 => k_is); (case k17 => k_is); (case u_17 => k_is); (case a18 => k_is); (case l18 => k_is); (case c18 => k_is); (case k18 => k_is); (case a19 => k_is); (case l19 => k_is); (case c19 => k_is); (case k19 => k_is); (case a20 => k_is); (case l20 => k_is); (case c20 => k_is); (case k20 => k_is); (case a21 => k_is); (case l21 => k_is); (case c21 => k_is); (case k21 => k_is); (case a22 => k_is); (case l22 => k_is); (case c22 => k_is); (case k22 => k_is); (case a23 => k_is); (case l23 => k_is); (case c23 => k_is); (case k23 => k_is); (case a24 => k_is); (case l24 => k_is); (case c24 => k_is); (case k24 => k_is); (case a25 => k_is); (case l25 => k_is); (case c25 => k_is); (case k25 => k_is); (case a26 => k_is); (case l26 => k_is); (case c26 => k_is); (case k26 => k_is); (case a27 => k_is); (case l27 => k_is); (case c27 => k_is); (case k27 => k_is); (case a28 => k_is); (case l28 => k_is); (case c28 => k_is); (case k28 => k_is); (case a29 => k_is); (case l29 => k_is); (case c29 => k_is); (case k29 => k_is); (case a30 => k_is); (case l30 => k_is); (case c30 => k_is); (case k30 => k_is); (case a31 => k_is); (case l31 => k_is); (case c31 => k_is); (case k31 => k_is); (case a32 => k_is); (case l32 => k_is); (case c32 => k_is); (case k32 => k_is); (case a33 => k_is); (case l33 => k_is); (case c33 => k_is); (case k33 => k_is); (case a34 => k_is); (case l34 => k_is); (case c34 => k_is); (case k34 => k_is); (case a35 => k_is); (case l35 => k_is); (case c35 => k_is); (case k35 => k_is); (case a36 => k_is); (case l36 => k_is); (case c36 => k_is); (case k36 => k_is); (case a37 => k_is); (case l37 => k_is); (case c37 => k_is); (case k37 => k_is); (case a38 => k_is); (case l38 => k_is); (case c38 => k_is); (case k38 => k_is); (case a39 => k_is); (case l39 => k_is); (case c39 => k_is); (case k39 => k_is); (case a40 => k_is); (case l40 => k_is); (case c40 => k_is); (case k40 => k_is); (case a41 => k_is); (case l41 => k_is); (case c41 => k_is); (case k41 => k_is); (case a42 => k_is); (case l42 => k_is); (case c42 => k_is); (case k42 => k_is); (case a43 => k_is); (case l43 => k_is); (case c43 => k_is); (case k43 => k_is); (case a44 => k_is); (case l44 => k_is); (case c44 => k_is); (case k44 => k_is); (case a45 => k_is); (case l45 => k_is); (case c45 => k_is); (case k45 => k_is); (case a46 => k_is); (case l46 => k_is); (case c46 => k_is); (case k46 => k_is); (case a47 => k_is); (case l47 => k_is); (case c47 => k_is); (case k47 => k_is); (case a48 => k_is); (case l48 => k_is); (case c48 => k_is); (case k48 => k_is); (case a49 => k_is); (case l49 => k_is); (case c49 => k_is); (case k49 => k_is); (case a50 => k_is); (case l50 => k_is); (case c50 => k_is); (case k50 => k_is); (case a51 => k_is); (case l51 => k_is); (case c51 => k_is); (case k51 => k_is); (case a52 => k_is); (case l52 => k_is); (case c52 => k_is); (case k52 => k_is); (case a53 => k_is); (case l53 => k_is); (case c53 => k_is); (case k53 => k_is); (case v0 => k_is); (case v1 => k_is); (case v2 => k_is); (case v3 => k_is); (case u3 => k_is); (case v4 => k_is); (case u4 => k_is); (case v5 => k_is); (case v6 => k_is); (case v7 => k_is); (case v8 => k_is); (case v9 => k_is); (case v10 => k_is); (case v11 => k_is); (case z0 => k_is); (case z1 => k_is); (case z2 => k_is); (case z3 => k_is); (case z4 => k_is); (case z5 => k_is); (case z6 => k_is); (case z7 => k_is); (case z8 => k_is); (case z9 => k_is); (case z10 => k_is); (case z11 => k_is); (case z12 => k_is); (case z13 => k_is); (case z14 => k_is); (case z15 => k_is); (case z16 => k_is); (case z17 => k_is); (case aC => k_is); (case ma0 => k_is); (case mi0 => k_is); (case ml0 => k_is); (case mc0 => k_is); (case mk0 => k_is); (case ma1 => k_is); (case mi1 => k_is); (case ml1 => k_is); (case mc1 => k_is); (case mk1 => k_is); (case ma2 => k_is); (case mi2 => k_is); (case ml2 => k_is); (case mc2 => k_is); (case mk2 => k_is); (case ma3 => k_is); (case mi3 => k_is); (case ml3 => k_is); (case mc3 => k_is); (case mk3 => k_is); (case ma4 => k_is); (case mi4 => k_is); (case ml4 => k_is); (case mc4 => k_is); (case mk4 => k_is); (case ma5 => k_is); (case mi5 => k_is); (case ml5 => k_is); (case mc5 => k_is); (case mk5 => k_is); (case pg => k_is); (case hd => k_is); (case po => k_is); (case sa => k_is); (case mkC => k_is); (case kc => k_is); (case nn0 => k_is); (case nn1 => k_is); (case nn2 => k_is); (case nn3 => k_is); (case nn4 => k_is); (case aC1 => k_is); (case q1ma0 => k_is); (case q1mi0 => k_is); (case q1ml0 => k_is); (case q1mc0 => k_is); (case q1mk0 => k_is); (case q1ma1 => k_is); (case q1mi1 => k_is); (case q1ml1 => k_is); (case q1mc1 => k_is); (case q1mk1 => k_is); (case q1ma2 => k_is); (case q1mi2 => k_is); (case q1ml2 => k_is); (case q1mc2 => k_is); (case q1mk2 => k_is); (case q1ma3 => k_is); (case q1mi3 => k_is); (case q1ml3 => k_is); (case q1mc3 => k_is); (case q1mk3 => k_is); (case q1ma4 => k_is); (case q1mi4 => k_is); (case q1ml4 => k_is); (case q1mc4 => k_is); (case q1mk4 => k_is); (case q1ma5 => k_is); (case q1mi5 => k_is); (case q1ml5 => k_is); (case q1mc5 => k_is); (case q1mk5 => k_is); (case q1pg => k_is); (case q1hd => k_is); (case q1po => k_is); (case q1sa => k_is); (case q1mkC => k_is); (case q1kc => k_is); (case q1nn0 => k_is); (case q1nn1 => k_is)

