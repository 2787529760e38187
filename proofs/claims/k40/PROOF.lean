import PyProof.Rows.All
import Wide.All
import OpenK.AllK
import Wide.FinOn
import HandS.ForMost
import HandS.Walk
import HandS.Conv
import HandS.Zip
import HandS.TupAny
import HandS.TupMul
import HandS.TupLe
import HandS.IsInst
import HandS.Style
import HandS.Flow
import HandS.Small
import HandS.RaiseMore
import HandS.Evl
import PyProof.ReprRoads
import KE.GoesMore
import HandS.SortRule
import KE.KDictCopyH
import HandS.WordsDict
import HandS.SortKw
import KE.DatumOrd
import HandS.CallLocal
import PySem.Challenge.RW_gridshares_k40_stacks_joined_and_met
set_option Elab.async false
set_option linter.all false
set_option maxRecDepth 100000
set_option maxHeartbeats 4000000
/-! Defs that are called while nothing is being shown (repr): the stack bears no guard. -/
namespace GS
open PySem PySem.Spec PyProof.Rows L2
abbrev Clr (A : Around) : Prop := A.guards = some []
/-- a def's promise, where no repr is under way -/
structure FnG (P : Program) (w : World) (K : PySem.W.Frag) (mg : Str → Option Value) (base : Heap)
    (k : Nat) (f : Addr) (fd : FuncData) (ps : List Str) (sp : Sp) : Prop where
  num : ∀ vs H Q E, sp vs H Q E → vs.length = ps.length
  go : ∀ (A : Around) (fr : List Env) (s : Shared) (H : Hp) (ar : Args) (us : List Value) (vs : List V) (Q : VK) (E : XK),
    Clr A → Room k A → Env0 P w K mg base A fr s H → BindsTo s fd ar (ps.zip us) → Vals vs us →
    sp vs H Q E → codeAny (model P w) A (.call (.ref f) ar) (CR CX0 fr P w H s Q E) s
section
variable {X : Cx} {k : Nat} {f : Addr} {fd : FuncData} {ps : List Str} {sp : Sp} {x : Str} {p pos : Pos} {e : Expr} {es : List Expr} {t : TA}
/-- f(e, ..) of such a def -/
theorem pe_callG (F : FnG X.prog X.w X.K X.mg X.base k f fd ps sp) (hA : Clr X.A) (hr : Room k X.A) (hg : Gl X x)
    (hm : X.mg x = some (.ref f)) (hk : PySem.W.keepIn X.K (.ref f) = true) (hb : Binds X.K fd ps []) (ha : PA X (e :: es) t)
    (hdb : (x == ("__debug__" : Str)) = false := by decide)
    (he : starEach (e :: es) X.env = (false, eval e X.env) :: starEach es X.env := by rfl)
    (hpl : (backTo pos (starEach es X.env)).any (·.1) = false := by rfl) :
    PE X (.Call (.Name x p) (e :: es) [] pos) (tCall sp [] E0 t) := by
  constructor
  intro pins s σ H Q I h
  apply wpAny_Call_Name_kw
  apply ld_glob I hg hm _ hdb
  apply PySem.W.callWith_K (h₀ := X.base) I.ok.mod.kin hk _ he hpl
  apply thn (ha.run pos pins s σ H _ I h)
  rintro us s1 ⟨vs, H1, J, r, q⟩
  refine ⟨J.kIn, wpAny_call ?_⟩
  have q' : sp vs H1 Q E0 := by rw [List.append_nil] at q; exact q
  have hl : (us ++ []).length = ps.length := by rw [List.append_nil, ← r.length]; exact F.num _ _ _ _ q'
  have hbd := hb s1 us J.kIn hl
  rw [List.append_nil] at hbd
  apply codeAny_mono (F.go X.A X.stack s1 H1 ⟨us, []⟩ us vs Q E0 hA hr J.env0 hbd r q')
  intro r' s' z
  match r', z with
  | .error _, z => exact z.elim
  | .ok (.ret u), z => exact J.after z
  | .ok .next, z => exact z.elim
  | .ok .brk, z => exact z.elim
  | .ok .cont, z => exact z.elim
/-- repr(a list or tuple of data) -/
def rShown (K : PySem.W.Frag) : List V → Hp → VK → Prop := fun xs H Q => ∃ (v : V) (d : PyData), xs = [v] ∧ (∃ a, v = .ref a) ∧
    Dp K H v d ∧ d.showable = true ∧ d.hasDict = false ∧ d.depth ≤ 60 ∧ d.shown.length ≤ sizeLine ∧ Q (.str d.shown) H
theorem call_shown (hA : Clr X.A) (hu : X.A.units + 64 < cLine) : CallR X (.builtin "repr") (rShown X.K) := by
  intro pn s σ H xs us Q J r h
  obtain ⟨v, d, rfl, ⟨a, rfl⟩, hd, h1, h2, h3, h4, q⟩ := h
  cases r with
  | cons r1 r2 =>
    cases r2
    cases r1
    obtain ⟨as, rd⟩ := Dp.reads J d _ _ hd rfl
    exact repr_of_reads' rd h1 (PyData.noDict_hsm h2) hA (by omega) (fun _ _ z => z) (fun h' u tk hk => ⟨.str _, H, J.kept hk, ⟨_, rfl⟩, q⟩) h4
/-- what e gives stays locked from there on -/
theorem pe_frz {te : TE} (h : PE X e te) : PE X e (fun σ H Q => te σ H fun v H1 => ∃ d u, H1 d = some u ∧ Mut (some u) ∧ ∀ od, Q v (upd H1 d (.frz od u))) := by
  constructor
  intro pins s σ H Q I hw
  apply thn (h.run pins s σ H _ I hw)
  rintro v s1 ⟨x, H1, J, r, d, u, hd, mu, q⟩
  obtain ⟨od, J2⟩ := J.lock hd mu
  exact ⟨x, _, J2, r, q od⟩
end
section
variable {P : Program} {w : World} {K : PySem.W.Frag} {mg : Str → Option Value} {base : Heap}
/-- such a def by its body -/
theorem okG {x qual : Str} {st : Stmt} {f : Addr} {fd : FuncData} {N ps : List Str} {k : Nat} {sp : Sp} (F : Fun K x qual st f fd)
    (S : FnScope N ps (defScope st)) (num : ∀ vs H Q E, sp vs H Q E → vs.length = ps.length)
    (hb : ∀ (cdv : Value) (A : Around) (fr : List Env) (s : Shared) (H : Hp) (vs : List V) (Q : VK) (E : XK), Clr A →
      Room k (A.deeper (envOfC qual (defScope st) s.heap.objs.size f cdv)) → sp vs H Q E →
      ∃ t, PSs (cxOf CX0 P w K mg base N qual (defScope st) f cdv A fr s H E).nox (defBody st) t ∧ t { nx := fun _ H' => Q .non H', rt := Q } (start N vs) H) :
    FnG P w K mg base (k + 1) f fd ps sp := by
  obtain ⟨oc, od, kV, doc, pm, an, cdv, ct, osl, rfl, lk, hcd⟩ := F.ex
  refine ⟨num, ?_⟩
  intro A fr s H ar us vs Q E hA hr e0 hbd r hsp
  have kept : ∀ b o, base.get? b = some o → s.heap.get? b = some o := fun b o z => (e0.bs b o z).1
  have hK := e0.mod.kin.keeps kept
  refine codeAny_call_function hr.depth (hK _ _ lk) rfl S.co S.gen rfl (PySem.W.codeRec_of hK hcd) (hbd _ _ _ _ ?_)
  refine wpAny_newFunctionEnv_cells S.kind ?_ ?_
  · rintro ⟨n, v⟩ hy
    exact (S.par n (List.of_mem_zip hy).1).imp (fun z => z) fun z => ⟨z, PySem.W.cellsFrom_some _ _ _ (.inl z)⟩
  intro env he s1 ic
  subst he
  refine ⟨(e0.mod.nolimit.keeps kept).keeps ic.toInCall.keep, codeAny_func ?_⟩
  obtain ⟨t, ht, hq⟩ := hb cdv A fr s H vs Q E hA (hr.deeper _) hsp
  have J : Inv (cxOf CX0 P w K mg base N qual (defScope st) f cdv A fr s H E) [] (start N vs) H s1 := inv_start S hr.hd e0 (num _ _ _ _ hsp) r ic
  apply wpAny_mono (ht.nox.run [] s1 (start N vs) H _ J hq) _ fun _ _ z => z
  intro fl s' z
  match fl, z with
  | .ret u, ⟨v, σ', H', J', rv, q⟩ => exact ⟨v, H', J'.os, J'.bare, J'.base, J'.hok, rv, q⟩
  | .next, ⟨σ', H', J', q⟩ => exact ⟨.non, H', J'.os, J'.bare, J'.base, J'.hok, rfl, q⟩
  | .brk, ⟨_, _, _, q⟩ => exact q.elim
  | .cont, ⟨_, _, _, q⟩ => exact q.elim
end
/-- the script alone is tracked, locked, unless the module itself holds it -/
def scriptH (K : PySem.W.Frag) (a : Addr) (vs : List Value) (ns : List Int) : Hp := fun b =>
  if b = a ∧ K.lookup a = none then some (.frz { cls := .type "list", data := .seq vs.toArray } (.lst (ns.map V.int))) else none
theorem scriptH_some {K : PySem.W.Frag} {a b : Addr} {vs : List Value} {ns : List Int} {o : HO} (h : scriptH K a vs ns b = some o) :
    b = a ∧ K.lookup a = none ∧ o = .frz { cls := .type "list", data := .seq vs.toArray } (.lst (ns.map V.int)) := by
  unfold scriptH at h
  by_cases c : b = a ∧ K.lookup a = none
  · rw [if_pos c] at h
    exact ⟨c.1, c.2, (Option.some.inj h).symm⟩
  · rw [if_neg c] at h
    cases h
theorem lawG {P : Program} {w : World} {K : PySem.W.Frag} {mg mb : Str → Option Value} {k : Nat} {fa a : Addr} {fd : FuncData} {x : Str} {sp : Sp} {s₁ : Shared} {vs : List Value} {ns : List Int}
    (KX : K.In s₁.heap) (g1 : s₁.heap.Ns mainGlobals mg) (g2 : s₁.heap.Ns builtinsNs mb) (g3 : ∀ x : Str, x ≠ "__name__" → mb x = bootBuiltins x) (g4 : s₁.heap.NoLimit) (g5 : s₁.gens = #[])
    (ha : s₁.heap.get? a = some { cls := .type "list", data := .seq vs.toArray }) (hi : IntsAre vs ns) (hl : ns.length ≤ sizeLine) (hr : Room k callerA)
    (F : ∀ base : Heap, K.In base → base.Ns mainGlobals mg → FnG P w K mg base k fa fd [x] sp) (hbd : ∀ (s : Shared) (u : Value), BindsTo s fd ⟨[u], []⟩ [(x, u)])
    (hsp : ∀ H : Hp, SqL K H a (ns.map V.int) → sp [.ref a] H (fun v _ => v = .bl true) E0) :
    codeAny (model P w) callerA (.call (.ref fa) ⟨[.ref a], []⟩) (fun r s' => r = .ok (.ret (.bool true)) ∧ OldK s₁.heap s'.heap ∧ s'.os = s₁.os ∧ AllBare s'.gens) s₁ := by
  have rv : Vals (ns.map V.int) vs := vals_ints hi
  have n1 : vs.length = ns.length := hi.length
  let H := scriptH K a vs ns
  have hok : HOk P w H s₁.heap := by
    intro b o z
    obtain ⟨rfl, _, rfl⟩ := scriptH_some z
    exact ⟨ha, by rw [List.length_map]; exact hl, vs, _, rv, ha⟩
  have hS : SqL K H a (ns.map V.int) := by
    cases c : K.lookup a with
    | none => exact .inl (.inr ⟨_, if_pos ⟨rfl, c⟩⟩)
    | some o =>
      have z := KX a o c
      rw [ha] at z
      cases z
      exact .inr ⟨_, vs.toArray, _, c, rfl, rfl, rfl, by rw [List.size_toArray, n1]; exact hl, by simpa using rv⟩
  have away : ∀ {b : Addr} {o : Obj}, s₁.heap.get? b = some o → (∀ q n, o.data ≠ .seq q n) ∨ K.lookup b ≠ none → H b = none := by
    intro b o z hb
    cases q : H b with
    | none => rfl
    | some u =>
      obtain ⟨rfl, c, rfl⟩ := scriptH_some q
      rw [ha] at z
      cases z
      rcases hb with hb | hb
      · exact absurd rfl (hb _ _)
      · exact absurd c hb
  have nsK : ∀ {b : Addr} {m : Str → Option Value}, s₁.heap.Ns b m → (hidT s₁.heap H).Ns b m := by
    rintro b m ⟨o, es, ep, z, d, r⟩
    exact ⟨o, es, ep, hidT_get z (away z (.inl fun q n y => by rw [d] at y; cases y)), d, r⟩
  have hKb : K.In (hidT s₁.heap H) := fun b o z => hidT_get (KX b o z) (away (KX b o z) (.inr (by rw [z]; exact Option.some_ne_none _)))
  obtain ⟨mc, g6, g7⟩ := g4
  have e0 : Env0 P w K mg (hidT s₁.heap H) callerA [] s₁ H := {
    frames := rfl
    mod := ⟨hKb, nsK g1, ⟨mb, nsK g2, g3⟩, ⟨mc, nsK g6, g7⟩⟩
    bs := fun b o z => of_hidT z
    bsz := Nat.le_of_eq (hidT_size _ _)
    funs := trivial
    frf := fun b z => absurd (show b ∈ ([] : List Addr) from z) List.not_mem_nil
    hok := hok
    bare := .of_eq g5 }
  apply codeAny_mono ((F _ hKb (nsK g1)).go callerA [] s₁ H ⟨[.ref a], []⟩ [.ref a] [.ref a] _ _ rfl hr e0 (hbd s₁ (.ref a)) (.cons rfl .nil) (hsp H hS))
  intro r s' z
  match r, z with
  | .error _, z => exact z.elim
  | .ok .next, z => exact z.elim
  | .ok .brk, z => exact z.elim
  | .ok .cont, z => exact z.elim
  | .ok (.ret u), ⟨v, H', os, bare, un, hok', r', q⟩ =>
    obtain rfl : v = .bl true := q
    obtain rfl : u = Value.bool true := r'
    refine ⟨rfl, OldK.of_keep ?_, os, bare⟩
    intro b o z
    cases c : H b with
    | none => exact un.keep b o z c (fun y => absurd (show b ∈ ([] : List Addr) from y) List.not_mem_nil) List.not_mem_nil
    | some o' =>
      obtain ⟨_, _, rfl⟩ := scriptH_some c
      have c1 := (hok b _ c).1
      have c2 := (hok' b _ (un.frzs b _ _ c)).1
      rw [z] at c1
      cases c1
      exact c2
/-- the goal behind k_head -/
theorem walkG {l : PySem.W.OpenLaw} {n k : Nat} {q : Program} {loose : List Str} {XP : (Str → Option Value) → Heap → Prop} {YP : World → Heap → Prop} {d : DefRec} {K : Params → PySem.W.Frag} {sp : World → Sp} {x : Str}
    (hn : l.most = some n) (hn2 : n ≤ sizeLine) (hdf : d.params.defaults = []) (hr : Room k callerA) (hY : ∀ (w : World) (h : Heap), YP w h → (K w.params).In h)
    (F : ∀ (w : World) (mg : Str → Option Value) (fa : Addr) (h : Heap), (K w.params).In h → h.Ns mainGlobals mg → mg d.name = some (.ref fa) →
      ∃ fd : FuncData, (∀ (s : Shared) (u : Value), BindsTo s fd ⟨[u], []⟩ [(x, u)]) ∧ ∀ base : Heap, (K w.params).In base → base.Ns mainGlobals mg → FnG l.prog w (K w.params) mg base k fa fd [x] (sp w))
    (hsp : ∀ (w : World) (H : Hp) (a : Addr) (ns : List Int), ns.length ≤ n → SqL (K w.params) H a (ns.map V.int) → sp w [.ref a] H (fun v _ => v = .bl true) E0) :
    PySem.W.WalkO q loose XP YP l.row.toRowW d [] (fun f vs => PySem.call f vs) := by
  apply Att.attach_call hn hdf
  intro w s₀ s₁ mg mb fa o pm cd doc a vs ns G Y ho hd hcd hmg hobj hints hlen hg
  obtain ⟨fd, hb, hF⟩ := F w mg fa _ (hY w _ Y) G.T.g hmg
  exact lawG (hY w _ Y) G.T.g G.T.b G.T.builtins G.T.nolimit hg hobj hints (Nat.le_trans hlen hn2) hr hF hb fun H hS => hsp w H a ns hlen hS
end GS
namespace GS
open PySem PySem.Spec PyProof.Rows L2 RZ
/-! what the built-in names stand for -/
theorem bt_len : bootBuiltins "len" = some (.builtin "len") := by decide +kernel
theorem bt_abs : bootBuiltins "abs" = some (.builtin "abs") := by decide +kernel
theorem bt_max : bootBuiltins "max" = some (.builtin "max") := by decide +kernel
theorem bt_min : bootBuiltins "min" = some (.builtin "min") := by decide +kernel
theorem bt_sum : bootBuiltins "sum" = some (.builtin "sum") := by decide +kernel
theorem bt_all : bootBuiltins "all" = some (.builtin "all") := by decide +kernel
theorem bt_any : bootBuiltins "any" = some (.builtin "any") := by decide +kernel
theorem bt_repr : bootBuiltins "repr" = some (.builtin "repr") := by decide +kernel
theorem bt_isinstance : bootBuiltins "isinstance" = some (.builtin "isinstance") := by decide +kernel
theorem bt_int : bootBuiltins "int" = some (.type "int") := by decide +kernel
theorem bt_bool : bootBuiltins "bool" = some (.type "bool") := by decide +kernel
theorem bt_tuple : bootBuiltins "tuple" = some (.type "tuple") := by decide +kernel
theorem bt_list : bootBuiltins "list" = some (.type "list") := by decide +kernel
theorem bt_str : bootBuiltins "str" = some (.type "str") := by decide +kernel
theorem bt_dict : bootBuiltins "dict" = some (.type "dict") := by decide +kernel
/-! heaps: all but p is kept -/
def Kp (p : Addr) (H H' : Hp) : Prop := ∀ b o, b ≠ p → H b = some o → H' b = some o
theorem Kp.refl (p : Addr) (H : Hp) : Kp p H H := fun _ _ _ h => h
theorem Kp.trans {p : Addr} {H H1 H2 : Hp} (a : Kp p H H1) (b : Kp p H1 H2) : Kp p H H2 := fun c o n h => b c o n (a c o n h)
theorem Kp.of {p : Addr} {H H' : Hp} (s : Same H H') : Kp p H H' := fun b o _ h => s b o h
theorem kp_upd {p : Addr} {H : Hp} {o : HO} : Kp p H (upd H p o) := fun b u n h => by rw [upd_ne n]; exact h
theorem kp_new {p q : Addr} {H : Hp} {o : HO} (h : H q = none) : Kp p H (upd H q o) := fun b u n e => by rw [upd_ne (ne_of_none e h)]; exact e
theorem same_new {q : Addr} {H : Hp} {o : HO} (h : H q = none) : Same H (upd H q o) := fun b u e => by rw [upd_ne (ne_of_none e h)]; exact e
theorem sameT {K : PySem.W.Frag} {H H' : Hp} {a : Addr} {xs : List V} (e : Same H H') (h : SqT K H a xs) : SqT K H' a xs := by
  rcases h with (h | ⟨o, h⟩) | h
  · exact .inl (.inl (e _ _ h))
  · exact .inl (.inr ⟨o, e _ _ h⟩)
  · exact .inr h
/-! zip of two tuples -/
theorem walk_zipT {K : PySem.W.Frag} {a b : Addr} {xs ys : List V} : Walk (ItzT K a b) (min xs.length ys.length) (fun H => SqT K H a xs ∧ SqT K H b ys) (YPair (fun i => xs[i]?) (fun i => ys[i]?)) := by
  constructor
  · intro i H hi q
    exact ⟨xs, ys, xs[i]'(by omega), ys[i]'(by omega), q.1, q.2, by simp [show i < xs.length by omega], by simp [show i < ys.length by omega]⟩
  · intro H q
    exact ⟨xs, ys, q.1, q.2, by omega⟩
  · rintro i H v H' hi q ⟨T, x, y, h1, h2, h3, h4, h5⟩
    exact ⟨T, x, y, h1, h2, h3, h4 xs q.1, h5 ys q.2⟩
/-! a list that a comprehension makes: its turns so far -/
def Grow (H0 : Hp) (D : Addr) (acc : Nat → List V) (i : Nat) (H : Hp) : Prop := Same H0 H ∧ H D = some (.lst (acc i))
theorem Grow.start {H0 : Hp} {D : Addr} {acc : Nat → List V} (nD : H0 D = none) (h : acc 0 = []) : Grow H0 D acc 0 (upd H0 D (.lst [])) :=
  ⟨same_new nD, by rw [upd_same, h]⟩
theorem Grow.put {H0 H H4 : Hp} {D : Addr} {acc : Nat → List V} {i : Nat} {y : V} (g : Grow H0 D acc i H) (nD : H0 D = none) (s : Same H H4) (h : acc (i + 1) = acc i ++ [y]) :
    Grow H0 D acc (i + 1) (upd H4 D (.lst (acc i ++ [y]))) := by
  refine ⟨fun b o e => ?_, by rw [upd_same, h]⟩
  rw [upd_ne (ne_of_none e nD)]
  exact s _ _ (g.1 _ _ e)
theorem Grow.skip {H0 H H4 : Hp} {D : Addr} {acc : Nat → List V} {i : Nat} (g : Grow H0 D acc i H) (s : Same H H4) (h : acc (i + 1) = acc i) : Grow H0 D acc (i + 1) H4 :=
  ⟨g.1.trans s, by rw [h]; exact s _ _ g.2⟩
/-! data that is shown: of at most n signs, at most k deep -/
structure Sm (n k : Nat) (d : PyData) : Prop where
  a : d.showable = true
  b : d.hasDict = false
  c : d.depth ≤ k
  d : d.shown.length ≤ n
theorem Sm.int {i : Int} (h : i.natAbs < 10 ^ 12) : Sm 13 0 (.int i) := by
  refine ⟨?_, rfl, Nat.le_refl _, PyData.shown_int_le h⟩
  show decide (i.natAbs.log2 < 1920) = true
  exact decide_eq_true (log2_small (Nat.lt_of_lt_of_le h (Nat.le_trans (show 10 ^ 12 ≤ 2 ^ 40 by decide) (Nat.pow_le_pow_right (by decide) (by decide)))))
theorem Sm.more {n n' k k' : Nat} {d : PyData} (h : Sm n k d) (h1 : n ≤ n') (h2 : k ≤ k') : Sm n' k' d := ⟨h.a, h.b, Nat.le_trans h.c h2, Nat.le_trans h.d h1⟩
theorem sm_all {n k : Nat} : ∀ {ds : List PyData}, (∀ d ∈ ds, Sm n k d) → PyData.showableAll ds = true ∧ PyData.hasDictAll ds = false ∧ PyData.depthAll ds ≤ k ∧ ((PyData.shownAll ds).map (·.length)).sum ≤ n * ds.length ∧ (PyData.shownAll ds).length = ds.length
  | [], _ => ⟨rfl, rfl, Nat.zero_le _, Nat.zero_le _, rfl⟩
  | d :: ds, h => by
    obtain ⟨h1, h2, h3, h4, h5⟩ := sm_all (ds := ds) fun e m => h e (List.mem_cons_of_mem _ m)
    have q := h d List.mem_cons_self
    refine ⟨by simp only [PyData.showableAll, q.a, h1, Bool.and_self], by simp only [PyData.hasDictAll, q.b, h2, Bool.or_self], ?_, ?_, by simp only [PyData.shownAll, List.length_cons, h5]⟩
    · simp only [PyData.depthAll]
      have := q.c
      omega
    · simp only [PyData.shownAll, List.map_cons, List.sum_cons, List.length_cons]
      have e := q.d
      rw [Nat.mul_add]
      omega
theorem Sm.tuple {n k : Nat} {ds : List PyData} (h : ∀ d ∈ ds, Sm n k d) : Sm (n * ds.length + 2 * ds.length + 3) (k + 1) (.tuple ds) := by
  obtain ⟨h1, h2, h3, h4, h5⟩ := sm_all h
  refine ⟨by simpa only [PyData.showable] using h1, by simpa only [PyData.hasDict] using h2, by simp only [PyData.depth]; omega, ?_⟩
  simp only [PyData.shown]
  have := tupleText_len_le (PyData.shownAll ds)
  rw [h5] at this
  omega
theorem Sm.list {n k : Nat} {ds : List PyData} (h : ∀ d ∈ ds, Sm n k d) : Sm (n * ds.length + 2 * ds.length + 3) (k + 1) (.list ds) := by
  obtain ⟨h1, h2, h3, h4, h5⟩ := sm_all h
  refine ⟨by simpa only [PyData.showable] using h1, by simpa only [PyData.hasDict] using h2, by simp only [PyData.depth]; omega, ?_⟩
  simp only [PyData.shown]
  have := listText_len_le (PyData.shownAll ds)
  rw [h5] at this
  omega
theorem sm_ints {B : Nat} {xs : List Int} (h : ∀ x ∈ xs, x.natAbs ≤ B) (hB : B < 10 ^ 12) : ∀ d ∈ xs.map PyData.int, Sm 13 0 d := by
  intro d m
  obtain ⟨x, hx, rfl⟩ := List.mem_map.mp m
  exact Sm.int (Nat.lt_of_le_of_lt (h x hx) hB)
theorem dpAll_ints {K : PySem.W.Frag} {H : Hp} : ∀ xs : List Int, DpAll K H (xs.map V.int) (xs.map PyData.int)
  | [] => .nil
  | x :: xs => .cons (.int x) (dpAll_ints xs)
theorem dp_tup {K : PySem.W.Frag} {H : Hp} {a : Addr} {xs : List Int} (h : SqT K H a (xs.map V.int)) : Dp K H (.ref a) (.tuple (xs.map PyData.int)) := .tup h (dpAll_ints xs)
theorem dp_lst {K : PySem.W.Frag} {H : Hp} {a : Addr} {xs : List Int} (h : SqL K H a (xs.map V.int)) : Dp K H (.ref a) (.list (xs.map PyData.int)) := .lst h (dpAll_ints xs)
theorem canLay_ints : ∀ xs : List Int, PyData.canLayAll0 (xs.map PyData.int) = true ∧ PyData.depthAll (xs.map PyData.int) = 0
  | [] => ⟨rfl, rfl⟩
  | x :: xs => by
    obtain ⟨h1, h2⟩ := canLay_ints xs
    constructor
    · simp only [List.map_cons, PyData.canLayAll0, PyData.canLay0, h1, Bool.and_self]
    · simp only [List.map_cons, PyData.depthAll, PyData.depth, h2, Nat.max_self]
theorem shaped_lst (xs : List Int) : SeqAt.shaped (.list (xs.map PyData.int)) = true := by
  obtain ⟨h1, h2⟩ := canLay_ints xs
  unfold SeqAt.shaped
  rw [Bool.and_eq_true, decide_eq_true_eq]
  exact ⟨by simp only [PyData.canLay0, h1], by simp only [PyData.depth, h2]; omega⟩
theorem shaped_tup (xs : List Int) : SeqAt.shaped (.tuple (xs.map PyData.int)) = true := by
  obtain ⟨h1, h2⟩ := canLay_ints xs
  unfold SeqAt.shaped
  rw [Bool.and_eq_true, decide_eq_true_eq]
  exact ⟨by simp only [PyData.canLay0, h1], by simp only [PyData.depth, h2]; omega⟩
theorem eqvAll_ints : ∀ xs ys : List Int, PyData.eqvAll (xs.map PyData.int) (ys.map PyData.int) = decide (xs = ys)
  | [], [] => by simp [PyData.eqvAll]
  | [], _ :: _ => by simp [PyData.eqvAll]
  | _ :: _, [] => by simp [PyData.eqvAll]
  | x :: xs, y :: ys => by
    simp only [List.map_cons, PyData.eqvAll, PyData.eqv, eqvAll_ints xs ys, List.cons.injEq]
    by_cases h : x = y
    · subst h; simp
    · simp [h]
theorem small_line {n : Nat} (h : n ≤ 100000) : n ≤ sizeLine := by rw [sizeLine_eq]; omega
theorem small_lt {n : Nat} (h : n ≤ 100000) : n < sizeLine := by rw [sizeLine_eq]; omega
theorem at_get {xs : List V} {i : Int} {v : V} (h0 : 0 ≤ i) (h : xs[i.toNat]? = some v) : atI xs i = some v := by
  have e : i = ((i.toNat : Nat) : Int) := by omega
  rw [e]
  exact atI_nat h
theorem ix_in {n : Nat} {i : Int} (h0 : 0 ≤ i) (h1 : i < n) : ixN n i = some i.toNat := by
  unfold ixN
  rw [if_pos h0, if_pos h1]
end GS
namespace GS
open PySem PySem.Spec PyProof.Rows L2 RZ
/-! t * k: the same tuple for 1, an empty one for 0 -/
theorem tmul_same (l : Addr) (items : Array Value) (n : Nat) (dd : Option Addr) (sl : Array (Option Value)) (u : Tok) :
    Meets (Builtin.«tuple.__mul__» ⟨[.ref l, .int 1 u], []⟩) (fun _ R s => s.heap.get? l = some { cls := .type "tuple", dict := dd, data := .seq items n, slots := sl } ∧ R (.ok (.ret (Value.ref l))) s) :=
  .of_wp fun prog w A R s h => by
    obtain ⟨hp, g, d, tk, os⟩ := s
    obtain ⟨hl, h⟩ := h
    have f1 := AutoSeq1.idx_int
    wp_walk using wpAny_loadPart' hl
    repeat (first
      | (refine wpAny_ite_false (by decide) ?_; wp_walk using wpAny_loadPart' hl)
      | (refine wpAny_ite_true (decide_eq_true (Bool.or_true _)) ?_; wp_walk using wpAny_loadPart' hl)
      | (refine wpAny_ite_true (by decide) ?_; wp_walk using wpAny_loadPart' hl))
    exact ⟨_, rfl, h⟩
theorem tmul_none (l : Addr) (items : Array Value) (n : Nat) (dd : Option Addr) (sl : Array (Option Value)) (u : Tok) (c1 : items.isEmpty = false) :
    Meets (Builtin.«tuple.__mul__» ⟨[.ref l, .int 0 u], []⟩) (fun _ R s => s.heap.get? l = some { cls := .type "tuple", dict := dd, data := .seq items n, slots := sl } ∧
      R (.ok (.ret (Value.ref s.heap.objs.size))) { s with heap := s.heap.push { cls := Value.type "tuple", data := Data.seq #[] }, toks := s.toks }) :=
  .of_wp fun prog w A R s h => by
    obtain ⟨hp, g, d, tk, os⟩ := s
    obtain ⟨hl, h⟩ := h
    have f1 := AutoSeq1.idx_int
    wp_walk using wpAny_loadPart' hl
    repeat (first
      | (refine wpAny_ite_false (by decide) ?_; wp_walk using wpAny_loadPart' hl)
      | (refine wpAny_ite_false (decide_eq_false (by rw [c1]; decide)) ?_; wp_walk using wpAny_loadPart' hl)
      | (refine wpAny_ite_true (by decide) ?_; wp_walk using wpAny_loadPart' hl))
    exact ⟨_, rfl, h⟩
def rRepA (K : PySem.W.Frag) : R2 := fun x y H Q => ∃ l k xs, x = .ref l ∧ y = .int k ∧ H l = some (.tup xs) ∧ xs ≠ [] ∧ 0 ≤ k ∧ k ≤ 1000 ∧ xs.length ≤ 1000 ∧
  ∀ H' c, Same H H' → H' c = some (.tup (List.replicate k.toNat xs).flatten) → Q (.ref c) H'
section
variable {X : Cx}
theorem op_repA : OpR X (binaryOp .Mult) (rRepA X.K) := by
  intro pn s σ H x y v u Q J rx ry h
  obtain ⟨l, k, xs, rfl, rfl, hl, hne, h0, h2, hz, q⟩ := h
  have hT : SqT X.K H l xs := SqT.of hl
  by_cases hk : 2 ≤ k
  · exact op_repT pn s σ H _ _ v u Q J rx ry ⟨l, k, xs, rfl, rfl, hT, hne, hk, h2, hz, fun p np => q _ p (same_new np) upd_same⟩
  cases rx
  obtain ⟨t, rfl⟩ := ry
  obtain ⟨its, r, ⟨⟨cls, dd, data, sl⟩, ho, hc, n, hd⟩, hs⟩ := J.tuple hT
  simp only at hc hd
  subst hc hd
  have hi : its.toArray.isEmpty = false := by
    cases its with
    | nil => exact absurd (List.eq_nil_of_length_eq_zero r.length) hne
    | cons a b => rfl
  rcases (show k = 0 ∨ k = 1 by omega) with rfl | rfl
  · refine wpAny_binaryOp_repeat_ref (T := "tuple") (U := "int") (by decide) ⟨_, ho, rfl⟩ (fun s' => typeIs_int s' 0 t) noFill_tuple_mul F.fills_int_mul F.slot_int_rmul repeat_tuple F.slot_int_index.lookup
      (call_meets F.slot_int_rmul (typeIs_int s 0 t) F.entry_int_rmul (F.args_int_rmul_2 _ _) (int_rmul_tuple 0 t l its.toArray n dd sl)
        ⟨ho, rfl, ⟨_, ho, rfl⟩, call_meets F.slot_tuple_mul ⟨_, ho, rfl⟩ F.entry_tuple_mul (F.args_tuple_mul_2 _ _) (tmul_none l its.toArray n dd sl t hi) ⟨ho, ?_⟩⟩)
    refine ⟨.ref s.heap.objs.size, _, J.laid (t' := s.toks) (o := .tup []) (fun b ob z => Heap.get?_push_of_some _ z) (Nat.le_refl _) ?_, rfl, q _ _ (same_new (J.hok.fresh (Nat.le_refl _))) upd_same⟩
    exact ⟨Nat.zero_le _, [], .nil, IsTup.new _ _⟩
  · refine wpAny_binaryOp_repeat_ref (T := "tuple") (U := "int") (by decide) ⟨_, ho, rfl⟩ (fun s' => typeIs_int s' 1 t) noFill_tuple_mul F.fills_int_mul F.slot_int_rmul repeat_tuple F.slot_int_index.lookup
      (call_meets F.slot_int_rmul (typeIs_int s 1 t) F.entry_int_rmul (F.args_int_rmul_2 _ _) (int_rmul_tuple 1 t l its.toArray n dd sl)
        ⟨ho, rfl, ⟨_, ho, rfl⟩, call_meets F.slot_tuple_mul ⟨_, ho, rfl⟩ F.entry_tuple_mul (F.args_tuple_mul_2 _ _) (tmul_same l its.toArray n dd sl t) ⟨ho, ?_⟩⟩)
    refine ⟨.ref l, H, J, rfl, q H l (Same.refl _) ?_⟩
    have e : (List.replicate (1 : Int).toNat xs).flatten = xs := by simp
    rw [e]
    exact hl
/-- sum of a tuple of ints -/
theorem cr_sumT (hc : X.calm = true) : CallR X (.builtin "sum") (fun vs H Q => ∃ (a : Addr) (ns : List Int), vs = [V.ref a] ∧ SqT X.K H a (ns.map V.int) ∧ Q (.int ns.sum) H) := by
  intro pn s σ H vs us Q J r h
  obtain ⟨a, ns, rfl, hs, q⟩ := h
  obtain ⟨its, rv, p, _⟩ := J.tuple hs
  rw [Vals.ref1 r]
  have hn : its.length = ns.length := by rw [← rv.length, List.length_map]
  have hT : s.heap.IsTuple a its.toArray := p
  refine call_sum_walkG (wpAny_pyIter_tuple hT ?_)
  have hlt : a < s.heap.objs.size := by obtain ⟨o, ho, _⟩ := hT; exact Heap.lt_size ho
  refine ⟨s.heap.objs.size, _, _, _, _, _, fun i => ns.getD i 0, rfl, Walks.tuple (A := X.A.in1) (J.ok.hd hc) _ a (Nat.ne_of_lt hlt) its.toArray, ⟨⟨_, Heap.get?_push_size _ rfl, rfl, rfl⟩, ?_⟩, ?_, ?_, ?_⟩
  · obtain ⟨o, ho, z⟩ := hT
    exact ⟨o, Heap.get?_push_of_some _ ho, z⟩
  · intro b hb
    have e : b = s.heap.objs.size ∨ b = a := by simpa using hb
    have : (s.heap.push { cls := .type "tuple_iterator", data := .fields #[.ref a, .int 0 0] }).objs.size = s.heap.objs.size + 1 := Heap.size_push ..
    show b < (s.heap.push { cls := .type "tuple_iterator", data := .fields #[.ref a, .int 0 0] }).objs.size
    rw [this]
    rcases e with e | e
    · rw [e]
      exact Nat.lt_succ_self _
    · rw [e]
      exact Nat.lt_succ_of_lt hlt
  · intro i v hv
    have hv' : its[i]? = some v := by simpa using hv
    have hi : i < ns.length := by
      have := (List.getElem?_eq_some_iff.mp hv').1
      omega
    obtain ⟨u, hu, ru⟩ := rv.get (i := i) (x := .int ns[i]) (by rw [List.getElem?_map, List.getElem?_eq_getElem hi]; rfl)
    rw [hv'] at hu
    cases hu
    obtain ⟨t, rfl⟩ := ru
    refine ⟨t, ?_⟩
    show Value.int ns[i] t = Value.int (ns.getD i 0) t
    rw [List.getD_eq_getElem?_getD, List.getElem?_eq_getElem hi]
    rfl
  · intro h' tk t' hk
    have e : preSum (fun i => ns.getD i 0) its.toArray.size = ns.sum := by
      rw [preSum_getD, List.size_toArray, hn, List.take_of_length_le (Nat.le_refl _)]
    rw [e]
    refine ⟨.int _, H, J.kept fun b o z => hk b o ?_ (Heap.get?_push_of_some _ z), ⟨_, rfl⟩, q⟩
    intro y
    have : b = s.heap.objs.size := by simpa using y
    exact absurd (Heap.lt_size z) (by rw [this]; exact Nat.lt_irrefl _)
end
theorem cut_take {xs : List V} {i : Int} (h : 0 ≤ i) : cutV xs none (some i) = xs.take i.toNat := by
  obtain ⟨k, rfl⟩ : ∃ k : Nat, i = k := ⟨i.toNat, by omega⟩
  unfold cutV
  rw [HT.sIx_none, HT.sIx_nat, Int.toNat_natCast, List.drop_zero, Nat.sub_zero]
  rcases Nat.le_total k xs.length with z | z
  · rw [Nat.min_eq_left z]
  · rw [Nat.min_eq_right z, List.take_of_length_le (Nat.le_refl _), List.take_of_length_le z]
theorem cut_drop {xs : List V} {i : Int} (h : 0 ≤ i) : cutV xs (some i) none = xs.drop i.toNat := by
  obtain ⟨k, rfl⟩ : ∃ k : Nat, i = k := ⟨i.toNat, by omega⟩
  unfold cutV
  rw [HT.sIx_none, HT.sIx_nat, Int.toNat_natCast]
  rcases Nat.le_total k xs.length with z | z
  · rw [Nat.min_eq_left z]
    exact List.take_of_length_le (by rw [List.length_drop]; exact Nat.le_refl _)
  · rw [Nat.min_eq_right z, List.drop_of_length_le (Nat.le_refl _), List.drop_of_length_le z]
    simp
theorem rd_slA {K : PySem.W.Frag} {H : Hp} {a : Addr} {xs : List V} {lo hi : Option Int} {Q : VK} (ha : H a = some (.tup xs)) (h : ∀ H' c, Same H H' → H' c = some (.tup (cutV xs lo hi)) → Q (.ref c) H') :
    rSlA K (.ref a) lo hi H Q := by
  refine ⟨a, xs, rfl, SqT.of ha, fun z => h H a (Same.refl _) ?_, fun _ p np => h _ p (same_new np) upd_same⟩
  rw [ha]
  unfold cutV
  rw [z.1, z.2, List.drop_zero, Nat.sub_zero, List.take_of_length_le (Nat.le_refl _)]
theorem rd_catA {K : PySem.W.Frag} {H : Hp} {a b : Addr} {xs ys : List V} {Q : VK} (ha : H a = some (.tup xs)) (hb : H b = some (.tup ys)) (hl : xs.length + ys.length ≤ sizeLine) (h : ∀ H' c, Same H H' → H' c = some (.tup (xs ++ ys)) → Q (.ref c) H') :
    rCatA K (.ref a) (.ref b) H Q :=
  ⟨a, b, xs, ys, rfl, rfl, SqT.of ha, SqT.of hb, hl, fun z => h H b (Same.refl _) (by rw [hb, z]; rfl), fun _ z => h H a (Same.refl _) (by rw [ha, z, List.append_nil]), fun _ _ p np => h _ p (same_new np) upd_same⟩
/-! by named readings, for comprehensions' blocks -/
def rLenS (K : PySem.W.Frag) : List V → Hp → VK → Prop := fun xs H Q => ∃ p ys, xs = [.ref p] ∧ (SqL K H p ys ∨ SqT K H p ys) ∧ Q (.int ys.length) H
theorem len_seq {X : Cx} : CallR X (.builtin "len") (rLenS X.K) := call_len_seq
def rTupO (K : PySem.W.Frag) : List V → Hp → VK → Prop := fun xs H Q => ∃ p ys, xs = [.ref p] ∧ ((SqL K H p ys ∧ ∀ l, H l = none → Q (.ref l) (upd H l (.tup ys))) ∨ (SqT K H p ys ∧ Q (.ref p) H))
theorem tup_of {X : Cx} : CallR X (.type "tuple") (rTupO X.K) := call_tuple_of
def rLstO (K : PySem.W.Frag) : List V → Hp → VK → Prop := fun xs H Q => ∃ p ys, xs = [.ref p] ∧ (SqL K H p ys ∨ SqT K H p ys) ∧ ∀ l, H l = none → Q (.ref l) (upd H l (.lst ys))
theorem lst_of {X : Cx} : CallR X (.type "list") (rLstO X.K) := call_list_of
/-- what is new may change -/
theorem kp_same {p : Addr} {H H1 H2 : Hp} (np : H p = none) (s : Same H H1) (k : Kp p H1 H2) : Same H H2 := fun b o e => k b o (ne_of_none e np) (s b o e)
/-- a constant of the module -/
theorem pe_cst {X : Cx} {x : Str} {i : Int} {pos : Pos} (hg : Gl X x) (h : ∃ t, X.mg x = some (.int i t)) (hd : (x == ("__debug__" : Str)) = false := by decide) : PE X (.Name x pos) (tC (.int i)) := by
  obtain ⟨t, e⟩ := h
  exact pe_glob (v := .int i) hg e ⟨t, rfl⟩ hd
end GS
namespace GS
open PySem PySem.Spec PyProof.Rows L2 RZ
open AutoSeq1 (wpAny_loadPart')
/-! enumerate(tuple) -/
theorem meets_enumT (l : Addr) (items : Array Value) (n : Nat) (dct : Option Addr) (sl : Array (Option Value)) :
    Meets (Builtin.«enumerate.__new__» ⟨[.type "enumerate", .ref l], []⟩) (fun _ R s => s.heap.get? l = some { cls := .type "tuple", dict := dct, data := .seq items n, slots := sl } ∧
      R (.ok (.ret (.ref (s.heap.push { cls := .type "tuple_iterator", data := .fields #[.ref l, .int 0 0] }).objs.size)))
        { s with heap := (s.heap.push { cls := .type "tuple_iterator", data := .fields #[.ref l, .int 0 0] }).push { cls := .type "enumerate", data := .fields #[.none, .bool false, .ref s.heap.objs.size, rawInt 0, .none, .none] } }) :=
  .of_wp fun prog w A R s h => by
    obtain ⟨hp, g, d, tk, os⟩ := s
    obtain ⟨hl, h⟩ := h
    have hsub := sub_enumerate
    have hT : Heap.IsTuple (Shared.heap ⟨hp, g, d, tk, os⟩) l items := ⟨_, hl, rfl, n, rfl⟩
    wp_walk using wpAny_loadPart' hl
    refine wpAny_stack_any fun st => wpAny_pure ?_
    split
    · rename_i c _ _ _ _ _
      cases (c == Value.type "enumerate") <;> (wp_walk using wpAny_loadPart' hl, wpAny_pyIter_tuple hT) <;> exact ⟨_, rfl, h⟩
    · wp_walk using wpAny_loadPart' hl, wpAny_pyIter_tuple hT
      exact ⟨_, rfl, h⟩
section
variable {prog : Program} {w : World} {A : Around} {E : Value → Shared → Prop} {s : Shared}
theorem call_enumT {l : Addr} {items : Array Value} {Q : Value → Shared → Prop} (hL : s.heap.IsTuple l items)
    (h : ∀ h', IsEnum h' (s.heap.objs.size + 1) s.heap.objs.size 0 .none → h'.IsTupleIter s.heap.objs.size l 0 → (∀ b o, s.heap.get? b = some o → h'.get? b = some o) → Q (.ref (s.heap.objs.size + 1)) { s with heap := h' }) :
    wpAny (model prog w) A (call (.type "enumerate") [.ref l]) Q E s := by
  obtain ⟨⟨c, dct, dt, sl⟩, hl, hc, n, hd⟩ := hL
  obtain rfl : c = .type "tuple" := hc
  obtain rfl : dt = .seq items n := hd
  refine callType_new F.called_enumerate (by decide) (F.typeCall_enumerate_1 _) (F.newCall_enumerate_1 _) (fun obj => F.args_object_init_2 obj _) F.entry_enumerate_new (meets_enumT l items n dct sl) ⟨hl, ?_⟩
  let g1 := s.heap.push { cls := .type "tuple_iterator", data := .fields #[.ref l, .int 0 0] }
  let o2 : Obj := { cls := .type "enumerate", data := .fields #[.none, .bool false, .ref s.heap.objs.size, rawInt 0, .none, .none] }
  have hz : g1.objs.size = s.heap.objs.size + 1 := Heap.size_push ..
  have he : (g1.push o2).get? (s.heap.objs.size + 1) = some o2 := by rw [← hz]; exact Heap.get?_push_size _ rfl
  show Shared.TypeIs { s with heap := g1.push o2 } (.ref g1.objs.size) "enumerate" ∧ _
  rw [hz]
  exact ⟨⟨o2, he, rfl⟩, h _ he ⟨_, Heap.get?_push_of_some _ (Heap.get?_push_size _ rfl), rfl, rfl⟩ fun b o x => Heap.get?_push_of_some _ (Heap.get?_push_of_some _ x)⟩
end
section
variable {prog : Program} {w : World} {A : Around} {E : Value → Shared → Prop} {s : Shared}
theorem enumT_end {e it l : Addr} {i : Int} {j : Nat} {items : Array Value} {old : Value} {Q : Option Value → Shared → Prop} (hh : A.handled = none)
    (he : IsEnum s.heap e it i old) (hit : s.heap.IsTupleIter it l j) (hl : s.heap.IsTuple l items) (hx : items[j]? = none)
    (hQ : ∀ h', Heap.ExtBut it s.heap h' → Q none { s with heap := h' }) : wpAny (model prog w) A (pyNext (.ref e)) Q E s := by
  have tE : s.TypeIs (.ref e) "enumerate" := ⟨_, he, rfl⟩
  unfold pyNext
  apply wpAny_bind
  apply wpAny_attempt
  apply wpAny_callSpecial?_slot (name := Str.ofString "__next__") tE F.slot_enumerate_next
  apply wpAny_call_entry F.slot_enumerate_next tE F.entry_enumerate_next _ (F.args_enumerate_next_1 _)
  show wpAny _ _ (field (.ref e) 2 >>= _) _ _ _
  apply wpAny_bind
  apply wpAny_field he rfl (x := .ref it) rfl
  apply wpAny_bind
  apply wpAny_nextOf_tuple_end (A := A.in1) (show A.in1.handled = none from hh) hit hl hx
  rintro h' x eb ⟨o, ho, hc⟩
  refine wpAny_bind ?_
  refine wpAny_isInstance (T := "StopIteration") (b := true) (v := .ref x) ⟨o, ho, hc⟩ isSubtype_stop ?_
  exact wpAny_pure (hQ _ eb)
end
def IteT (K : PySem.W.Frag) (a : Addr) : It where
  go := fun i H => ∃ (xs : List V) (x : V), SqT K H a xs ∧ xs[i]? = some x
  yld := fun i H v H' => ∃ T x, v = .ref T ∧ H T = none ∧ H' = upd H T (.tup [.int (i : Nat), x]) ∧ ∀ xs, SqT K H a xs → xs[i]? = some x
  stop := fun i H => ∃ xs : List V, SqT K H a xs ∧ xs.length ≤ i
theorem turn_enumT {P : Program} {w : World} {K : PySem.W.Frag} {elts : List Expr} {kk : Nat} {tpos : Pos} (a e it : Addr) :
    Turn P w K (.Tuple elts kk tpos) (IteT K a) [e, it] e (fun i h => (∃ old, IsEnum h e it ((i : Nat) : Int) old) ∧ h.IsTupleIter it a i ∧ e ≠ it ∧ a ≠ it ∧ e ≠ a) where
  mem := List.mem_cons_self
  obj := fun i h st b hb => by
    obtain ⟨⟨old, he⟩, ⟨o, ho, _, hd⟩, _⟩ := st
    rcases List.mem_cons.mp hb with rfl | hb
    · exact ⟨_, he, fun v q => nomatch q⟩
    · rw [List.mem_singleton.mp hb]
      exact ⟨o, ho, fun v q => by rw [hd] at q; cases q⟩
  keep := fun i h h' ⟨⟨old, he⟩, hi, r⟩ k => ⟨⟨old, k e (by simp) _ he⟩, hi.at fun o q => k it (by simp) o q, r⟩
  item := by
    intro X hP hw hK hc i pn s σ H E J hf st hg
    subst hP hw hK
    obtain ⟨⟨old, he⟩, hit, hne, hai, hea⟩ := st
    obtain ⟨xs, x, hq, hx⟩ := hg
    obtain ⟨its, rv, p, hz⟩ := J.tuple hq
    obtain ⟨u, hu, ru⟩ := rv.get hx
    have hel : e < s.heap.objs.size := Heap.lt_size he
    have hil : it < s.heap.objs.size := by obtain ⟨_, q, _⟩ := hit; exact Heap.lt_size q
    have hlt : i < its.toArray.size := by
      have := (List.getElem?_eq_some_iff.mp hu).1
      simpa using this
    refine wpAny_pyNext_enum_itemD (Draws.tuple (A := X.A.in1) (J.ok.hd hc) it a hai its.toArray) he ⟨hit, p⟩ hlt hne (by simp [hne, hea]) fun y h' tk hy ho hst hT hsz hk => ?_
    have ey : y = u := by
      have hy' : its[i]? = some y := by simpa using hy
      rw [hu] at hy'
      exact (Option.some.inj hy').symm
    subst ey
    refine ⟨_, rfl, wpAny_letOwnedTupleGo_enum (s := { s with heap := h', toks := tk + 1 }) ho fun h'' he' sb => ?_⟩
    have hT2 : h''.get? s.heap.objs.size = some { cls := .type "tuple", data := .seq #[.int i tk, y] } := (sb.2 _ (Nat.ne_of_gt hel)).trans hT
    have new : ObjOk X.prog X.w (upd H s.heap.objs.size (.tup [.int (i : Nat), x])) h'' s.heap.objs.size (.tup [.int (i : Nat), x]) :=
      ⟨small_line (by show 2 ≤ 100000; omega), [.int i tk, y], .cons ⟨_, rfl⟩ (.cons ru .nil), ⟨_, hT2, rfl, _, rfl⟩⟩
    have J1 : Inv X pn σ (upd H s.heap.objs.size (.tup [.int (i : Nat), x])) { s with heap := h'', toks := tk + 1 } :=
      J.turnedNew (ch := [e, it]) (fun b ob hb q => (sb.2 b (fun z => hb (by simp [z]))).trans (hk b ob (fun z => hb (by simp [z])) (fun z => hb (by simp [z])) q)) hf (Nat.le_refl _) new
    refine ⟨.ref s.heap.objs.size, _, J1, rfl, ⟨_, x, rfl, J.hok.fresh (Nat.le_refl _), rfl, fun ys hy => by rw [J.tuple_inj hy hq]; exact hx⟩, ⟨⟨y, ?_⟩, hst.1.at fun o q => (sb.2 it (Ne.symm hne)).trans q, hne, hai, hea⟩, fun b hb => ?_⟩
    · rw [show ((i + 1 : Nat) : Int) = (i : Int) + 1 by omega]
      exact he'
    · have hb' : b < s.heap.objs.size := by
        rcases List.mem_cons.mp hb with z | z
        · rw [z]; exact hel
        · rw [List.mem_singleton.mp z]; exact hil
      rw [upd_ne (Nat.ne_of_lt hb')]
      exact (hf b hb).1
  done := by
    intro X hP hw hK hc i pn s σ H E J hf st hg
    subst hP hw hK
    obtain ⟨⟨old, he⟩, hit, hne, hai, hea⟩ := st
    obtain ⟨xs, hq, hx⟩ := hg
    obtain ⟨its, rv, p, hz⟩ := J.tuple hq
    obtain ⟨f0, f1, f2, f3, f4, f5⟩ := hf it (by simp)
    have hl := rv.length
    exact enumT_end (J.ok.hd hc) he hit p (by simp; omega) fun h' eb => ⟨rfl, J.turned (t' := s.toks) (fun b o hb q => eb b o hb q) f0 f1 f3 f4 f5⟩
  self := fun A i s Q E ⟨⟨_, he⟩, _⟩ h => wpAny_pyIter_enum he h
def iEnumT (K : PySem.W.Frag) (ta : TA) : TI := fun σ H R => ta σ H fun vs H1 => ∃ a xs, vs = [.ref a] ∧ SqT K H1 a xs ∧ R (IteT K a) H1
theorem pi_enumT {X : Cx} {e : Expr} {ta : TA} {p pos tpos : Pos} {elts : List Expr} {kk : Nat} (hg : Gl X "enumerate") (hm : X.mg "enumerate" = none) (ha : PA X [e] ta) (hs : starEach [e] X.env = [(false, eval e X.env)] := by rfl) :
    PI X (.Tuple elts kk tpos) (.Call (.Name "enumerate" p) [e] [] pos) (iEnumT X.K ta) := by
  constructor
  intro pn s σ H R J h
  refine Call_ (ld_blt J hg hm boot_enumerate ?_)
  refine PyProof.Rows.callWith_type1 (thn (ha.run pos pn s σ H _ J h) ?_) hs rfl
  rintro us s1 ⟨vs, H1, J1, r1, a, xs, rfl, hq, q⟩
  obtain ⟨its, rv, hT, hz⟩ := J1.tuple hq
  rw [Vals.ref1 r1]
  refine call_enumT hT fun h' he hit hk => wpAny_pyIter_enum he ?_
  have hal : a < s1.heap.objs.size := by obtain ⟨o, ho, _⟩ := hT; exact Heap.lt_size ho
  have J2 : Inv X pn σ H1 { s1 with heap := h' } := J1.kept (t' := s1.toks) hk
  refine ⟨s1.heap.objs.size + 1, [s1.heap.objs.size + 1, s1.heap.objs.size], _, _, H1, rfl, J2, turn_enumT a (s1.heap.objs.size + 1) s1.heap.objs.size, ⟨⟨.none, he⟩, hit, Nat.succ_ne_self _, Nat.ne_of_lt hal, Nat.ne_of_gt (Nat.lt_succ_of_lt hal)⟩, fun b hb => ?_, q⟩
  have hle : s1.heap.objs.size ≤ b := by
    rcases List.mem_cons.mp hb with z | z
    · rw [z]; exact Nat.le_add_right _ _
    · rw [List.mem_singleton.mp z]; exact Nat.le_refl _
  exact J1.fpOk hle (J1.hok.fresh hle)
theorem walk_enumT {K : PySem.W.Frag} {a : Addr} {xs : List V} : Walk (IteT K a) xs.length (fun H => SqT K H a xs) (YPair (fun i => some (.int (i : Nat))) (fun i => xs[i]?)) := by
  constructor
  · intro i H hi q
    exact ⟨xs, xs[i], q, by simp [hi]⟩
  · intro H q
    exact ⟨xs, q, Nat.le_refl _⟩
  · rintro i H v H' _ q ⟨T, x, h1, h2, h3, h4⟩
    exact ⟨T, .int (i : Nat), x, h1, h2, h3, rfl, h4 xs q⟩
theorem bt_sorted : bootBuiltins "sorted" = some (.builtin "sorted") := by decide +kernel
/-- a walk, by what holds behind each turn: for whatever a turn does (B) and whatever comes behind (Z) -/
theorem wit {J : It} {n : Nat} {G : Hp → Prop} {Y : Nat → Hp → V → Hp → Prop} (w : Walk J n G Y) {B : (Hp → Prop) → V → Hp → Prop} {Z : Hp → Prop} {H0 : Hp} (Pv : Nat → Hp → Prop) (h0 : Pv 0 H0)
    (hG : ∀ i H, i ≤ n → Pv i H → G H) (hs : ∀ i x H H', i < n → Pv i H → Y i H x H' → B (Pv (i + 1)) x H') (hd : ∀ H, Pv n H → Z H) :
    ∃ W : Nat → Nat → Hp → Prop, (∃ m, W 0 m H0) ∧ ∀ i m H, W i m H → (J.stop i H ∧ Z H) ∨ (J.go i H ∧ ∃ Nx : Hp → Prop, (∀ H', Nx H' → ∃ m', m' < m ∧ W (i + 1) m' H') ∧ ∀ x H', J.yld i H x H' → B Nx x H') := by
  refine ⟨fun i m H => m = n - i ∧ i ≤ n ∧ Pv i H, ⟨n, rfl, Nat.zero_le _, h0⟩, ?_⟩
  rintro i m H ⟨rfl, hi, p⟩
  by_cases h : i < n
  · right
    exact ⟨w.goes i H h (hG i H hi p), Pv (i + 1), fun H' p' => ⟨n - (i + 1), by omega, rfl, h, p'⟩, fun x H' y => hs i x H H' h p (w.yields i H x H' h (hG i H hi p) y)⟩
  · obtain rfl : i = n := by omega
    exact .inl ⟨w.stops H (hG i H hi p), hd H p⟩
theorem bt_enumerate : bootBuiltins "enumerate" = some (.type "enumerate") := boot_enumerate
end GS
namespace GS
open PySem PySem.Spec PyProof.Rows L2 RZ
/-! ### d.update(d2), keys that are tuples -/
def putEach (kvs more : List (List Key × V)) : List (List Key × V) := more.foldl (fun l p => putK l p.1 p.2) kvs
theorem kt_all {H : Hp} : ∀ {more : List (List Key × V)} {ys : List (List Key × Addr × Value)}, KT H more ys → ∀ {kvs : List (List Key × V)} {xs : List (List Key × Addr × Value)}, KT H kvs xs → KT H (putEach kvs more) (storedAllH xs ys)
  | _, _, .nil, _, _, h => h
  | _, _, .cons (a := p) (b := q) h t, _, _, r => by
    have r2 := KT.put r p.1 (b := q.2.1) (y := p.2) (u := q.2.2) h.2.1 h.2.2
    have e : p.1 = q.1 := h.1
    rw [e] at r2
    show KT H (putEach (putK _ p.1 p.2) _) (storedAllH (storedH _ q.1 q.2.1 q.2.2) _)
    rw [e]
    exact kt_all t r2
theorem kt_keys {H : Hp} {α : Type} (g : List Key → α) : ∀ {more : List (List Key × V)} {ys : List (List Key × Addr × Value)}, KT H more ys → more.map (fun p => g p.1) = ys.map fun p => g p.1
  | _, _, .nil => rfl
  | _, _, .cons (a := p) (b := q) h t => by
    have e : p.1 = q.1 := h.1
    rw [List.map_cons, List.map_cons, kt_keys g t, e]
theorem putEach_len (kvs : List (List Key × V)) : ∀ more, (putEach kvs more).length ≤ kvs.length + more.length := by
  intro more
  induction more generalizing kvs with
  | nil => exact Nat.le_refl _
  | cons p r ih =>
    have h1 := ih (putK kvs p.1 p.2)
    have h2 := length_putK kvs p.1 p.2
    show (putEach (putK kvs p.1 p.2) r).length ≤ _
    rw [List.length_cons]
    omega
def rDUpd : V → List V → Hp → VK → Prop := fun x vs H Q => ∃ (a b : Addr) (kvs more : List (List Key × V)), x = .ref a ∧ vs = [.ref b] ∧ a ≠ b ∧ H a = some (.dT kvs) ∧ Rd H b (.dT more) ∧ kvs.length + more.length ≤ 10000 ∧
  (∀ P w, (more.map fun p => tupleKeyHash (mixKind P w) p.1).Nodup) ∧ Q .non (upd H a (.dT (putEach kvs more)))
theorem mtd_update {X : Cx} (hu : X.A.units + 1 < cLine) : MtR X "dict.update" rDUpd := by
  intro pins s σ H x vs v us Q I rx rv h
  obtain ⟨a, b, kvs, more, rfl, rfl, hab, ea, eb, hl, hh, q⟩ := h
  obtain rfl : v = Value.ref a := rx
  obtain ⟨u, rfl, ru⟩ := rv.one
  cases ru
  obtain ⟨_, hd, xs, rel, dd⟩ := dt_of I.hok ea
  obtain ⟨_, hd', ys, rel', dd'⟩ := dt_rd I.hok eb
  have l1 := Paired.length rel
  have l2 := Paired.length rel'
  have hz := sizeLine_eq
  refine call_update_dictH (tupleKind_room_in1 hu) hab hd' dd dd' (.inr ⟨fun y hy => ?_, ?_⟩) (by omega) fun h' d1 _ hs => ⟨.non, _, ?_, rfl, q⟩
  · obtain ⟨_, _, _, _, _, _, _, his, _⟩ := dd'
    obtain ⟨o, _, _, h1, h2, _⟩ := his y hy
    exact ⟨o, h1, h2⟩
  · have := hh X.prog X.w
    rw [kt_keys (fun k => tupleKeyHash (mixKind X.prog X.w) k) rel'] at this
    exact this
  · obtain ⟨o, es, ep, h1, h2, h3, h4, _, h5⟩ := d1
    have hle := putEach_len kvs more
    refine d_write (t' := s.toks) I (by rw [ea]; trivial) hs ⟨o, h1⟩ ⟨by omega, hd, _, KT.keeps (kt_all rel' rel) (fun c zs ec => ?_), o, es, ep, h1, h2, h3, h4, h5⟩
    rw [upd_ne (ne_of ec ea (by intro z; cases z))]
    exact ec
def rLenD : List V → Hp → VK → Prop := fun xs H Q => ∃ a kvs, xs = [V.ref a] ∧ H a = some (.dK kvs) ∧ Q (.int kvs.length) H
theorem len_dict {X : Cx} : CallR X (.builtin "len") rLenD := call_lenD
def rLstD : List V → Hp → VK → Prop := fun xs H Q => ∃ d kvs, xs = [V.ref d] ∧ Rd H d (.dT kvs) ∧ ∀ p bs, H p = none → IsKeys H kvs bs → Q (.ref p) (upd H p (.lst (bs.map V.ref)))
theorem lst_dict {X : Cx} (hc : X.calm = true) : CallR X (.type "list") rLstD := call_list_dT hc
end GS
namespace GS
open PySem PySem.Spec PyProof.Rows L2 RZ
/-- the least of ns, d where there is none -/
def minDef (d : Int) : List Int → Int
  | [] => d
  | y :: ys => PySem.W.minOf y ys
theorem minOf_le : ∀ (ys : List Int) (y : Int), PySem.W.minOf y ys ≤ y ∧ (∀ z ∈ ys, PySem.W.minOf y ys ≤ z) ∧ (PySem.W.minOf y ys = y ∨ PySem.W.minOf y ys ∈ ys)
  | [], y => ⟨Int.le_refl _, fun z h => absurd h List.not_mem_nil, .inl rfl⟩
  | x :: xs, y => by
    have e : PySem.W.minOf y (x :: xs) = PySem.W.minOf (if x < y then x else y) xs := by
      show xs.foldl _ (if decide (x < y) = true then x else y) = _
      simp only [decide_eq_true_eq]
      rfl
    rw [e]
    obtain ⟨h1, h2, h3⟩ := minOf_le xs (if x < y then x else y)
    refine ⟨?_, fun z hz => ?_, ?_⟩
    · split at h1 <;> split <;> omega
    · rcases List.mem_cons.mp hz with rfl | hz
      · split at h1 <;> split <;> omega
      · exact h2 z hz
    · rcases h3 with h3 | h3
      · by_cases c : x < y
        · rw [if_pos c] at h3 ⊢
          exact .inr (by rw [h3]; exact List.mem_cons_self)
        · rw [if_neg c] at h3 ⊢
          exact .inl h3
      · exact .inr (List.mem_cons_of_mem _ h3)
theorem minDef_le {d : Int} {ns : List Int} : (∀ z ∈ ns, minDef d ns ≤ z) ∧ ((minDef d ns = d ∧ ns = []) ∨ minDef d ns ∈ ns) := by
  cases ns with
  | nil => exact ⟨fun z h => absurd h List.not_mem_nil, .inl ⟨rfl, rfl⟩⟩
  | cons y ys =>
    obtain ⟨h1, h2, h3⟩ := minOf_le ys y
    refine ⟨fun z hz => ?_, .inr ?_⟩
    · rcases List.mem_cons.mp hz with rfl | hz
      · exact h1
      · exact h2 z hz
    · rcases h3 with h3 | h3
      · exact (by rw [show minDef d (y :: ys) = y from h3]; exact List.mem_cons_self)
      · exact List.mem_cons_of_mem _ h3
theorem minDef_fall {d : Int} : ∀ {ns : List Int} {z : Int}, (ns ++ [z]).Pairwise (fun x y => y ≤ x) → minDef d (ns ++ [z]) = z := by
  intro ns z h
  obtain ⟨h1, h2⟩ := minDef_le (d := d) (ns := ns ++ [z])
  have a1 := h1 z (List.mem_append_right _ List.mem_cons_self)
  rcases h2 with ⟨_, h2⟩ | h2
  · exact absurd h2 (by simp)
  · rw [List.pairwise_append] at h
    rcases List.mem_append.mp h2 with h3 | h3
    · have := h.2.2 _ h3 z List.mem_cons_self
      omega
    · simpa using h3
def rMinDef (K : PySem.W.Frag) : List V → List V → Hp → VK → Prop := fun vs zs H Q => ∃ (a : Addr) (ns : List Int) (d : Int), vs = [V.ref a] ∧ zs = [.int d] ∧ (SqL K H a (ns.map V.int) ∨ SqT K H a (ns.map V.int)) ∧ Q (.int (minDef d ns)) H
theorem hold_ints {h : Heap} : ∀ {vs : List Value} {ns : List Int}, IntsAre vs ns → PySem.W.HoldAll h vs ns := by
  intro vs ns hi
  induction hi with
  | nil => exact PySem.W.HoldAll.nil
  | cons n t _ ih => exact PySem.W.HoldAll.cons (PySem.W.holds_int _ _) ih
section
variable {X : Cx}
theorem cr_minDef (hc : X.calm = true) (hu : X.A.units + 64 < cLine) : CallRK X (.builtin "min") [Str.ofString "default"] (rMinDef X.K) := by
  intro pins s σ H vs zs us ws Q I r rz h
  obtain ⟨a, ns, d, rfl, rfl, hs, q⟩ := h
  obtain rfl := Vals.ref1 r
  obtain ⟨w1, rfl, t, rfl⟩ := vals1 rz
  have fin : ∀ (y : Int) (ys : List Int) (v : Value) (h' : Heap) (tk), ns = y :: ys → PySem.W.Holds h' v (PySem.W.minOf y ys) → (∀ b o, s.heap.get? b = some o → h'.get? b = some o) → EP X pins σ Q v { s with heap := h', toks := tk } := by
    intro y ys v h' tk e hv hk
    subst e
    obtain ⟨as, rd⟩ := hv
    have : ∃ t, v = .int (PySem.W.minOf y ys) t := by
      cases rd with
      | int n t => exact ⟨t, rfl⟩
    obtain ⟨t, rfl⟩ := this
    exact ⟨.int _, H, I.kept hk, ⟨_, rfl⟩, q⟩
  rcases hs with hs | hs
  · obtain ⟨its, rv, hl, _⟩ := I.list hs
    exact PySem.W.min_list_datum_default (α := Int) (I.ok.hd hc) hl.isList (hold_ints rv.ints) (by show X.A.units + 1 + 0 < cLine; omega)
      (fun e h' tk hk => by subst e; exact ⟨.int _, H, I.kept hk, ⟨_, rfl⟩, q⟩) (fun y ys i v h' tk e _ hv hk => fin y ys v h' tk e hv hk)
  · obtain ⟨its, rv, hl, _⟩ := I.tuple hs
    exact PySem.W.min_tuple_datum_default (α := Int) (I.ok.hd hc) hl (hold_ints rv.ints) (by show X.A.units + 1 + 0 < cLine; omega)
      (fun e h' tk hk => by subst e; exact ⟨.int _, H, I.kept hk, ⟨_, rfl⟩, q⟩) (fun y ys i v h' tk e _ hv hk => fin y ys v h' tk e hv hk)
end
end GS
namespace GS
open PySem PySem.Spec PyProof.Rows L2 RZ
/-- a call of a def that stands in a list: which one the value tells -/
def tCallV (P : Program) (w : World) (K : PySem.W.Frag) (mg : Str → Option Value) (base : Heap) (k : Nat) (to : TE) (t : TA) : TE := fun σ H Q =>
  to σ H fun v H1 => ∃ g sp, v = .ref g ∧ Held P w K mg base k g sp ∧ t σ H1 fun vs H2 => sp vs H2 Q (fun _ _ _ => False)
section
variable {X : Cx} {k : Nat} {o i : Expr} {p pos : Pos} {e : Expr} {es : List Expr} {t : TA} {to : TE}
theorem pe_callV (hr : Room k X.A) (ho : PE X (.Subscript o i p) to) (ha : PA X (e :: es) t)
    (he : starEach (e :: es) X.env = (false, eval e X.env) :: starEach es X.env := by rfl) (hpl : (backTo pos (starEach es X.env)).any (·.1) = false := by rfl) : PE X (.Call (.Subscript o i p) (e :: es) [] pos) (tCallV X.prog X.w X.K X.mg X.base k to t) := by
  refine ⟨fun pins s σ H Q I h => ?_⟩
  have arm : eval (.Call (.Subscript o i p) (e :: es) [] pos) X.env = (do callWith pos (← eval (.Subscript o i p) X.env) [] (backTo pos (starEach (e :: es) X.env)) (backToKw pos (keywordEach [] X.env))) := rfl
  rw [arm]
  refine wpAny_bind (thn (ho.run pins s σ H _ I h) fun u s1 ⟨v, H1, I1, r1, g, sp, ev, hS, ht⟩ => ?_)
  subst ev
  cases r1
  obtain ⟨fd, ps, F, hk, hb⟩ := hS.ex
  refine PySem.W.callWith_K (h₀ := X.base) I.ok.mod.kin hk (thn (ha.run pos pins s1 σ _ _ I1 ht) fun us s2 ⟨vs, H2, I2, r, q⟩ => ⟨I2.kIn, ?_⟩) he hpl
  exact run_fn (dvs := []) (E := fun _ _ _ => False) F hr hb .nil (fun _ _ _ _ _ _ _ z => z.elim) I2 r (by rw [List.append_nil]; exact q)
end
end GS
namespace K13
open PySem PySem.Spec PyProof.Rows L2 RZ GS
/-! ### the mathematics -/
/-- lengths of rows as they come here -/
structure Rng (xs : List Int) : Prop where
  n : xs.length ≤ 20
  a : ∀ x ∈ xs, 1 ≤ x ∧ x ≤ 20
def mxI (x y : Int) : Int := if y > x then y else x
def mnI (x y : Int) : Int := if y < x then y else x
def jn (xs ys : List Int) : List Int := List.zipWith mxI xs ys ++ xs.drop (List.zipWith mxI xs ys).length ++ ys.drop (List.zipWith mxI xs ys).length
def mt (xs ys : List Int) : List Int := List.zipWith mnI xs ys
/-- (r, c) is a cell -/
def Cell (xs : List Int) (r c : Nat) : Prop := ∃ x, xs[r]? = some x ∧ (c : Int) < x
theorem cell_nil {r c : Nat} : ¬ Cell [] r c := fun ⟨_, h, _⟩ => by simp at h
theorem cell_zero {x : Int} {xs : List Int} {c : Nat} : Cell (x :: xs) 0 c ↔ (c : Int) < x := ⟨fun ⟨y, h, k⟩ => by cases h; exact k, fun h => ⟨x, rfl, h⟩⟩
theorem cell_succ {x : Int} {xs : List Int} {r c : Nat} : Cell (x :: xs) (r + 1) c ↔ Cell xs r c := Iff.rfl
theorem jn_nil (ys : List Int) : jn [] ys = ys := by simp [jn]
theorem jn_nil' (xs : List Int) : jn xs [] = xs := by simp [jn]
theorem jn_cons (x y : Int) (xs ys : List Int) : jn (x :: xs) (y :: ys) = mxI x y :: jn xs ys := by simp [jn]
theorem cell_mt : ∀ (xs ys : List Int) (r c : Nat), Cell (mt xs ys) r c ↔ Cell xs r c ∧ Cell ys r c
  | [], ys, r, c => by simp [mt, cell_nil]
  | x :: xs, [], r, c => by simp [mt, cell_nil]
  | x :: xs, y :: ys, 0, c => by
    show Cell (mnI x y :: mt xs ys) 0 c ↔ _
    rw [cell_zero, cell_zero, cell_zero]
    unfold mnI
    split <;> omega
  | x :: xs, y :: ys, r + 1, c => by
    show Cell (mnI x y :: mt xs ys) (r + 1) c ↔ _
    rw [cell_succ, cell_succ, cell_succ]
    exact cell_mt xs ys r c
theorem cell_jn : ∀ (xs ys : List Int) (r c : Nat), Cell (jn xs ys) r c ↔ Cell xs r c ∨ Cell ys r c
  | [], ys, r, c => by simp [jn_nil, cell_nil]
  | x :: xs, [], r, c => by simp [jn_nil', cell_nil]
  | x :: xs, y :: ys, 0, c => by
    rw [jn_cons, cell_zero, cell_zero, cell_zero]
    unfold mxI
    split <;> omega
  | x :: xs, y :: ys, r + 1, c => by
    rw [jn_cons, cell_succ, cell_succ, cell_succ]
    exact cell_jn xs ys r c
theorem jn_mem : ∀ (xs ys : List Int), ∀ z ∈ jn xs ys, z ∈ xs ∨ z ∈ ys
  | [], ys, z, h => .inr (by rw [jn_nil] at h; exact h)
  | x :: xs, [], z, h => .inl (by rw [jn_nil'] at h; exact h)
  | x :: xs, y :: ys, z, h => by
    rw [jn_cons] at h
    rcases List.mem_cons.mp h with rfl | h
    · unfold mxI
      split <;> simp
    · rcases jn_mem xs ys z h with h | h
      · exact .inl (List.mem_cons_of_mem _ h)
      · exact .inr (List.mem_cons_of_mem _ h)
theorem mt_mem : ∀ (xs ys : List Int), ∀ z ∈ mt xs ys, z ∈ xs ∨ z ∈ ys
  | [], ys, z, h => by simp [mt] at h
  | x :: xs, [], z, h => by simp [mt] at h
  | x :: xs, y :: ys, z, h => by
    rcases List.mem_cons.mp (show z ∈ mnI x y :: mt xs ys from h) with rfl | h
    · unfold mnI
      split <;> simp
    · rcases mt_mem xs ys z h with h | h
      · exact .inl (List.mem_cons_of_mem _ h)
      · exact .inr (List.mem_cons_of_mem _ h)
theorem jn_len : ∀ (xs ys : List Int), (jn xs ys).length ≤ max xs.length ys.length
  | [], ys => by rw [jn_nil]; simp
  | x :: xs, [] => by rw [jn_nil']; simp
  | x :: xs, y :: ys => by
    have := jn_len xs ys
    rw [jn_cons, List.length_cons, List.length_cons, List.length_cons]
    omega
theorem jn_rng {xs ys : List Int} (hx : Rng xs) (hy : Rng ys) : Rng (jn xs ys) := by
  refine ⟨?_, fun z h => ?_⟩
  · have := jn_len xs ys
    have := hx.n
    have := hy.n
    omega
  · rcases jn_mem xs ys z h with h | h
    · exact hx.a z h
    · exact hy.a z h
theorem mt_rng {xs ys : List Int} (hx : Rng xs) (hy : Rng ys) : Rng (mt xs ys) := by
  refine ⟨?_, fun z h => ?_⟩
  · unfold mt
    rw [List.length_zipWith]
    have := hx.n
    omega
  · rcases mt_mem xs ys z h with h | h
    · exact hx.a z h
    · exact hy.a z h
def kOf (r c : Nat) : List Key := [.inl (r : Int), .inl (c : Int)]
theorem kOf_inj {r c r' c' : Nat} (h : kOf r c = kOf r' c') : r = r' ∧ c = c' := by
  unfold kOf at h
  simp only [List.cons.injEq, Sum.inl.injEq, and_true] at h
  omega
section
variable {κ : Type} [DecidableEq κ]
theorem mem_keys (l : List (κ × V)) (i : κ) : i ∈ l.map (·.1) ↔ (valV l i).isSome = true := by
  constructor
  · intro m
    cases e : valV l i with
    | none => exact absurd m (valV_not e)
    | some u => rfl
  · intro m
    cases e : valV l i with
    | none => rw [e] at m; cases m
    | some u => exact valV_in e
theorem mem_putK {kvs : List (κ × V)} {k j : κ} {v : V} : j ∈ (putK kvs k v).map (·.1) ↔ j = k ∨ j ∈ kvs.map (·.1) := by
  rw [mem_keys, mem_keys, valV_put]
  by_cases e : j = k
  · rw [if_pos e]
    simp [e]
  · rw [if_neg e]
    simp [e]
theorem len_putK (kvs : List (κ × V)) (k : κ) (v : V) : (putK kvs k v).length ≤ kvs.length + 1 := by
  unfold putK
  split
  · rw [List.length_map]
    omega
  · rw [List.length_append]
    exact Nat.le_refl _
theorem nd_putK {kvs : List (κ × V)} {k : κ} {v : V} (h : (kvs.map (·.1)).Nodup) : ((putK kvs k v).map (·.1)).Nodup := by
  unfold putK
  split
  · have e : (kvs.map fun kv => if kv.1 = k then (kv.1, v) else kv).map (·.1) = kvs.map (·.1) := by
      rw [List.map_map]
      refine List.map_congr_left fun p _ => ?_
      simp only [Function.comp]
      split <;> rfl
    rw [e]
    exact h
  · rename_i n
    rw [List.map_append, List.nodup_append]
    refine ⟨h, by simp, fun a ha b hb e => n ?_⟩
    obtain rfl : b = k := by simpa using hb
    obtain ⟨p, hp, rfl⟩ := List.mem_map.mp ha
    exact List.any_eq_true.mpr ⟨p, hp, decide_eq_true e⟩
end
theorem nd_putEach : ∀ (more : List (List Key × V)) {kvs : List (List Key × V)}, (kvs.map (·.1)).Nodup → ((putEach kvs more).map (·.1)).Nodup
  | [], _, h => h
  | p :: more, kvs, h => nd_putEach more (kvs := putK kvs p.1 p.2) (nd_putK h)
theorem mem_putEach : ∀ (more : List (List Key × V)) {kvs : List (List Key × V)} {k : List Key}, k ∈ (putEach kvs more).map (·.1) ↔ k ∈ kvs.map (·.1) ∨ k ∈ more.map (·.1)
  | [], kvs, k => by simp [putEach]
  | p :: more, kvs, k => by
    show k ∈ (putEach (putK kvs p.1 p.2) more).map (·.1) ↔ _
    rw [mem_putEach more, mem_putK, List.map_cons, List.mem_cons]
    constructor
    · rintro ((h | h) | h)
      · exact .inr (.inl h)
      · exact .inl h
      · exact .inr (.inr h)
    · rintro (h | h | h)
      · exact .inl (.inr h)
      · exact .inl (.inl h)
      · exact .inr h
/-- just the cells of zs, each once -/
structure Lay (ks : List (List Key)) (zs : List Int) : Prop where
  nd : ks.Nodup
  mem : ∀ k, k ∈ ks ↔ ∃ r c, k = kOf r c ∧ Cell zs r c
def kk (p : Int × Int) : List Key := [.inl p.1, .inl p.2]
def cnt (cs : List (Int × Int)) (r : Int) : Nat := (cs.filter fun p => decide (p.1 = r)).length
theorem nd_map {α β : Type} {g : α → β} : ∀ {l : List α}, (∀ a ∈ l, ∀ b ∈ l, g a = g b → a = b) → l.Nodup → (l.map g).Nodup
  | [], _, _ => List.nodup_nil
  | x :: l, h, n => by
    rw [List.nodup_cons] at n
    rw [List.map_cons, List.nodup_cons]
    refine ⟨fun m => ?_, nd_map (fun a ha b hb => h a (List.mem_cons_of_mem _ ha) b (List.mem_cons_of_mem _ hb)) n.2⟩
    obtain ⟨y, hy, e⟩ := List.mem_map.mp m
    have := h y (List.mem_cons_of_mem _ hy) x List.mem_cons_self e
    exact n.1 (this ▸ hy)
theorem cnt_snoc (cs : List (Int × Int)) (p : Int × Int) (r : Int) : cnt (cs ++ [p]) r = cnt cs r + if p.1 = r then 1 else 0 := by
  unfold cnt
  rw [List.filter_append, List.length_append, List.filter_cons]
  by_cases e : p.1 = r
  · rw [if_pos (decide_eq_true e), if_pos e]
    rfl
  · rw [if_neg (by rw [decide_eq_true_eq]; exact e), if_neg e]
    rfl
theorem cnt_of {cs : List (Int × Int)} {zs : List Int} (h : Lay (cs.map kk) zs) {r : Nat} {z : Int} (hz : zs[r]? = some z) : cnt cs (r : Int) = z.toNat := by
  have p : ((cs.filter fun p => decide (p.1 = (r : Int))).map kk).Perm ((List.range z.toNat).map fun c => kOf r c) := by
    rw [List.perm_ext_iff_of_nodup]
    · intro k
      rw [List.mem_map, List.mem_map]
      constructor
      · rintro ⟨p, hp, rfl⟩
        obtain ⟨h1, h2⟩ := List.mem_filter.mp hp
        have h3 := of_decide_eq_true h2
        obtain ⟨r', c, e, x, hx, hc⟩ := (h.mem _).mp (List.mem_map.mpr ⟨p, h1, rfl⟩)
        unfold kk kOf at e
        simp only [List.cons.injEq, Sum.inl.injEq, and_true] at e
        obtain rfl : r' = r := by omega
        rw [hz] at hx
        cases hx
        refine ⟨c, List.mem_range.mpr (by omega), ?_⟩
        unfold kk kOf
        rw [e.1, e.2]
      · rintro ⟨c, hc, rfl⟩
        have hc := List.mem_range.mp hc
        obtain ⟨p, hp, e⟩ := List.mem_map.mp ((h.mem (kOf r c)).mpr ⟨r, c, rfl, z, hz, by omega⟩)
        refine ⟨p, List.mem_filter.mpr ⟨hp, decide_eq_true ?_⟩, e⟩
        unfold kk kOf at e
        simp only [List.cons.injEq, Sum.inl.injEq, and_true] at e
        exact e.1
    · exact (List.Sublist.map kk List.filter_sublist).nodup h.nd
    · refine nd_map ?_ List.nodup_range
      intro a _ b _ e
      exact (kOf_inj e).2
  have := p.length_eq
  rw [List.length_map, List.length_map, List.length_range] at this
  exact this
theorem cnt_pos {cs : List (Int × Int)} {zs : List Int} (h : Lay (cs.map kk) zs) (hz : ∀ z ∈ zs, 1 ≤ z) {r : Int} : cnt cs r ≠ 0 ↔ ∃ i : Nat, r = i ∧ i < zs.length := by
  constructor
  · intro e
    cases e1 : cs.filter fun p => decide (p.1 = r) with
    | nil =>
      unfold cnt at e
      rw [e1] at e
      exact absurd rfl e
    | cons p ps =>
      have hp : p ∈ cs.filter fun p => decide (p.1 = r) := by rw [e1]; exact List.mem_cons_self
      obtain ⟨h1, h2⟩ := List.mem_filter.mp hp
      have h3 := of_decide_eq_true h2
      obtain ⟨r', c, e, x, hx, hc⟩ := (h.mem _).mp (List.mem_map.mpr ⟨p, h1, rfl⟩)
      unfold kk kOf at e
      simp only [List.cons.injEq, Sum.inl.injEq, and_true] at e
      exact ⟨r', by omega, (List.getElem?_eq_some_iff.mp hx).1⟩
  · rintro ⟨i, rfl, hi⟩
    rw [cnt_of h (List.getElem?_eq_getElem hi)]
    have := hz _ (List.getElem_mem hi)
    omega
/-! ### no two keys hash alike -/
def h2 (r c : Nat) : Int := reduceHash (Builtin.Tuple.tupleHashOf [hashInt (r : Int), hashInt (c : Int)])
theorem h2_apart : ((List.range 400).map fun n => h2 (n / 20) (n % 20)).Nodup := by decide +kernel
theorem h2_inj {r c r' c' : Nat} (h1 : r < 20) (h2' : c < 20) (h3 : r' < 20) (h4 : c' < 20) (e : h2 r c = h2 r' c') : r = r' ∧ c = c' := by
  have n1 : 20 * r + c < 400 := by omega
  have n2 : 20 * r' + c' < 400 := by omega
  have d1 : (20 * r + c) / 20 = r := by omega
  have d2 : (20 * r + c) % 20 = c := by omega
  have d3 : (20 * r' + c') / 20 = r' := by omega
  have d4 : (20 * r' + c') % 20 = c' := by omega
  have hp := List.pairwise_iff_getElem.mp h2_apart
  rcases Nat.lt_trichotomy (20 * r + c) (20 * r' + c') with z | z | z
  · refine absurd ?_ (hp (20 * r + c) (20 * r' + c') (by simpa using n1) (by simpa using n2) z)
    rw [List.getElem_map, List.getElem_map, List.getElem_range, List.getElem_range, d1, d2, d3, d4]
    exact e
  · omega
  · refine absurd ?_ (hp (20 * r' + c') (20 * r + c) (by simpa using n2) (by simpa using n1) z)
    rw [List.getElem_map, List.getElem_map, List.getElem_range, List.getElem_range, d1, d2, d3, d4]
    exact e.symm
theorem lay_hash {ks : List (List Key)} {zs : List Int} (h : Lay ks zs) (hz : Rng zs) (P : Program) (w : World) : (ks.map fun k => tupleKeyHash (mixKind P w) k).Nodup := by
  refine nd_map ?_ h.nd
  intro a ha b hb e
  obtain ⟨r, c, rfl, x, hx, hc⟩ := (h.mem a).mp ha
  obtain ⟨r', c', rfl, x', hx', hc'⟩ := (h.mem b).mp hb
  have b1 := (List.getElem?_eq_some_iff.mp hx).1
  have b2 := (List.getElem?_eq_some_iff.mp hx').1
  have b3 := hz.a x (List.mem_of_getElem? hx)
  have b4 := hz.a x' (List.mem_of_getElem? hx')
  have hn := hz.n
  obtain ⟨rfl, rfl⟩ := h2_inj (r := r) (c := c) (r' := r') (c' := c') (by omega) (by omega) (by omega) (by omega) e
  rfl
end K13
namespace K40
open PySem PySem.Spec PyProof.Rows L2 RZ GS
open K13 (mnI mxI jn mt jn_nil jn_nil' jn_cons Rng)
def topS (i : Nat) : Stmt := PySem.Challenge.pw_gridshares_k40_stacks_joined_and_met.main.body.getD i (.Pass ⟨0, 0, 0, 0⟩)
abbrev stjoined_shares : Stmt := topS 1
abbrev Njoined_shares : List Str := ["one", "other", "both", "length", "limit"]
theorem scjoined_shares : FnScope Njoined_shares ["one", "other"] (defScope stjoined_shares) := ⟨rfl, rfl, rfl, by decide +kernel, rfl, by decide +kernel, by decide +kernel⟩
abbrev stmet_shares : Stmt := topS 2
abbrev Nmet_shares : List Str := ["one", "other", "length", "limit"]
theorem scmet_shares : FnScope Nmet_shares ["one", "other"] (defScope stmet_shares) := ⟨rfl, rfl, rfl, by decide +kernel, rfl, by decide +kernel, by decide +kernel⟩
abbrev stjoined_stacks : Stmt := topS 4
abbrev Njoined_stacks : List Str := ["some", "others", "one", "other"]
theorem scjoined_stacks : FnScope Njoined_stacks ["some", "others"] (defScope stjoined_stacks) := ⟨rfl, rfl, rfl, by decide +kernel, rfl, by decide +kernel, by decide +kernel⟩
abbrev stmet_stacks : Stmt := topS 5
abbrev Nmet_stacks : List Str := ["some", "others", "one", "other"]
theorem scmet_stacks : FnScope Nmet_stacks ["some", "others"] (defScope stmet_stacks) := ⟨rfl, rfl, rfl, by decide +kernel, rfl, by decide +kernel, by decide +kernel⟩
abbrev st_law_pen : Stmt := topS 7
abbrev N_law_pen : List Str := ["_law_script"]
theorem sc_law_pen : FnScope N_law_pen ["_law_script"] (defScope st_law_pen) := ⟨rfl, rfl, rfl, by decide +kernel, rfl, by decide +kernel, by decide +kernel⟩
abbrev st_law_draw : Stmt := topS 8
abbrev N_law_draw : List Str := ["_law_pen_here", "_law_many", "_law_found", "_law_at", "_law_cell", "_law_number"]
theorem sc_law_draw : FnScope N_law_draw ["_law_pen_here", "_law_many"] (defScope st_law_draw) := ⟨rfl, rfl, rfl, by decide +kernel, rfl, by decide +kernel, by decide +kernel⟩
abbrev st_law_row : Stmt := topS 9
abbrev N_law_row : List Str := ["_law_share", "_law_k"]
theorem sc_law_row : FnScope N_law_row ["_law_share", "_law_k"] (defScope st_law_row) := ⟨rfl, rfl, rfl, by decide +kernel, rfl, by decide +kernel, by decide +kernel⟩
abbrev st_law_between : Stmt := topS 10
abbrev N_law_between : List Str := ["_law_pen_here", "_law_one", "_law_other", "_law_way", "_law_found", "_law_k", "_law_least", "_law_most", "_law_length"]
theorem sc_law_between : FnScope N_law_between ["_law_pen_here", "_law_one", "_law_other"] (defScope st_law_between) := ⟨rfl, rfl, rfl, by decide +kernel, rfl, by decide +kernel, by decide +kernel⟩
abbrev st_law_full : Stmt := topS 11
abbrev N_law_full : List Str := ["_law_high", "_law_wide"]
theorem sc_law_full : FnScope N_law_full ["_law_high", "_law_wide"] (defScope st_law_full) := ⟨rfl, rfl, rfl, by decide +kernel, rfl, by decide +kernel, by decide +kernel⟩
abbrev st_law_lies : Stmt := topS 12
abbrev N_law_lies : List Str := ["_law_one", "_law_other", "_law_row_here", "_law_under"]
theorem sc_law_lies : FnScope N_law_lies ["_law_one", "_law_other"] (defScope st_law_lies) := ⟨rfl, rfl, rfl, by decide +kernel, rfl, by decide +kernel, by decide +kernel⟩
abbrev st_law_stack : Stmt := topS 13
abbrev N_law_stack : List Str := ["_law_pen_here", "_law_one", "_law_other", "_law_many", "_law_found", "_law_ahead", "_law_k"]
theorem sc_law_stack : FnScope N_law_stack ["_law_pen_here", "_law_one", "_law_other", "_law_many"] (defScope st_law_stack) := ⟨rfl, rfl, rfl, by decide +kernel, rfl, by decide +kernel, by decide +kernel⟩
abbrev st_law_two : Stmt := topS 14
abbrev N_law_two : List Str := ["_law_pen_here", "_law_most", "_law_full_here", "_law_many", "_law_first", "_law_other", "_law_second", "_law_share"]
theorem sc_law_two : FnScope N_law_two ["_law_pen_here"] (defScope st_law_two) := ⟨rfl, rfl, rfl, by decide +kernel, rfl, by decide +kernel, by decide +kernel⟩
abbrev st_law_rows : Stmt := topS 15
abbrev N_law_rows : List Str := ["_law_one", "_law_other", "_law_way", "_law_found", "_law_k", "_law_both", "_law_length"]
theorem sc_law_rows : FnScope N_law_rows ["_law_one", "_law_other", "_law_way"] (defScope st_law_rows) := ⟨rfl, rfl, rfl, by decide +kernel, rfl, by decide +kernel, by decide +kernel⟩
abbrev st_law_right : Stmt := topS 16
abbrev N_law_right : List Str := ["_law_some", "_law_others", "_law_handed", "_law_turn", "_law_way", "_law_due", "_law_found", "_law_one", "_law_other"]
theorem sc_law_right : FnScope N_law_right ["_law_some", "_law_others"] (defScope st_law_right) := ⟨rfl, rfl, rfl, by decide +kernel, rfl, by decide +kernel, by decide +kernel⟩
abbrev stlaw : Stmt := topS 17
abbrev Nlaw : List Str := ["_law_script", "_law_pen_here", "_law_turn", "_law_first", "_law_second"]
theorem sclaw : FnScope Nlaw ["_law_script"] (defScope stlaw) := ⟨rfl, rfl, rfl, by decide +kernel, rfl, by decide +kernel, by decide +kernel⟩
structure Txt (K : PySem.W.Frag) (mg : Str → Option Value) (f : Nat → Addr) (fd : Nat → FuncData) : Prop where
  F1 : Fun K "joined_shares" "joined_shares" stjoined_shares (f 1) (fd 1)
  g1 : mg "joined_shares" = some (.ref (f 1))
  b1 : Binds K (fd 1) ["one", "other"] []
  F2 : Fun K "met_shares" "met_shares" stmet_shares (f 2) (fd 2)
  g2 : mg "met_shares" = some (.ref (f 2))
  b2 : Binds K (fd 2) ["one", "other"] []
  F4 : Fun K "joined_stacks" "joined_stacks" stjoined_stacks (f 4) (fd 4)
  g4 : mg "joined_stacks" = some (.ref (f 4))
  b4 : Binds K (fd 4) ["some", "others"] []
  F5 : Fun K "met_stacks" "met_stacks" stmet_stacks (f 5) (fd 5)
  g5 : mg "met_stacks" = some (.ref (f 5))
  b5 : Binds K (fd 5) ["some", "others"] []
  F7 : Fun K "_law_pen" "_law_pen" st_law_pen (f 7) (fd 7)
  g7 : mg "_law_pen" = some (.ref (f 7))
  b7 : Binds K (fd 7) ["_law_script"] []
  F8 : Fun K "_law_draw" "_law_draw" st_law_draw (f 8) (fd 8)
  g8 : mg "_law_draw" = some (.ref (f 8))
  b8 : Binds K (fd 8) ["_law_pen_here", "_law_many"] []
  F9 : Fun K "_law_row" "_law_row" st_law_row (f 9) (fd 9)
  g9 : mg "_law_row" = some (.ref (f 9))
  b9 : Binds K (fd 9) ["_law_share", "_law_k"] []
  F10 : Fun K "_law_between" "_law_between" st_law_between (f 10) (fd 10)
  g10 : mg "_law_between" = some (.ref (f 10))
  b10 : Binds K (fd 10) ["_law_pen_here", "_law_one", "_law_other"] []
  F11 : Fun K "_law_full" "_law_full" st_law_full (f 11) (fd 11)
  g11 : mg "_law_full" = some (.ref (f 11))
  b11 : Binds K (fd 11) ["_law_high", "_law_wide"] []
  F12 : Fun K "_law_lies" "_law_lies" st_law_lies (f 12) (fd 12)
  g12 : mg "_law_lies" = some (.ref (f 12))
  b12 : Binds K (fd 12) ["_law_one", "_law_other"] []
  F13 : Fun K "_law_stack" "_law_stack" st_law_stack (f 13) (fd 13)
  g13 : mg "_law_stack" = some (.ref (f 13))
  b13 : Binds K (fd 13) ["_law_pen_here", "_law_one", "_law_other", "_law_many"] []
  F14 : Fun K "_law_two" "_law_two" st_law_two (f 14) (fd 14)
  g14 : mg "_law_two" = some (.ref (f 14))
  b14 : Binds K (fd 14) ["_law_pen_here"] []
  F15 : Fun K "_law_rows" "_law_rows" st_law_rows (f 15) (fd 15)
  g15 : mg "_law_rows" = some (.ref (f 15))
  b15 : Binds K (fd 15) ["_law_one", "_law_other", "_law_way"] []
  F16 : Fun K "_law_right" "_law_right" st_law_right (f 16) (fd 16)
  g16 : mg "_law_right" = some (.ref (f 16))
  b16 : Binds K (fd 16) ["_law_some", "_law_others"] []
  m_abs : mg "abs" = none
  m_int : mg "int" = none
  m_isinstance : mg "isinstance" = none
  m_len : mg "len" = none
  m_list : mg "list" = none
  m_max : mg "max" = none
  m_min : mg "min" = none
  m_range : mg "range" = none
  m_repr : mg "repr" = none
  m_sorted : mg "sorted" = none
  m_tuple : mg "tuple" = none
  m_zip : mg "zip" = none
section
variable {P : Program} {w : World} {K : PySem.W.Frag} {mg : Str → Option Value} {base : Heap} {f : Nat → Addr} {fd : Nat → FuncData}
/-! ### the pen: the script itself, how many were asked, what is left of a great one -/
def Fix (K : PySem.W.Frag) (sc : Addr) : Prop := ∃ ns : List Int, ∀ H, SqL K H sc (ns.map V.int)
def Scr (K : PySem.W.Frag) (H : Hp) (sc : Addr) : Prop := ∃ ns : List Int, SqL K H sc (ns.map V.int)
def Ap (K : PySem.W.Frag) (sc x : Addr) : Prop := x ≠ sc ∨ Fix K sc
theorem scr_kp {K : PySem.W.Frag} {H H' : Hp} {sc x : Addr} (h : Scr K H sc) (n : Ap K sc x) (k : Kp x H H') : Scr K H' sc := by
  rcases n with n | ⟨ns, h⟩
  · obtain ⟨ns, h⟩ := h
    refine ⟨ns, ?_⟩
    rcases h with (h | ⟨o, h⟩) | h
    · exact .inl (.inl (k _ _ n.symm h))
    · exact .inl (.inr ⟨o, k _ _ n.symm h⟩)
    · exact .inr h
  · exact ⟨ns, h H'⟩
theorem ap_new {K : PySem.W.Frag} {H : Hp} {sc x : Addr} (h : Scr K H sc) (n : H x = none) : Ap K sc x := by
  obtain ⟨ns, h⟩ := h
  rcases h with (h | ⟨o, h⟩) | h
  · exact .inl (ne_of_none h n).symm
  · exact .inl (ne_of_none h n).symm
  · exact .inr ⟨ns, fun _ => .inr h⟩
structure Pen (K : PySem.W.Frag) (H : Hp) (p sc : Addr) : Prop where
  scr : Scr K H sc
  ap : Ap K sc p
  pen : ∃ a b : Int, H p = some (.lst [.ref sc, .int a, .int b])
theorem Pen.same {K : PySem.W.Frag} {H H' : Hp} {p sc : Addr} (h : Pen K H p sc) (s : Same H H') : Pen K H' p sc :=
  ⟨let ⟨ns, e⟩ := h.scr; ⟨ns, s.seq e⟩, h.ap, let ⟨a, b, e⟩ := h.pen; ⟨a, b, s _ _ e⟩⟩
theorem Pen.new {K : PySem.W.Frag} {H : Hp} {p sc x : Addr} (h : Pen K H p sc) (n : H x = none) : x ≠ p ∧ Ap K sc x :=
  ⟨let ⟨a, b, e⟩ := h.pen; (ne_of_none e n).symm, ap_new h.scr n⟩
theorem Pen.upd {K : PySem.W.Frag} {H : Hp} {p sc x : Addr} {o : HO} (h : Pen K H p sc) (n : x ≠ p ∧ Ap K sc x) : Pen K (upd H x o) p sc :=
  ⟨scr_kp h.scr n.2 kp_upd, h.ap, let ⟨a, b, e⟩ := h.pen; ⟨a, b, by rw [upd_ne n.1.symm]; exact e⟩⟩
theorem Pen.apT {K : PySem.W.Frag} {H : Hp} {p sc x : Addr} {xs : List V} (h : Pen K H p sc) (e : H x = some (.tup xs)) : x ≠ p := by
  obtain ⟨a, b, e2⟩ := h.pen
  exact ne_of e e2 (by intro z; cases z)
def sp_law_pen (K : PySem.W.Frag) : Sp := fun vs H Q _ => ∃ sc : Addr, vs = [.ref sc] ∧ Scr K H sc ∧ ∀ H' p, Same H H' → Pen K H' p sc → Q (.ref p) H'
theorem ok_law_pen (T : Txt K mg f fd) : FnOk P w K mg base CX0 1 (f 7) (fd 7) ["_law_script"] (sp_law_pen K) := by
  refine T.F7.ok sc_law_pen (fun vs H Q E h => ?_) (fun cdv A outer s H vs Q E hr h => ?_)
  · obtain ⟨a, rfl, _⟩ := h
    rfl
  · obtain ⟨a, rfl, hA, q⟩ := h
    refine ⟨_, (pss_one (ps_ret (pe_lst (pa_cons (pv 0) (pa_cons pe_int (pa_cons pe_int pa_nil)))))), ?_⟩
    refine ⟨.ref a, rfl, small_line (by show 3 ≤ 100000; omega), fun p np => ?_⟩
    exact q _ p (same_new np) ⟨scr_kp hA (ap_new hA np) kp_upd, ap_new hA np, 0, 0, upd_same⟩
/-! ### _law_draw -/
def sp_law_draw (K : PySem.W.Frag) : Sp := fun vs H Q _ => ∃ (p sc : Addr) (m : Int), vs = [.ref p, .int m] ∧ Pen K H p sc ∧ 1 ≤ m ∧ m ≤ 1000000 ∧
  ∀ H' d, Kp p H H' → Pen K H' p sc → 0 ≤ d → d < m → Q (.int d) H'
theorem ok_law_draw (T : Txt K mg f fd) : FnOk P w K mg base CX0 1 (f 8) (fd 8) ["_law_pen_here", "_law_many"] (sp_law_draw K) := by
  refine T.F8.ok sc_law_draw (fun vs H Q E h => ?_) (fun cdv A outer s H vs Q E hr h => ?_)
  · obtain ⟨p, sc, m, rfl, _⟩ := h
    rfl
  · obtain ⟨p, sc, m, rfl, hP, hm, hm2, q⟩ := h
    have hcd : ∀ i : Int, CDiv i m := fun i => ⟨by omega, by omega⟩
    have fin : ∀ {H' : Hp} (i : Int), Kp p H H' → Pen K H' p sc → Q (.int (i % m)) H' := fun i k1 k2 => q _ _ k1 k2 (Int.emod_nonneg _ (by omega)) (Int.emod_lt_of_pos _ (by omega))
    obtain ⟨hscr, hap, a, b, hp⟩ := hP
    have put : ∀ {H' : Hp} {a' b' : Int}, Scr K H' sc → Pen K (upd H' p (.lst [.ref sc, .int a', .int b'])) p sc := fun h => ⟨scr_kp h hap kp_upd, hap, _, _, upd_same⟩
    have hS : SqL K H p [.ref sc, .int a, .int b] := SqL.of hp
    refine ⟨_, (pss_cons (ps_if (pt_cmpR op_gt (pe_ix (r := rIxL K) ix_list (pv 0) pe_int (fun _ _ => rfl)) pe_int (nomark _)) (pss_cons (ps_set (i := 2) sc_law_draw.nd rfl (Or.inl rfl) (pe_op op_mod (pe_ix (r := rIxL K) ix_list (pv 0) pe_int (fun _ _ => rfl)) (pv 1)))
      (pss_cons (ps_asg (pe_op op_fdiv (pe_ix (r := rIxL K) ix_list (pv 0) pe_int (fun _ _ => rfl)) (pv 1)) (pg_sub (pv 0) pe_int set_list))
      (pss_one (ps_ret (pv 2))))) pss_nil)
      (pss_cons (ps_set (i := 3) sc_law_draw.nd rfl (Or.inl rfl) (pe_ix (r := rIxL K) ix_list (pv 0) pe_int (fun _ _ => rfl)))
      (Evl.pss_cut (ps_asg (pe_op op_add (pv 3) pe_int) (pg_sub (pv 0) pe_int set_list))
      (pss_cons (ps_set (i := 4) sc_law_draw.nd rfl (Or.inl rfl) pe_int)
      (Evl.pss_cut (ps_if (pt_cmpR op_gt (pe_callB (r := rLenS K) len_seq (by rfl) T.m_len bt_len (pa_cons (pe_ix (r := rIxL K) ix_list (pv 0) pe_int (fun _ _ => rfl)) pa_nil)) pe_int (nomark _)) (pss_one (ps_set (i := 4) sc_law_draw.nd rfl (Or.inl rfl) (pe_ix (r := rIxL K) ix_list (pe_ix (r := rIxL K) ix_list (pv 0) pe_int (fun _ _ => rfl)) (pe_op op_mod (pv 3) (pe_callB (r := rLenS K) len_seq (by rfl) T.m_len bt_len (pa_cons (pe_ix (r := rIxL K) ix_list (pv 0) pe_int (fun _ _ => rfl)) pa_nil))) (fun _ _ => rfl)))) pss_nil)
      (Evl.pss_cut (ps_if (PW.pt (pw_and (pt_cmpR op_lt (pv 3) (pe_callB (r := rLenS K) len_seq (by rfl) T.m_len bt_len (pa_cons (pe_ix (r := rIxL K) ix_list (pv 0) pe_int (fun _ _ => rfl)) pa_nil)) (nomark _)) (pw_and1 (pt_cmpR op_ge (pe_callB call_abs (by rfl) T.m_abs bt_abs (pa_cons (pv 4) pa_nil)) (pe_op op_pow pe_int pe_int) (nomark _))))) (pss_cons (ps_asg (pe_op op_fdiv (pe_callB call_abs (by rfl) T.m_abs bt_abs (pa_cons (pv 4) pa_nil)) (pv 1)) (pg_sub (pv 0) pe_int set_list))
      (pss_one (ps_ret (pe_op op_mod (pe_callB call_abs (by rfl) T.m_abs bt_abs (pa_cons (pv 4) pa_nil)) (pv 1))))) pss_nil)
      (Evl.pss_cut (ps_set (i := 5) sc_law_draw.nd rfl (Or.inl rfl) (pe_op op_mod (pe_op op_mul (pe_op op_add (pe_op op_add (pe_op op_mod (pv 4) pe_int) (pe_op op_mul pe_int (pv 3))) pe_int) pe_int) pe_int))
      (Evl.pss_cut (ps_set (i := 5) sc_law_draw.nd rfl (Or.inl rfl) (pe_op op_mod (pe_op op_add (pe_op op_add (pe_op op_mul (pv 5) (pv 5)) (pe_op op_mul pe_int (pv 5))) (pv 3)) pe_int))
      (pss_one (ps_ret (pe_op op_mod (pe_op op_fdiv (pv 5) pe_int) (pv 1)))))))))))), ?_⟩
    refine ⟨.ref p, rfl, p, _, 2, _, rfl, rfl, hS, rfl, _, _, rfl, rfl, _, rfl, ite2 (fun e => ?_) (fun e => ?_)⟩
    · refine ⟨.ref p, rfl, p, _, 2, _, rfl, rfl, hS, rfl, _, rfl, b, m, rfl, rfl, (by show (0 : Int) < m; omega), ?_⟩
      refine ⟨.ref p, rfl, p, _, 2, _, rfl, rfl, hS, rfl, _, rfl, b, m, rfl, rfl, hcd _, ?_⟩
      exact ⟨.ref p, rfl, p, _, 2, 2, rfl, rfl, hp, rfl, _, rfl, fin b kp_upd (put hscr)⟩
    · refine ⟨.ref p, rfl, p, _, 1, _, rfl, rfl, hS, rfl, ?_⟩
      refine ⟨fun σ H1 => σ = [some (.ref p), some (.int m), none, some (.int a), none, none] ∧ Kp p H H1 ∧ Pen K H1 p sc, ?_, ?_⟩
      · exact ⟨_, rfl, a, 1, rfl, rfl, .ref p, rfl, p, _, 1, 1, rfl, rfl, hp, rfl, rfl, kp_upd, put hscr⟩
      rintro _ H1 ⟨rfl, k1, P1⟩
      have P1' := P1
      obtain ⟨⟨ns, hs1⟩, _, a1, b1, hp1⟩ := P1'
      have hS1 : SqL K H1 p [.ref sc, .int a1, .int b1] := SqL.of hp1
      refine ⟨fun σ H2 => (∃ c, σ = [some (.ref p), some (.int m), none, some (.int a), some (.int c), none]) ∧ H1 = H2, ?_, ?_⟩
      · refine ⟨.ref p, rfl, p, _, 0, _, rfl, rfl, hS1, rfl, sc, _, rfl, .inl hs1, _, _, rfl, rfl, _, rfl, ite2 (fun e => ?_) (fun e => ⟨⟨_, rfl⟩, rfl⟩)⟩
        have n0 : 0 < ns.length := by
          have := of_decide_eq_true e
          rw [List.length_map] at this
          omega
        have b0 : 0 ≤ a % (ns.length : Int) := Int.emod_nonneg _ (by omega)
        have b1' : a % (ns.length : Int) < ns.length := Int.emod_lt_of_pos _ (by omega)
        have hx : (a % (ns.length : Int)).toNat < ns.length := by omega
        refine ⟨.ref p, rfl, p, _, 0, _, rfl, rfl, hS1, rfl, _, rfl, .ref p, rfl, p, _, 0, _, rfl, rfl, hS1, rfl, sc, _, rfl, .inl hs1, _, _, rfl, rfl, ?_, ?_⟩
        · show (0 : Int) < _
          rw [List.length_map]
          omega
        · refine ⟨sc, ns.map V.int, _, .int ns[(a % (ns.length : Int)).toNat], rfl, rfl, hs1, ?_, ⟨_, rfl⟩, rfl⟩
          rw [List.length_map]
          exact at_get b0 (by rw [List.getElem?_map, List.getElem?_eq_getElem hx]; rfl)
      rintro _ _ ⟨⟨c, rfl⟩, rfl⟩
      refine ⟨fun σ H3 => σ = [some (.ref p), some (.int m), none, some (.int a), some (.int c), none] ∧ H1 = H3, ?_, ?_⟩
      · refine ⟨_, rfl, .ref p, rfl, p, _, 0, _, rfl, rfl, hS1, rfl, sc, _, rfl, .inl hs1, _, _, rfl, rfl, _, rfl, ite2 (fun e => ?_) (fun e => iteF ⟨rfl, rfl⟩)⟩
        refine ⟨_, rfl, _, rfl, _, _, rfl, rfl, ⟨by decide, by decide, by decide⟩, _, _, rfl, rfl, _, rfl, ite2 (fun e => ?_) (fun e => ⟨rfl, rfl⟩)⟩
        refine ⟨_, rfl, _, rfl, _, rfl, _, _, rfl, rfl, hcd _, ?_⟩
        refine ⟨.ref p, rfl, p, _, 2, 2, rfl, rfl, hp1, rfl, ?_⟩
        exact ⟨_, rfl, _, rfl, _, rfl, _, _, rfl, rfl, (by show (0 : Int) < m; omega), fin _ (k1.trans kp_upd) (put ⟨ns, hs1⟩)⟩
      rintro _ _ ⟨rfl, rfl⟩
      refine ⟨fun σ H3 => (∃ n, 0 ≤ n ∧ n < 2147483647 ∧ σ = [some (.ref p), some (.int m), none, some (.int a), some (.int c), some (.int n)]) ∧ H1 = H3, ?_, ?_⟩
      · refine ⟨_, rfl, _, _, rfl, rfl, (show (0 : Int) < 2147483629 by decide), _, rfl, _, _, rfl, rfl, .inl ⟨by decide, by decide⟩, _, _, rfl, rfl, _, _, rfl, rfl, _, _, rfl, rfl, .inr ⟨by decide, by decide⟩, _, _, rfl, rfl, (show (0 : Int) < 2147483647 by decide), ⟨_, ?_, ?_, rfl⟩, rfl⟩
        · exact Int.emod_nonneg _ (by decide)
        · exact Int.emod_lt_of_pos _ (by decide)
      rintro _ _ ⟨⟨n, n1, n2, rfl⟩, rfl⟩
      refine ⟨fun σ H3 => (∃ n, 0 ≤ n ∧ σ = [some (.ref p), some (.int m), none, some (.int a), some (.int c), some (.int n)]) ∧ H1 = H3, ?_, ?_⟩
      · refine ⟨_, rfl, _, rfl, n, n, rfl, rfl, .inl ⟨by omega, by omega⟩, _, rfl, _, n, rfl, rfl, .inl ⟨by decide, by decide⟩, _, _, rfl, rfl, _, rfl, _, _, rfl, rfl, _, _, rfl, rfl, (show (0 : Int) < 2147483587 by decide), ⟨_, ?_, rfl⟩, rfl⟩
        exact Int.emod_nonneg _ (by decide)
      rintro _ _ ⟨⟨n, n1, rfl⟩, rfl⟩
      exact ⟨_, rfl, _, _, rfl, rfl, ⟨by decide, by decide⟩, _, rfl, _, _, rfl, rfl, (by show (0 : Int) < m; omega), fin _ k1 P1⟩
/-! ### shares, rows, one within another -/
structure Sh (xs : List Int) : Prop where
  n : xs.length ≤ 20
  a : ∀ x ∈ xs, 1 ≤ x ∧ x ≤ 20
  f : xs.Pairwise (fun x y => y ≤ x)
abbrev rw' (xs : List Int) (k : Nat) : Int := xs.getD k 0
def Win (xs ys : List Int) : Prop := ∀ k, rw' xs k ≤ rw' ys k
theorem sh_nil : Sh [] := ⟨Nat.zero_le _, fun x h => absurd h List.not_mem_nil, List.Pairwise.nil⟩
theorem rw_nil (k : Nat) : rw' [] k = 0 := by simp [rw']
theorem rw_ge {xs : List Int} (h : ∀ x ∈ xs, 0 ≤ x) (k : Nat) : 0 ≤ rw' xs k := by
  unfold rw'
  rw [List.getD_eq_getElem?_getD]
  cases e : xs[k]? with
  | none => exact Int.le_refl _
  | some x => exact h x (List.mem_of_getElem? e)
theorem Sh.ge {xs : List Int} (h : Sh xs) (k : Nat) : 0 ≤ rw' xs k := rw_ge (fun x m => by have := h.a x m; omega) k
theorem Sh.win0 {xs : List Int} (h : Sh xs) : Win [] xs := fun k => by rw [rw_nil]; exact h.ge k
theorem Win.refl (xs : List Int) : Win xs xs := fun _ => Int.le_refl _
theorem Win.trans {xs ys zs : List Int} (h : Win xs ys) (g : Win ys zs) : Win xs zs := fun k => Int.le_trans (h k) (g k)
theorem fall_rw {xs : List Int} (h : xs.Pairwise (fun x y => y ≤ x)) (hp : ∀ x ∈ xs, 0 ≤ x) {j k : Nat} (hjk : j ≤ k) : rw' xs k ≤ rw' xs j := by
  unfold rw'
  rw [List.getD_eq_getElem?_getD, List.getD_eq_getElem?_getD]
  by_cases hk : k < xs.length
  · rw [List.getElem?_eq_getElem hk, List.getElem?_eq_getElem (show j < xs.length by omega)]
    by_cases e : j = k
    · subst e; exact Int.le_refl _
    · exact List.pairwise_iff_getElem.mp h j k (by omega) hk (by omega)
  · rw [List.getElem?_eq_none (by omega)]
    cases e : xs[j]? with
    | none => exact Int.le_refl _
    | some x => exact hp x (List.mem_of_getElem? e)
theorem Sh.mono {xs : List Int} (h : Sh xs) {j k : Nat} (hjk : j ≤ k) : rw' xs k ≤ rw' xs j := fall_rw h.f (fun x m => by have := h.a x m; omega) hjk
theorem rw_at {xs : List Int} {k : Nat} (h : k < xs.length) : rw' xs k = xs[k] := by
  unfold rw'
  rw [List.getD_eq_getElem?_getD, List.getElem?_eq_getElem h]
  rfl
theorem rw_out {xs : List Int} {k : Nat} (h : xs.length ≤ k) : rw' xs k = 0 := by
  unfold rw'
  rw [List.getD_eq_getElem?_getD, List.getElem?_eq_none h]
  rfl
theorem Sh.le20 {xs : List Int} (h : Sh xs) (k : Nat) : rw' xs k ≤ 20 := by
  by_cases c : k < xs.length
  · rw [rw_at c]; exact (h.a _ (List.getElem_mem c)).2
  · rw [rw_out (by omega)]; decide
abbrev pos (fs : List Int) : List Int := fs.filter fun z => decide (0 < z)
theorem pos_app (a b : List Int) : pos (a ++ b) = pos a ++ pos b := List.filter_append ..
theorem pos_1 {x : Int} (h : 0 < x) : pos [x] = [x] := by
  show List.filter _ [x] = _
  rw [List.filter_cons, if_pos (decide_eq_true h)]
  rfl
theorem pos_0 {x : Int} (h : ¬ 0 < x) : pos [x] = [] := by
  show List.filter _ [x] = _
  rw [List.filter_cons, if_neg (by rw [decide_eq_true_eq]; exact h)]
  rfl
theorem pos_len (xs : List Int) : (pos xs).length ≤ xs.length := List.length_filter_le _ _
theorem pos_rw : ∀ {fs : List Int}, fs.Pairwise (fun x y => y ≤ x) → (∀ x ∈ fs, 0 ≤ x) → ∀ k, rw' (pos fs) k = rw' fs k
  | [], _, _, k => rfl
  | x :: xs, h, hp, k => by
    have h1 := List.pairwise_cons.mp h
    by_cases c : 0 < x
    · have e : pos (x :: xs) = x :: pos xs := by
        show List.filter _ (x :: xs) = _
        rw [List.filter_cons, if_pos (decide_eq_true c)]
      rw [e]
      cases k with
      | zero => rfl
      | succ k =>
        show rw' (pos xs) k = rw' xs k
        exact pos_rw h1.2 (fun y m => hp y (List.mem_cons_of_mem _ m)) k
    · have e : pos (x :: xs) = [] := by
        apply List.filter_eq_nil_iff.mpr
        intro y m
        rw [decide_eq_true_eq]
        rcases List.mem_cons.mp m with rfl | m
        · exact c
        · have := h1.1 y m
          omega
      rw [e, rw_nil]
      have h2 := fall_rw h hp (Nat.zero_le k)
      have h3 := rw_ge hp k
      have h4 : rw' (x :: xs) 0 = x := rfl
      omega
theorem pos_sh {fs : List Int} (hn : fs.length ≤ 20) (h : fs.Pairwise (fun x y => y ≤ x)) (hp : ∀ x ∈ fs, x ≤ 20) : Sh (pos fs) := by
  refine ⟨Nat.le_trans (List.length_filter_le _ _) hn, fun x m => ?_, List.Pairwise.sublist List.filter_sublist h⟩
  have := List.mem_filter.mp m
  have h2 := of_decide_eq_true this.2
  have h3 := hp x this.1
  omega
/-! ### _law_row -/
def sp_law_row : Sp := fun vs H Q _ => ∃ (a : Addr) (xs : List Int) (k : Nat), vs = [.ref a, .int (k : Int)] ∧ H a = some (.tup (xs.map V.int)) ∧ xs.length ≤ 1000 ∧ ∀ H', Same H H' → Q (.int (rw' xs k)) H'
theorem ok_law_row (T : Txt K mg f fd) : FnOk P w K mg base CX0 1 (f 9) (fd 9) ["_law_share", "_law_k"] sp_law_row := by
  refine T.F9.ok sc_law_row (fun vs H Q E h => ?_) (fun cdv A outer s H vs Q E hr h => ?_)
  · obtain ⟨a, xs, k, rfl, _⟩ := h
    rfl
  · obtain ⟨a, xs, k, rfl, ha, hn, q⟩ := h
    refine ⟨_, (pss_one (ps_ret (pe_ix (r := rIxT K) ix_tup (pe_op (r := rCatA K) op_catA (pv 0) (pe_tup (pa_cons pe_int pa_nil))) (pe_callB (call_min2 rfl) (by rfl) T.m_min bt_min (pa_cons (pv 1) (pa_cons (pe_callB (r := rLenS K) len_seq (by rfl) T.m_len bt_len (pa_cons (pv 0) pa_nil)) pa_nil))) (fun _ _ => rfl)))), ?_⟩
    refine ⟨.ref a, rfl, small_line (by show 1 ≤ 100000; omega), fun z nz => ?_⟩
    have s1 := same_new (o := .tup [V.int 0]) nz
    refine rd_catA (s1 _ _ ha) upd_same (small_line (by rw [List.length_map]; show xs.length + 1 ≤ 100000; omega)) fun H2 c s2 hc => ?_
    have s12 := s1.trans s2
    refine ⟨_, rfl, .ref a, rfl, a, _, rfl, .inr (SqT.of (s12 _ _ ha)), _, _, rfl, c, _, _, .int (rw' xs k), rfl, rfl, SqT.of hc, ?_, q _ s12⟩
    rw [List.length_map]
    have hlen : (xs.map V.int).length = xs.length := List.length_map ..
    by_cases h : k < xs.length
    · rw [if_neg (by omega), rw_at h]
      refine at_get (by omega) ?_
      rw [Int.toNat_natCast, List.getElem?_append_left (by omega), List.getElem?_map, List.getElem?_eq_getElem h]
      rfl
    · rw [rw_out (by omega)]
      by_cases h2 : (xs.length : Int) < (k : Int)
      · rw [if_pos h2]
        refine at_get (by omega) ?_
        rw [Int.toNat_natCast, List.getElem?_append_right (by omega), hlen, Nat.sub_self]
        rfl
      · rw [if_neg h2]
        refine at_get (by omega) ?_
        rw [Int.toNat_natCast, List.getElem?_append_right (by omega), hlen, show k - xs.length = 0 by omega]
        rfl
/-! ### _law_between -/
def sp_law_between (K : PySem.W.Frag) : Sp := fun vs H Q _ => ∃ (p sc a b : Addr) (xs ys : List Int), vs = [.ref p, .ref a, .ref b] ∧ Pen K H p sc ∧ H a = some (.tup (xs.map V.int)) ∧ H b = some (.tup (ys.map V.int)) ∧ Sh xs ∧ Sh ys ∧ Win xs ys ∧
  ∀ H' c zs, Kp p H H' → Pen K H' p sc → H' c = some (.tup (zs.map V.int)) → Sh zs → Win xs zs → Win zs ys → Q (.ref c) H'
theorem ok_law_between (T : Txt K mg f fd) : FnOk P w K mg base CX0 2 (f 10) (fd 10) ["_law_pen_here", "_law_one", "_law_other"] (sp_law_between K) := by
  refine T.F10.ok sc_law_between (fun vs H Q E h => ?_) (fun cdv A outer s H vs Q E hr h => ?_)
  · obtain ⟨p, sc, a, b, xs, ys, rfl, _⟩ := h
    rfl
  · obtain ⟨p, sc, a, b, xs, ys, rfl, hP, ha, hb, hx, hy, hw, q⟩ := h
    have hap := hP.apT ha
    have hbp := hP.apT hb
    have hyn := hy.n
    refine ⟨_, (pss_cons (ps_set (i := 3) sc_law_between.nd rfl (Or.inl rfl) (pe_call (ok_law_draw T) (hr.mono (by decide)) (by rfl) T.g8 T.F8.kp T.b8 .nil pass0 (pa_cons (pv 0) (pa_cons pe_int pa_nil))))
      (Evl.pss_cut (ps_if (pt_cmpR op_lt (pv 3) pe_int (nomark _)) (pss_one (ps_ret (pe_ix (r := rIxL K) ix_list (pe_lst (pa_cons (pv 1) (pa_cons (pv 2) pa_nil))) (pv 3) (fun _ _ => rfl)))) pss_nil)
      (pss_cons (ps_set (i := 4) sc_law_between.nd rfl (Or.inl rfl) (pe_lst pa_nil))
      (Evl.pss_cut (ps_for PassesOwn.never rfl (pi_range1 (by rfl) T.m_range (pa_cons (pe_callB (r := rLenS K) len_seq (by rfl) T.m_len bt_len (pa_cons (pv 2) pa_nil)) pa_nil)) (pg_name (i := 5) sc_law_between.nd rfl (Or.inl rfl)) (pss_cons (ps_set (i := 6) sc_law_between.nd rfl (Or.inl rfl) (pe_call (ok_law_row T) (hr.mono (by decide)) (by rfl) T.g9 T.F9.kp T.b9 .nil pass0 (pa_cons (pv 1) (pa_cons (pv 5) pa_nil))))
      (pss_cons (ps_set (i := 7) sc_law_between.nd rfl (Or.inl rfl) (pe_callB (call_min2 rfl) (by rfl) T.m_min bt_min (pa_cons (pe_ix (r := rIxT K) ix_tup (pv 2) (pv 5) (fun _ _ => rfl)) (pa_cons (pe_callBK (cr_minDef rfl hr.units) (by rfl) T.m_min bt_min (pa_cons (pv 4) pa_nil) (pk_cons (pe_ix (r := rIxT K) ix_tup (pv 2) (pv 5) (fun _ _ => rfl)) pk_nil)) pa_nil))))
      (Evl.pss_cut (ps_if (pt_cmpR op_gt (pv 3) pe_int (nomark _)) (pss_one (ps_set (i := 6) sc_law_between.nd rfl (Or.inl rfl) (pe_callB (call_max2 rfl) (by rfl) T.m_max bt_max (pa_cons (pv 6) (pa_cons (pe_op op_sub (pv 7) pe_int) pa_nil))))) pss_nil)
      (pss_one (ps_expr (pe_bm PySem.F.plainAttrs_list PySem.F.slot_list_append PySem.F.type_list_append mt_append (pv 4) (pa_cons (pe_op op_add (pv 6) (pe_call (ok_law_draw T) (hr.mono (by decide)) (by rfl) T.g8 T.F8.kp T.b8 .nil pass0 (pa_cons (pv 0) (pa_cons (pe_op op_add (pe_op op_sub (pv 7) (pv 6)) pe_int) pa_nil)))) pa_nil))))))))
      (pss_one (ps_ret (pe_callTy (r := rTupO K) tup_of (by rfl) T.m_tuple bt_tuple (pa_cons (pe_lc (own := [("_law_length", 8)]) (g := (gName 8)) rfl sc_law_between.nd (pi_list (pv 4)) (blkOk_by (N := N_law_between) (sc := defScope st_law_between) (by decide +kernel)) (fun _ _ _ _ _ => (pg_name (i := 8) sc_law_between.nd rfl (Or.inl rfl))) (fun _ _ _ _ _ => pts_one (pt_cmpR op_gt (pv 8) pe_int (nomark _))) (fun _ _ _ _ _ => (pv 8))) pa_nil)))))))), ?_⟩
    refine ⟨.ref p, rfl, p, sc, 8, rfl, hP, by decide, by decide, fun H1 way k1 P1 w0 w1 => ?_⟩
    have ha1 := k1 a _ hap ha
    have hb1 := k1 b _ hbp hb
    refine ⟨fun σ H2 => σ = [some (.ref p), some (.ref a), some (.ref b), some (.int way), none, none, none, none, none] ∧ H1 = H2, ?_, ?_⟩
    · refine ⟨_, rfl, _, _, rfl, rfl, _, rfl, ite2 (fun e => ?_) (fun e => ⟨rfl, rfl⟩)⟩
      have e1 : way < 2 := of_decide_eq_true e
      refine ⟨.ref a, rfl, .ref b, rfl, small_line (by show 2 ≤ 100000; omega), fun z nz => ?_⟩
      have s2 := same_new (o := .lst [V.ref a, V.ref b]) nz
      have P2 := P1.same s2
      rcases (show way = 0 ∨ way = 1 by omega) with rfl | rfl
      · exact ⟨_, rfl, z, _, 0, .ref a, rfl, rfl, SqL.of upd_same, rfl, q _ a xs (k1.trans (kp_new nz)) P2 (s2 _ _ ha1) hx (Win.refl _) hw⟩
      · exact ⟨_, rfl, z, _, 1, .ref b, rfl, rfl, SqL.of upd_same, rfl, q _ b ys (k1.trans (kp_new nz)) P2 (s2 _ _ hb1) hy hw (Win.refl _)⟩
    rintro _ _ ⟨rfl, rfl⟩
    refine ⟨Nat.zero_le _, fun R nR => ?_⟩
    have hRn := P1.new nR
    have keep : ∀ {H3 : Hp} {o : HO}, Kp p H H3 → Kp p H (upd H3 R o) := fun k c u n e => by
      rw [upd_ne (ne_of_none (k1 c u n e) nR)]
      exact k c u n e
    refine ⟨fun σ H3 => ∃ (fs : List Int) (o5 o6 o7 : Option V), σ = [some (.ref p), some (.ref a), some (.ref b), some (.int way), some (.ref R), o5, o6, o7, none] ∧ fs.length = ys.length ∧ fs.Pairwise (fun x y => y ≤ x) ∧ (∀ x ∈ fs, 0 ≤ x) ∧ (∀ j, j < ys.length → rw' xs j ≤ rw' fs j ∧ rw' fs j ≤ rw' ys j) ∧ Kp p H H3 ∧ Pen K H3 p sc ∧ H3 R = some (.lst (fs.map V.int)), ?_, ?_⟩
    · refine ⟨.ref b, rfl, b, _, rfl, .inr (SqT.of (same_new nR _ _ hb1)), _, rfl, ?_, ?_, ?_⟩
      · rw [List.length_map]; omega
      · rw [List.length_map]; omega
      refine for_range (fun i σ H3 => ∃ (fs : List Int) (o5 o6 o7 : Option V), σ = [some (.ref p), some (.ref a), some (.ref b), some (.int way), some (.ref R), o5, o6, o7, none] ∧ fs.length = i ∧ fs.Pairwise (fun x y => y ≤ x) ∧ (∀ x ∈ fs, 0 ≤ x) ∧ (∀ j, j < i → rw' xs j ≤ rw' fs j ∧ rw' fs j ≤ rw' ys j) ∧ Kp p H H3 ∧ Pen K H3 p sc ∧ H3 R = some (.lst (fs.map V.int))) ?_ ?_ ?_
      · exact ⟨[], none, none, none, rfl, rfl, List.Pairwise.nil, (fun x z => absurd z List.not_mem_nil), (fun j z => absurd z (Nat.not_lt_zero _)), k1.trans (kp_new nR), P1.same (same_new nR), upd_same⟩
      · rintro i _ H3 hi ⟨fs, o5, o6, o7, rfl, hfn, hff, hf0, hfw, k3, P3, hR⟩
        have hi' : i < ys.length := by
          have := hi
          rw [List.length_map] at this
          omega
        have ha3 := k3 a _ hap ha
        have hb3 := k3 b _ hbp hb
        have hxn := hx.n
        refine ⟨.ref a, rfl, _, rfl, a, xs, i, (by rw [Int.zero_add]; rfl), ha3, by omega, fun H4 s4 => ?_⟩
        have hb4 := s4 _ _ hb3
        have hR4 := s4 _ _ hR
        have P4 := P3.same s4
        have hyi : atI (ys.map V.int) (0 + (i : Int)) = some (.int (rw' ys i)) := at_get (by omega) (by rw [show (0 + (i : Int)).toNat = i by omega, List.getElem?_map, List.getElem?_eq_getElem hi', rw_at hi']; rfl)
        refine ⟨.ref b, rfl, _, rfl, b, _, _, _, rfl, rfl, SqT.of hb4, hyi, .ref R, rfl, .ref b, rfl, _, rfl, b, _, _, _, rfl, rfl, SqT.of hb4, hyi, R, fs, _, rfl, rfl, .inl (SqL.of hR4), _, _, rfl, ?_⟩
        obtain ⟨m, hm⟩ : ∃ m : Int, m = (if minDef (rw' ys i) fs < rw' ys i then minDef (rw' ys i) fs else rw' ys i) := ⟨_, rfl⟩
        rw [← hm]
        obtain ⟨d1, d2⟩ := minDef_le (d := rw' ys i) (ns := fs)
        have m1 : m ≤ rw' ys i := by rw [hm]; split <;> omega
        have m2 : ∀ z ∈ fs, m ≤ z := fun z hz => by
          have := d1 z hz
          rw [hm]; split <;> omega
        have m3 : rw' xs i ≤ m := by
          have h1 := hw i
          have h2 : fs ≠ [] → rw' xs i ≤ minDef (rw' ys i) fs := fun hne => by
            rcases d2 with ⟨_, d2⟩ | d2
            · exact absurd d2 hne
            · obtain ⟨j, hj, ej⟩ := List.mem_iff_getElem.mp d2
              have := (hfw j (by omega)).1
              rw [rw_at hj, ej] at this
              have := hx.mono (show j ≤ i by omega)
              omega
          by_cases hne : fs = []
          · subst hne
            rw [hm]
            show rw' xs i ≤ if rw' ys i < rw' ys i then _ else _
            rw [if_neg (Int.lt_irrefl _)]
            exact h1
          · have := h2 hne
            rw [hm]; split <;> omega
        have m4 := hx.ge i
        refine ⟨fun σ H5 => (∃ le : Int, σ = [some (.ref p), some (.ref a), some (.ref b), some (.int way), some (.ref R), some (.int (0 + (i : Int))), some (.int le), some (.int m), none] ∧ rw' xs i ≤ le ∧ le ≤ m) ∧ H4 = H5, ?_, ?_⟩
        · refine ⟨_, rfl, _, _, rfl, rfl, _, rfl, ite2 (fun e => ?_) (fun e => ⟨⟨_, rfl, Int.le_refl _, m3⟩, rfl⟩)⟩
          refine ⟨_, rfl, _, rfl, _, _, rfl, rfl, _, _, rfl, ⟨_, rfl, ?_, ?_⟩, rfl⟩
          · split <;> omega
          · split <;> omega
        rintro _ _ ⟨⟨le, rfl, l1, l2⟩, rfl⟩
        have hy20 := hy.le20 i
        refine ⟨.ref R, rfl, .inl ⟨rfl, _, SqL.of hR4⟩, _, rfl, .ref p, rfl, _, rfl, _, rfl, _, _, rfl, rfl, _, _, rfl, rfl, p, sc, _, rfl, P4, by omega, by omega, fun H5 d k5 P5 d0 d1 => ?_⟩
        have hR5 := k5 R _ hRn.1 hR4
        refine ⟨_, _, rfl, rfl, R, _, _, rfl, rfl, hR5, small_lt (by rw [List.length_map]; omega), ?_⟩
        have hnew : rw' (fs ++ [le + d]) i = le + d := by
          rw [rw_at (by rw [List.length_append]; show i < fs.length + 1; omega), List.getElem_append_right (by omega)]
          simp
        refine ⟨fs ++ [le + d], _, _, _, rfl, by rw [List.length_append, hfn]; rfl, ?_, ?_, ?_, keep (((k3.trans (Kp.of s4)).trans k5)), P5.upd hRn, ?_⟩
        · rw [List.pairwise_append]
          refine ⟨hff, List.pairwise_singleton _ _, fun x z y z2 => ?_⟩
          have e : y = le + d := by simpa using z2
          have := m2 x z
          omega
        · intro x z
          rcases List.mem_append.mp z with z | z
          · exact hf0 x z
          · have e : x = le + d := by simpa using z
            omega
        · intro j hj
          by_cases c : j = i
          · subst c
            rw [hnew]
            omega
          · have hj' : j < i := by omega
            have e : rw' (fs ++ [le + d]) j = rw' fs j := by
              rw [rw_at (by rw [List.length_append]; omega), rw_at (by omega), List.getElem_append_left (by omega)]
            rw [e]
            exact hfw j hj'
        · rw [upd_same, List.map_append]
          rfl
      · rintro _ H3 ⟨fs, o5, o6, o7, rfl, hfn, hff, hf0, hfw, k3, P3, hR⟩
        rw [List.length_map, Int.toNat_natCast] at hfn hfw
        exact ⟨fs, o5, o6, o7, rfl, hfn, hff, hf0, hfw, k3, P3, hR⟩
    rintro _ H3 ⟨fs, o5, o6, o7, rfl, hfn, hff, hf0, hfw, k3, P3, hR⟩
    refine ⟨.ref R, rfl, R, rfl, ⟨_, SqL.of hR⟩, fun D nD => ?_⟩
    refine lc_it (walk_list (xs := fs.map V.int)) (Grow H3 D (fun i => (pos (fs.take i)).map V.int)) (Grow.start nD rfl) (fun i H' _ g => SqL.of (g.1 _ _ hR)) ?_ ?_
    · rintro i v _ H4 hi g ⟨rfl, hv⟩
      rw [List.length_map] at hi
      rw [List.getElem?_map, List.getElem?_eq_getElem hi] at hv
      cases hv
      have htk : fs.take (i + 1) = fs.take i ++ [fs[i]] := by rw [List.take_add_one, List.getElem?_eq_getElem hi]; rfl
      refine ⟨rfl, _, rfl, _, _, rfl, rfl, _, rfl, ite2 (fun e => ?_) (fun e => ?_)⟩
      · have e1 : 0 < fs[i] := of_decide_eq_true e
        refine ⟨_, rfl, _, g.2, ?_, g.put nD (Same.refl _) ?_⟩
        · rw [List.length_map]
          have := pos_len (fs.take i)
          rw [List.length_take] at this
          exact small_lt (by omega)
        · show (pos (fs.take (i + 1))).map V.int = _
          rw [htk, pos_app, List.map_append, pos_1 e1]
          rfl
      · have e1 : ¬ 0 < fs[i] := fun z => e (decide_eq_true z)
        refine g.skip (Same.refl _) ?_
        show (pos (fs.take (i + 1))).map V.int = (pos (fs.take i)).map V.int
        rw [htk, pos_app, pos_0 e1, List.append_nil]
    · intro H4 g
      have g2 := g.2
      dsimp only at g2
      rw [List.length_map, List.take_of_length_le (Nat.le_refl _)] at g2
      refine ⟨D, _, rfl, .inl ⟨SqL.of g2, fun t nt => ?_⟩⟩
      have s5 := g.1.trans (same_new (o := .tup ((pos fs).map V.int)) nt)
      have hfy : ∀ x ∈ fs, x ≤ 20 := fun x m => by
        obtain ⟨j, hj, ej⟩ := List.mem_iff_getElem.mp m
        have h1 := (hfw j (by omega)).2
        have h2 := hy.le20 j
        rw [rw_at hj, ej] at h1
        omega
      refine q _ t (pos fs) (k3.trans (Kp.of s5)) (P3.same s5) upd_same (pos_sh (by omega) hff hfy) (fun k => ?_) (fun k => ?_)
      · rw [pos_rw hff hf0]
        by_cases c : k < ys.length
        · exact (hfw k c).1
        · have h1 := hw k
          rw [rw_out (show ys.length ≤ k by omega)] at h1
          have h2 := rw_ge hf0 k
          omega
      · rw [pos_rw hff hf0]
        by_cases c : k < ys.length
        · exact (hfw k c).2
        · rw [rw_out (show fs.length ≤ k by omega)]
          exact hy.ge k
/-! ### _law_full -/
theorem rep_flat1 {α : Type} (x : α) : ∀ n : Nat, (List.replicate n [x]).flatten = List.replicate n x
  | 0 => rfl
  | n + 1 => by
    rw [List.replicate_succ, List.flatten_cons, rep_flat1 x n]
    rfl
def sp_law_full : Sp := fun vs H Q _ => ∃ h w : Int, vs = [.int h, .int w] ∧ 0 ≤ h ∧ h ≤ 20 ∧ 0 ≤ w ∧ w ≤ 20 ∧ ∀ H' c zs, Same H H' → H' c = some (.tup (zs.map V.int)) → Sh zs → zs.length ≤ h → (∀ x ∈ zs, x = w) → Q (.ref c) H'
theorem ok_law_full (T : Txt K mg f fd) : FnOk P w K mg base CX0 1 (f 11) (fd 11) ["_law_high", "_law_wide"] sp_law_full := by
  refine T.F11.ok sc_law_full (fun vs H Q E h => ?_) (fun cdv A outer s H vs Q E hr h => ?_)
  · obtain ⟨h, w, rfl, _⟩ := h
    rfl
  · obtain ⟨h, w, rfl, h0, h1, w0, w1, q⟩ := h
    refine ⟨_, (pss_one (ps_ret (pe_op (r := rRepA K) op_repA (pe_tup (pa_cons (pv 1) pa_nil)) (pe_op op_mul (pv 0) (pe_callTy call_int1 (by rfl) T.m_int bt_int (pa_cons (pe_cmpR op_gt (pv 1) pe_int (nomark _)) pa_nil)))))), ?_⟩
    refine ⟨_, rfl, small_line (by show 1 ≤ 100000; omega), fun z nz => ?_⟩
    have s1 := same_new (o := .tup [V.int w]) nz
    obtain ⟨n, hn, hn2⟩ : ∃ n : Nat, h * b2i (decide (w > 0)) = (n : Int) ∧ (n : Int) ≤ h ∧ (w ≤ 0 → n = 0) := by
      by_cases c : w > 0
      · rw [decide_eq_true c]
        exact ⟨h.toNat, by show h * 1 = _; omega, by omega, fun z => by omega⟩
      · rw [decide_eq_false c]
        exact ⟨0, by show h * 0 = _; omega, by omega, fun z => rfl⟩
    refine ⟨_, rfl, _, rfl, _, _, rfl, rfl, .inr ⟨_, rfl, _, _, rfl, rfl, .inl ⟨by omega, by omega⟩, ?_⟩⟩
    refine ⟨z, _, _, rfl, rfl, upd_same, by simp, ?_, ?_, by show 1 ≤ 1000; omega, fun H' c s2 hc => ?_⟩
    · show 0 ≤ h * b2i (decide (w > 0)); omega
    · show h * b2i (decide (w > 0)) ≤ 1000; omega
    · have hc' : H' c = some (.tup (List.replicate n (V.int w))) := by
        rw [hc]
        show some (HO.tup (List.replicate (h * b2i (decide (w > 0))).toNat [V.int w]).flatten) = _
        rw [hn, Int.toNat_natCast, rep_flat1]
      rw [← List.map_replicate] at hc'
      refine q _ c _ (s1.trans s2) hc' ⟨by rw [List.length_replicate]; omega, fun x m => ?_, ?_⟩ (by rw [List.length_replicate]; omega) (fun x m => (List.mem_replicate.mp m).2)
      · obtain ⟨m1, rfl⟩ := List.mem_replicate.mp m
        have : ¬ x ≤ 0 := fun z => m1 (hn2.2 z)
        omega
      · rw [List.pairwise_replicate]
        exact .inr (Int.le_refl _)
/-! ### lists of shares -/
inductive Ts (H : Hp) : List V → List (List Int) → Prop
  | nil : Ts H [] []
  | cons {a : Addr} {xs : List Int} {vs : List V} {xss : List (List Int)} : H a = some (.tup (xs.map V.int)) → Ts H vs xss → Ts H (.ref a :: vs) (xs :: xss)
theorem Ts.same {H H' : Hp} {vs : List V} {xss : List (List Int)} (h : Ts H vs xss) (s : Same H H') : Ts H' vs xss := by
  induction h with
  | nil => exact .nil
  | cons e _ ih => exact .cons (s _ _ e) ih
theorem Ts.kp {H H' : Hp} {p : Addr} {ys vs : List V} {xss : List (List Int)} (h : Ts H vs xss) (hp : H p = some (.lst ys)) (k : Kp p H H') : Ts H' vs xss := by
  induction h with
  | nil => exact .nil
  | cons e _ ih => exact .cons (k _ _ (ne_of e hp (by intro z; cases z)) e) ih
theorem Ts.len {H : Hp} {vs : List V} {xss : List (List Int)} (h : Ts H vs xss) : vs.length = xss.length := by
  induction h with
  | nil => rfl
  | cons _ _ ih => rw [List.length_cons, List.length_cons, ih]
theorem Ts.app {H : Hp} {vs ws : List V} {xss yss : List (List Int)} (h : Ts H vs xss) (g : Ts H ws yss) : Ts H (vs ++ ws) (xss ++ yss) := by
  induction h with
  | nil => exact g
  | cons e _ ih => exact .cons e ih
theorem Ts.drop {H : Hp} {vs : List V} {xss : List (List Int)} (h : Ts H vs xss) : ∀ n : Nat, Ts H (vs.drop n) (xss.drop n) := by
  induction h with
  | nil => intro n; rw [List.drop_nil, List.drop_nil]; exact .nil
  | cons e h ih =>
    intro n
    cases n with
    | zero => exact .cons e h
    | succ n => exact ih n
theorem Ts.take {H : Hp} {vs : List V} {xss : List (List Int)} (h : Ts H vs xss) : ∀ n : Nat, Ts H (vs.take n) (xss.take n) := by
  induction h with
  | nil => intro n; rw [List.take_nil, List.take_nil]; exact .nil
  | cons e h ih =>
    intro n
    cases n with
    | zero => exact .nil
    | succ n => exact .cons e (ih n)
theorem Ts.at {H : Hp} {vs : List V} {xss : List (List Int)} (h : Ts H vs xss) : ∀ {i : Nat} {v : V}, vs[i]? = some v → ∃ a xs, v = .ref a ∧ H a = some (.tup (xs.map V.int)) ∧ xss[i]? = some xs := by
  induction h with
  | nil => intro i v e; simp at e
  | @cons a xs vs xss e _ ih =>
    intro i v g
    cases i with
    | zero => cases g; exact ⟨a, xs, rfl, e, rfl⟩
    | succ i => exact ih (i := i) g
theorem Pen.lstP {K : PySem.W.Frag} {H : Hp} {p sc : Addr} (h : Pen K H p sc) : ∃ ys, H p = some (.lst ys) := let ⟨_, _, e⟩ := h.pen; ⟨_, e⟩
abbrev Shs (xss : List (List Int)) : Prop := ∀ xs ∈ xss, Sh xs
/-! ### _law_stack -/
def sp_law_stack (K : PySem.W.Frag) : Sp := fun vs H Q _ => ∃ (p sc a b : Addr) (xs ys : List Int) (n : Nat), vs = [.ref p, .ref a, .ref b, .int (n : Int)] ∧ Pen K H p sc ∧ H a = some (.tup (xs.map V.int)) ∧ H b = some (.tup (ys.map V.int)) ∧ Sh xs ∧ Sh ys ∧ Win xs ys ∧ n ≤ 1000 ∧
  ∀ H' L us zss, Kp p H H' → Pen K H' p sc → L ≠ p → H' L = some (.lst us) → Ts H' us zss → Shs zss → zss.length = n → Q (.ref L) H'
theorem ok_law_stack (T : Txt K mg f fd) : FnOk P w K mg base CX0 3 (f 13) (fd 13) ["_law_pen_here", "_law_one", "_law_other", "_law_many"] (sp_law_stack K) := by
  refine T.F13.ok sc_law_stack (fun vs H Q E h => ?_) (fun cdv A outer s H vs Q E hr h => ?_)
  · obtain ⟨p, sc, a, b, xs, ys, n, rfl, _⟩ := h
    rfl
  · obtain ⟨p, sc, a, b, xs, ys, n, rfl, hP, ha, hb, hx, hy, hw, hn, q⟩ := h
    have hbp := hP.apT hb
    refine ⟨_, (pss_cons (ps_set (i := 4) sc_law_stack.nd rfl (Or.inl rfl) (pe_lst pa_nil))
      (pss_cons (ps_set (i := 5) sc_law_stack.nd rfl (Or.inl rfl) (pv 1))
      (pss_cons (ps_for PassesOwn.never rfl (pi_range1 (by rfl) T.m_range (pa_cons (pv 3) pa_nil)) (pg_name (i := 6) sc_law_stack.nd rfl (Or.inl rfl)) (pss_cons (ps_set (i := 5) sc_law_stack.nd rfl (Or.inl rfl) (pe_call (ok_law_between T) (hr.mono (by decide)) (by rfl) T.g10 T.F10.kp T.b10 .nil pass0 (pa_cons (pv 0) (pa_cons (pv 5) (pa_cons (pv 2) pa_nil)))))
      (pss_one (ps_expr (pe_bm PySem.F.plainAttrs_list PySem.F.slot_list_append PySem.F.type_list_append mt_append (pv 4) (pa_cons (pv 5) pa_nil))))))
      (pss_one (ps_ret (pv 4)))))), ?_⟩
    refine ⟨Nat.zero_le _, fun R nR => ?_⟩
    have hRn := hP.new nR
    have keep : ∀ {H3 : Hp} {o : HO}, Kp p H H3 → Kp p H (upd H3 R o) := fun k c u n e => by
      rw [upd_ne (ne_of_none e nR)]
      exact k c u n e
    refine ⟨.ref a, rfl, _, rfl, _, rfl, by omega, by omega, ?_⟩
    refine for_range (fun i σ H3 => ∃ (us : List V) (zss : List (List Int)) (c : Addr) (zs : List Int) (o6 : Option V), σ = [some (.ref p), some (.ref a), some (.ref b), some (.int (n : Int)), some (.ref R), some (.ref c), o6] ∧ Kp p H H3 ∧ Pen K H3 p sc ∧ H3 R = some (.lst us) ∧ Ts H3 us zss ∧ Shs zss ∧ zss.length = i ∧ H3 c = some (.tup (zs.map V.int)) ∧ Sh zs ∧ Win zs ys) ?_ ?_ ?_
    · exact ⟨[], [], a, xs, none, rfl, kp_new nR, hP.same (same_new nR), upd_same, .nil, (fun x z => absurd z List.not_mem_nil), rfl, same_new nR _ _ ha, hx, hw⟩
    · rintro i _ H3 hi ⟨us, zss, c, zs, o6, rfl, k3, P3, hR, hts, hsh, hl, hc, hz, hzw⟩
      have hi' : i < n := by have := hi; omega
      have hb3 := k3 b _ hbp hb
      refine ⟨.ref p, rfl, .ref c, rfl, .ref b, rfl, p, sc, c, b, zs, ys, rfl, P3, hc, hb3, hz, hy, hzw, fun H4 d ws k4 P4 hd hws _ hwy => ?_⟩
      have hR4 := k4 R _ hRn.1 hR
      obtain ⟨pl, hpl⟩ := P3.lstP
      have hts4 := hts.kp hpl k4
      have hul := hts.len
      refine ⟨.ref R, rfl, .inl ⟨rfl, _, SqL.of hR4⟩, .ref d, rfl, R, _, _, rfl, rfl, hR4, small_lt (by omega), ?_⟩
      have kR : Kp R H4 (upd H4 R (.lst (us ++ [.ref d]))) := kp_upd
      have hd2 : (upd H4 R (.lst (us ++ [.ref d]))) d = some (.tup (ws.map V.int)) := kR _ _ (ne_of hd hR4 (by intro z; cases z)) hd
      refine ⟨us ++ [.ref d], zss ++ [ws], d, ws, _, rfl, keep (k3.trans k4), P4.upd hRn, upd_same, (hts4.kp hR4 kR).app (.cons hd2 .nil), ?_, by rw [List.length_append, hl]; rfl, hd2, hws, hwy⟩
      intro y m
      rcases List.mem_append.mp m with m | m
      · exact hsh y m
      · have e : y = ws := by simpa using m
        rw [e]
        exact hws
    · rintro _ H3 ⟨us, zss, c, zs, o6, rfl, k3, P3, hR, hts, hsh, hl, hc, hz, hzw⟩
      rw [Int.toNat_natCast] at hl
      exact ⟨.ref R, rfl, q _ R us zss k3 P3 hRn.1 hR hts hsh hl⟩
/-! ### _law_two -/
def sp_law_two (K : PySem.W.Frag) : Sp := fun vs H Q _ => ∃ p sc : Addr, vs = [.ref p] ∧ Pen K H p sc ∧
  ∀ H' t L M us ws xss yss, Pen K H' p sc → H' t = some (.tup [.ref L, .ref M]) → H' L = some (.lst us) → H' M = some (.lst ws) → Ts H' us xss → Ts H' ws yss → Shs xss → Shs yss → xss.length ≤ 40 → yss.length ≤ 40 → Q (.ref t) H'
theorem ok_law_two (T : Txt K mg f fd) : FnOk P w K mg base CX0 4 (f 14) (fd 14) ["_law_pen_here"] (sp_law_two K) := by
  refine T.F14.ok sc_law_two (fun vs H Q E h => ?_) (fun cdv A outer s H vs Q E hr h => ?_)
  · obtain ⟨p, sc, rfl, _⟩ := h
    rfl
  · obtain ⟨p, sc, rfl, hP, q⟩ := h
    refine ⟨_, (Evl.pss_cut (ps_set (i := 1) sc_law_two.nd rfl (Or.inl rfl) (pe_ix (r := rIxL K) ix_list (pe_lst (pa_cons pe_int (pa_cons pe_int (pa_cons pe_int (pa_cons pe_int pa_nil))))) (pe_call (ok_law_draw T) (hr.mono (by decide)) (by rfl) T.g8 T.F8.kp T.b8 .nil pass0 (pa_cons (pv 0) (pa_cons pe_int pa_nil))) (fun _ _ => rfl)))
      (Evl.pss_cut (ps_set (i := 2) sc_law_two.nd rfl (Or.inl rfl) (pe_call (ok_law_full T) (hr.mono (by decide)) (by rfl) T.g11 T.F11.kp T.b11 .nil pass0 (pa_cons (pe_call (ok_law_draw T) (hr.mono (by decide)) (by rfl) T.g8 T.F8.kp T.b8 .nil pass0 (pa_cons (pv 0) (pa_cons (pe_op op_add (pv 1) pe_int) pa_nil))) (pa_cons (pe_call (ok_law_draw T) (hr.mono (by decide)) (by rfl) T.g8 T.F8.kp T.b8 .nil pass0 (pa_cons (pv 0) (pa_cons (pe_op op_add (pv 1) pe_int) pa_nil))) pa_nil))))
      (pss_cons (ps_set (i := 3) sc_law_two.nd rfl (Or.inl rfl) (pe_call (ok_law_draw T) (hr.mono (by decide)) (by rfl) T.g8 T.F8.kp T.b8 .nil pass0 (pa_cons (pv 0) (pa_cons pe_int pa_nil))))
      (Evl.pss_cut (ps_if (pt_cmpR op_eq (pe_call (ok_law_draw T) (hr.mono (by decide)) (by rfl) T.g8 T.F8.kp T.b8 .nil pass0 (pa_cons (pv 0) (pa_cons pe_int pa_nil))) pe_int (nomark _)) (pss_one (ps_set (i := 3) sc_law_two.nd rfl (Or.inl rfl) (pe_op op_add pe_int (pe_call (ok_law_draw T) (hr.mono (by decide)) (by rfl) T.g8 T.F8.kp T.b8 .nil pass0 (pa_cons (pv 0) (pa_cons pe_int pa_nil)))))) pss_nil)
      (Evl.pss_cut (ps_set (i := 4) sc_law_two.nd rfl (Or.inl rfl) (pe_call (ok_law_stack T) (hr.mono (by decide)) (by rfl) T.g13 T.F13.kp T.b13 .nil pass0 (pa_cons (pv 0) (pa_cons (pe_call (ok_law_between T) (hr.mono (by decide)) (by rfl) T.g10 T.F10.kp T.b10 .nil pass0 (pa_cons (pv 0) (pa_cons (pe_tup pa_nil) (pa_cons (pv 2) pa_nil)))) (pa_cons (pv 2) (pa_cons (pv 3) pa_nil))))))
      (Evl.pss_cut (ps_set (i := 5) sc_law_two.nd rfl (Or.inl rfl) (pe_call (ok_law_between T) (hr.mono (by decide)) (by rfl) T.g10 T.F10.kp T.b10 .nil pass0 (pa_cons (pv 0) (pa_cons (pe_tup pa_nil) (pa_cons (pe_call (ok_law_full T) (hr.mono (by decide)) (by rfl) T.g11 T.F11.kp T.b11 .nil pass0 (pa_cons (pe_call (ok_law_draw T) (hr.mono (by decide)) (by rfl) T.g8 T.F8.kp T.b8 .nil pass0 (pa_cons (pv 0) (pa_cons (pe_op op_add (pv 1) pe_int) pa_nil))) (pa_cons (pe_call (ok_law_draw T) (hr.mono (by decide)) (by rfl) T.g8 T.F8.kp T.b8 .nil pass0 (pa_cons (pv 0) (pa_cons (pe_op op_add (pv 1) pe_int) pa_nil))) pa_nil))) pa_nil)))))
      (Evl.pss_cut (ps_set (i := 6) sc_law_two.nd rfl (Or.inr rfl) (pe_call (ok_law_stack T) (hr.mono (by decide)) (by rfl) T.g13 T.F13.kp T.b13 .nil pass0 (pa_cons (pv 0) (pa_cons (pe_tup pa_nil) (pa_cons (pe_ix (r := rIxL K) ix_list (pe_lst (pa_cons (pv 2) (pa_cons (pv 5) pa_nil))) (pe_call (ok_law_draw T) (hr.mono (by decide)) (by rfl) T.g8 T.F8.kp T.b8 .nil pass0 (pa_cons (pv 0) (pa_cons pe_int pa_nil))) (fun _ _ => rfl)) (pa_cons (pv 3) pa_nil))))))
      (Evl.pss_cut (ps_if (pt_cmpR op_eq (pe_call (ok_law_draw T) (hr.mono (by decide)) (by rfl) T.g8 T.F8.kp T.b8 .nil pass0 (pa_cons (pv 0) (pa_cons pe_int pa_nil))) pe_int (nomark _)) (pss_one (ps_set (i := 6) sc_law_two.nd rfl (Or.inr rfl) (pe_op op_cat (pe_lc (own := [("_law_share", 7)]) (g := (gName 7)) (tt := tYes) rfl sc_law_two.nd (pi_list (pe_slice (r := rSlL K) sl_list (pv 4) po_none (po_some pe_int))) (blkOk_by (N := N_law_two) (sc := defScope st_law_two) (by decide +kernel)) (fun _ _ _ _ _ => (pg_name (i := 7) sc_law_two.nd rfl (Or.inl rfl))) (fun _ _ _ _ _ => pts_nil) (fun _ _ _ _ _ => (pe_call (ok_law_between T) (hr.mono (by decide)) (by rfl) T.g10 T.F10.kp T.b10 .nil pass0 (pa_cons (pv 0) (pa_cons (pe_tup pa_nil) (pa_cons (pv 7) pa_nil)))))) (pe_slice (r := rSlL K) sl_list (pv 4) (po_some pe_int) po_none)))) pss_nil)
      (Evl.pss_cut (ps_if (pt_cmpR op_eq (pe_call (ok_law_draw T) (hr.mono (by decide)) (by rfl) T.g8 T.F8.kp T.b8 .nil pass0 (pa_cons (pv 0) (pa_cons pe_int pa_nil))) pe_int (nomark _)) (pss_one (ps_set (i := 6) sc_law_two.nd rfl (Or.inr rfl) (pe_op op_cat (pe_slice (r := rSlL K) sl_list (pv 6) po_none (po_some pe_int)) (pe_lc (own := [("_law_share", 7)]) (g := (gName 7)) (tt := tYes) rfl sc_law_two.nd (pi_list (pe_slice (r := rSlL K) sl_list (pv 6) (po_some pe_int) po_none)) (blkOk_by (N := N_law_two) (sc := defScope st_law_two) (by decide +kernel)) (fun _ _ _ _ _ => (pg_name (i := 7) sc_law_two.nd rfl (Or.inl rfl))) (fun _ _ _ _ _ => pts_nil) (fun _ _ _ _ _ => (pe_ix (r := rIxL K) ix_list (pv 6) pe_int (fun _ _ => rfl))))))) pss_nil)
      (pss_one (ps_ret (pe_tup (pa_cons (pv 4) (pa_cons (pv 6) pa_nil)))))))))))))), ?_⟩
    -- most
    refine ⟨fun σ H1 => ∃ m : Int, σ = [some (.ref p), some (.int m), none, none, none, none, none, none] ∧ 1 ≤ m ∧ m ≤ 20 ∧ Pen K H1 p sc, ?_, ?_⟩
    · refine ⟨small_line (by show 4 ≤ 100000; omega), fun z nz => ?_⟩
      have s1 := same_new (o := .lst [V.int 4, V.int 4, V.int 4, V.int 20]) nz
      refine ⟨.ref p, rfl, p, sc, 4, rfl, hP.same s1, by decide, by decide, fun H2 d k2 P2 d0 d1 => ?_⟩
      have hz2 := k2 z _ (hP.new nz).1 upd_same
      obtain ⟨v, hv, hv1, hv2⟩ : ∃ v, atI [V.int 4, V.int 4, V.int 4, V.int 20] d = some (V.int v) ∧ 1 ≤ v ∧ v ≤ 20 := by
        rcases (show d = 0 ∨ d = 1 ∨ d = 2 ∨ d = 3 by omega) with z | z | z | z <;> subst z <;> exact ⟨_, rfl, by decide, by decide⟩
      exact ⟨z, _, d, _, rfl, rfl, SqL.of hz2, hv, v, rfl, hv1, hv2, P2⟩
    rintro _ H1 ⟨m, rfl, m0, m1, P1⟩
    -- the full share
    refine ⟨fun σ H2 => ∃ (F : Addr) (fs : List Int), σ = [some (.ref p), some (.int m), some (.ref F), none, none, none, none, none] ∧ Pen K H2 p sc ∧ H2 F = some (.tup (fs.map V.int)) ∧ Sh fs, ?_, ?_⟩
    · refine ⟨.ref p, rfl, _, rfl, _, _, rfl, rfl, p, sc, _, rfl, P1, by omega, by omega, fun H2 h k2 P2 h0 h1 => ?_⟩
      refine ⟨.ref p, rfl, _, rfl, _, _, rfl, rfl, p, sc, _, rfl, P2, by omega, by omega, fun H3 w k3 P3 w0 w1 => ?_⟩
      exact ⟨h, w, rfl, h0, by omega, w0, by omega, fun H4 c zs s4 hc hz _ _ => ⟨c, zs, rfl, P3.same s4, hc, hz⟩⟩
    rintro _ H2 ⟨F, fs, rfl, P2, hF, hfs⟩
    refine ⟨.ref p, rfl, p, sc, 7, rfl, P2, by decide, by decide, fun H3 mm k3 P3 mm0 mm1 => ?_⟩
    have hF3 := k3 F _ (P2.apT hF) hF
    -- how many
    refine ⟨fun σ H4 => ∃ n : Nat, σ = [some (.ref p), some (.int m), some (.ref F), some (.int (n : Int)), none, none, none, none] ∧ n ≤ 40 ∧ Pen K H4 p sc ∧ H4 F = some (.tup (fs.map V.int)), ?_, ?_⟩
    · refine ⟨.ref p, rfl, p, sc, 6, rfl, P3, by decide, by decide, fun H4 d k4 P4 d0 d1 => ?_⟩
      have hF4 := k4 F _ (P3.apT hF3) hF3
      refine ⟨rfl, _, rfl, ite2 (fun e => ?_) (fun e => ?_)⟩
      · refine ⟨.ref p, rfl, p, sc, 34, rfl, P4, by decide, by decide, fun H5 d5 k5 P5 d50 d51 => ?_⟩
        refine ⟨_, _, rfl, rfl, (7 + d5).toNat, ?_, by omega, P5, k5 F _ (P4.apT hF4) hF4⟩
        rw [show (((7 + d5).toNat : Nat) : Int) = 7 + d5 by omega]
        rfl
      · refine ⟨mm.toNat, ?_, by omega, P4, hF4⟩
        rw [show ((mm.toNat : Nat) : Int) = mm by omega]
        rfl
    rintro _ H4 ⟨n, rfl, hn, P4, hF4⟩
    -- first
    refine ⟨fun σ H5 => ∃ (L : Addr) (us : List V) (xss : List (List Int)), σ = [some (.ref p), some (.int m), some (.ref F), some (.int (n : Int)), some (.ref L), none, none, none] ∧ L ≠ p ∧ H5 L = some (.lst us) ∧ Ts H5 us xss ∧ Shs xss ∧ xss.length = n ∧ Pen K H5 p sc ∧ H5 F = some (.tup (fs.map V.int)), ?_, ?_⟩
    · refine ⟨.ref p, rfl, .ref p, rfl, Nat.zero_le _, fun z nz => ?_⟩
      have s5 := same_new (o := .tup []) nz
      have P5 := P4.same s5
      refine ⟨.ref F, rfl, p, sc, z, F, [], fs, rfl, P5, upd_same, s5 _ _ hF4, sh_nil, hfs, hfs.win0, fun H6 c zs k6 P6 hc hz _ hzw => ?_⟩
      have hF6 := k6 F _ (P5.apT (s5 _ _ hF4)) (s5 _ _ hF4)
      refine ⟨.ref F, rfl, _, rfl, p, sc, c, F, zs, fs, n, rfl, P6, hc, hF6, hz, hfs, hzw, by omega, fun H7 L us zss k7 P7 nL hL hts hsh hl => ?_⟩
      exact ⟨L, us, zss, rfl, nL, hL, hts, hsh, hl, P7, k7 F _ (P6.apT hF6) hF6⟩
    rintro _ H5 ⟨L, us, xss, rfl, nL, hL, hts, hsh, hl, P5, hF5⟩
    -- other
    refine ⟨fun σ H6 => ∃ (O : Addr) (os : List Int), σ = [some (.ref p), some (.int m), some (.ref F), some (.int (n : Int)), some (.ref L), some (.ref O), none, none] ∧ H6 O = some (.tup (os.map V.int)) ∧ Sh os ∧ H6 L = some (.lst us) ∧ Ts H6 us xss ∧ Pen K H6 p sc ∧ H6 F = some (.tup (fs.map V.int)), ?_, ?_⟩
    · refine ⟨.ref p, rfl, Nat.zero_le _, fun z nz => ?_⟩
      have s6 := same_new (o := .tup []) nz
      have P6 := P5.same s6
      refine ⟨.ref p, rfl, _, rfl, _, _, rfl, rfl, p, sc, _, rfl, P6, by omega, by omega, fun H7 h k7 P7 h0 h1 => ?_⟩
      refine ⟨.ref p, rfl, _, rfl, _, _, rfl, rfl, p, sc, _, rfl, P7, by omega, by omega, fun H8 w k8 P8 w0 w1 => ?_⟩
      have k78 := k7.trans k8
      have hz8 := k78 z _ (P5.new nz).1 upd_same
      refine ⟨h, w, rfl, h0, by omega, w0, by omega, fun H9 c zs s9 hc hz _ _ => ?_⟩
      refine ⟨p, sc, z, c, [], zs, rfl, P8.same s9, s9 _ _ hz8, hc, sh_nil, hz, hz.win0, fun H10 O os k10 P10 hO hos _ _ => ?_⟩
      have kk : Kp p H5 H10 := (((Kp.of s6).trans k78).trans (Kp.of s9)).trans k10
      obtain ⟨pl, hpl⟩ := P5.lstP
      exact ⟨O, os, rfl, hO, hos, kk L _ nL hL, hts.kp hpl kk, P10, kk F _ (P5.apT hF5) hF5⟩
    rintro _ H6 ⟨O, os, rfl, hO, hos, hL6, hts6, P6, hF6⟩
    -- second
    refine ⟨fun σ H7 => ∃ (M : Addr) (ws : List V) (yss : List (List Int)), σ = [some (.ref p), some (.int m), some (.ref F), some (.int (n : Int)), some (.ref L), some (.ref O), some (.ref M), none] ∧ M ≠ p ∧ H7 M = some (.lst ws) ∧ Ts H7 ws yss ∧ Shs yss ∧ yss.length = n ∧ H7 L = some (.lst us) ∧ Ts H7 us xss ∧ Pen K H7 p sc, ?_, ?_⟩
    · refine ⟨.ref p, rfl, Nat.zero_le _, fun z nz => ?_⟩
      have s7 := same_new (o := .tup []) nz
      refine ⟨.ref F, rfl, .ref O, rfl, small_line (by show 2 ≤ 100000; omega), fun y ny => ?_⟩
      have s8 := same_new (o := .lst [V.ref F, V.ref O]) ny
      have s78 := s7.trans s8
      have P8 := P6.same s78
      refine ⟨.ref p, rfl, p, sc, 2, rfl, P8, by decide, by decide, fun H9 d k9 P9 d0 d1 => ?_⟩
      have hy9 := k9 y _ ((P6.same s7).new ny).1 upd_same
      have hz9 := k9 z _ (P8.apT (s8 _ _ upd_same)) (s8 _ _ upd_same)
      have hF9 := k9 F _ (P8.apT (s78 _ _ hF6)) (s78 _ _ hF6)
      have hO9 := k9 O _ (P8.apT (s78 _ _ hO)) (s78 _ _ hO)
      obtain ⟨B, bs, hv, hB, hbs⟩ : ∃ (B : Addr) (bs : List Int), atI [V.ref F, V.ref O] d = some (.ref B) ∧ H9 B = some (.tup (bs.map V.int)) ∧ Sh bs := by
        rcases (show d = 0 ∨ d = 1 by omega) with rfl | rfl
        · exact ⟨F, fs, rfl, hF9, hfs⟩
        · exact ⟨O, os, rfl, hO9, hos⟩
      refine ⟨y, _, d, _, rfl, rfl, SqL.of hy9, hv, _, rfl, p, sc, z, B, [], bs, n, rfl, P9, hz9, hB, sh_nil, hbs, hbs.win0, by omega, fun H10 M ws yss k10 P10 nM hM htm hshm hlm => ?_⟩
      have kk : Kp p H6 H10 := ((Kp.of s78).trans k9).trans k10
      obtain ⟨pl, hpl⟩ := P6.lstP
      exact ⟨M, ws, yss, rfl, nM, hM, htm, hshm, hlm, kk L _ nL hL6, hts6.kp hpl kk, P10⟩
    rintro _ H7 ⟨M, ws, yss, rfl, nM, hM, htm, hshm, hlm, hL7, hts7, P7⟩
    -- now and then the first one's rest
    refine ⟨fun σ H8 => ∃ (M : Addr) (ws : List V) (yss : List (List Int)), σ = [some (.ref p), some (.int m), some (.ref F), some (.int (n : Int)), some (.ref L), some (.ref O), some (.ref M), none] ∧ M ≠ p ∧ H8 M = some (.lst ws) ∧ Ts H8 ws yss ∧ Shs yss ∧ yss.length = n ∧ H8 L = some (.lst us) ∧ Ts H8 us xss ∧ Pen K H8 p sc, ?_, ?_⟩
    · refine ⟨.ref p, rfl, p, sc, 6, rfl, P7, by decide, by decide, fun H8 d k8 P8 d0 d1 => ?_⟩
      obtain ⟨pl, hpl⟩ := P7.lstP
      have hM8 := k8 M _ nM hM
      have hL8 := k8 L _ nL hL7
      have htm8 := htm.kp hpl k8
      have hts8 := hts7.kp hpl k8
      refine ⟨rfl, _, rfl, ite2 (fun e => ?_) (fun e => ⟨M, ws, yss, rfl, nM, hM8, htm8, hshm, hlm, hL8, hts8, P8⟩)⟩
      refine ⟨.ref L, rfl, _, rfl, L, _, rfl, SqL.of hL8, fun c nc => ?_⟩
      rw [show cutV us none (some 1) = us.take 1 from cut_take (by decide)]
      have s9 := same_new (o := .lst (us.take 1)) nc
      have hcp := (P8.new nc).1
      have hc9 : (upd H8 c (.lst (us.take 1))) c = some (.lst (us.take 1)) := upd_same
      have P9 := P8.same s9
      have hL9 := s9 _ _ hL8
      have hts9 := hts8.same s9
      generalize upd H8 c (.lst (us.take 1)) = H9 at hc9 P9 hL9 hts9 s9 ⊢
      refine ⟨c, rfl, ⟨_, SqL.of hc9⟩, fun D nD => ?_⟩
      have hDn := P9.new nD
      refine lc_it (walk_list (xs := us.take 1)) (fun j H' => Kp p H9 H' ∧ Pen K H' p sc ∧ ∃ zs zss, H' D = some (.lst zs) ∧ Ts H' zs zss ∧ Shs zss ∧ zss.length = j) ?_ (fun j H' _ g => SqL.of (g.1 c _ hcp hc9)) ?_ ?_
      · exact ⟨kp_new nD, P9.same (same_new nD), [], [], upd_same, .nil, (fun x z => absurd z List.not_mem_nil), rfl⟩
      · rintro j v _ H' hj ⟨kk, P', zs, zss, hD, htz, hsz, hl'⟩ ⟨rfl, hv⟩
        obtain ⟨u, xs, rfl, hu, hxs⟩ := (hts9.take 1).at hv
        have hu' := kk u _ (P9.apT hu) hu
        have hxsh : Sh xs := hsh xs (List.mem_of_mem_take (List.mem_of_getElem? hxs))
        have hj1 : j < 1 := by rw [List.length_take] at hj; omega
        refine ⟨rfl, ?_⟩
        simp only [tYes, reduceIte]
        refine ⟨.ref p, rfl, Nat.zero_le _, fun z nz => ?_⟩
        have s10 := same_new (o := .tup []) nz
        have P10 := P'.same s10
        refine ⟨.ref u, rfl, p, sc, z, u, [], xs, rfl, P10, upd_same, s10 _ _ hu', sh_nil, hxsh, hxsh.win0, fun H11 c2 ys2 k11 P11 hc2 hys _ _ => ?_⟩
        have hD11 := k11 D _ hDn.1 (s10 _ _ hD)
        obtain ⟨pl2, hpl2⟩ := P10.lstP
        have ht11 := (htz.same s10).kp hpl2 k11
        refine ⟨zs, hD11, small_lt (by have := htz.len; omega), fun b o n e => ?_, P11.upd hDn, zs ++ [.ref c2], zss ++ [ys2], upd_same, (ht11.kp hD11 kp_upd).app (.cons (kp_upd _ _ (ne_of hc2 hD11 (by intro z; cases z)) hc2) .nil), ?_, by rw [List.length_append, hl']; rfl⟩
        · rw [upd_ne (ne_of_none e nD)]
          exact k11 b o n (s10 _ _ (kk b o n e))
        · intro y m
          rcases List.mem_append.mp m with m | m
          · exact hsz y m
          · have e : y = ys2 := by simpa using m
            rw [e]
            exact hys
      · rintro H' ⟨kk, P', zs, zss, hD, htz, hsz, hl'⟩
        have hL' := kk L _ nL hL9
        obtain ⟨pl2, hpl2⟩ := P9.lstP
        have hts' := hts9.kp hpl2 kk
        refine ⟨.ref L, rfl, _, rfl, L, _, rfl, SqL.of hL', fun c3 nc3 => ?_⟩
        rw [show cutV us (some 1) none = us.drop 1 from cut_drop (by decide)]
        have s12 := same_new (o := .lst (us.drop 1)) nc3
        have hul := hts8.len
        have hzl := htz.len
        rw [List.length_take] at hl'
        refine ⟨D, c3, _, _, rfl, rfl, s12 _ _ hD, upd_same, small_line (by rw [List.length_drop]; omega), fun M2 nM2 => ?_⟩
        have s13 := same_new (o := .lst (zs ++ us.drop 1)) nM2
        have s14 := s12.trans s13
        refine ⟨M2, zs ++ us.drop 1, zss ++ xss.drop 1, rfl, ((P'.same s12).new nM2).1, upd_same, (htz.same s14).app ((hts'.same s14).drop 1), ?_, by rw [List.length_append, List.length_drop]; omega, s14 _ _ hL', hts'.same s14, P'.same s14⟩
        intro y m
        rcases List.mem_append.mp m with m | m
        · exact hsz y m
        · exact hsh y (List.mem_of_mem_drop m)
    rintro _ H8 ⟨M, ws, yss, rfl, nM, hM, htm, hshm, hlm, hL8, hts8, P8⟩
    refine ⟨fun σ H9 => ∃ (M : Addr) (ws : List V) (yss : List (List Int)), σ = [some (.ref p), some (.int m), some (.ref F), some (.int (n : Int)), some (.ref L), some (.ref O), some (.ref M), none] ∧ M ≠ p ∧ H9 M = some (.lst ws) ∧ Ts H9 ws yss ∧ Shs yss ∧ yss.length = n ∧ H9 L = some (.lst us) ∧ Ts H9 us xss ∧ Pen K H9 p sc, ?_, ?_⟩
    · refine ⟨.ref p, rfl, p, sc, 6, rfl, P8, by decide, by decide, fun H9 d k9 P9 d0 d1 => ?_⟩
      obtain ⟨pl, hpl⟩ := P8.lstP
      have hM9 := k9 M _ nM hM
      have hL9 := k9 L _ nL hL8
      have htm9 := htm.kp hpl k9
      have hts9 := hts8.kp hpl k9
      refine ⟨rfl, _, rfl, ite2 (fun e => ?_) (fun e => ⟨M, ws, yss, rfl, nM, hM9, htm9, hshm, hlm, hL9, hts9, P9⟩)⟩
      refine ⟨.ref M, rfl, _, rfl, M, _, rfl, SqL.of hM9, fun c nc => ?_⟩
      rw [show cutV ws none (some 1) = ws.take 1 from cut_take (by decide)]
      have s1 := same_new (o := .lst (ws.take 1)) nc
      refine ⟨.ref M, rfl, _, rfl, M, _, rfl, SqL.of (s1 _ _ hM9), fun c2 nc2 => ?_⟩
      rw [show cutV ws (some 1) none = ws.drop 1 from cut_drop (by decide)]
      have s2 := same_new (o := .lst (ws.drop 1)) nc2
      have s12 := s1.trans s2
      have hc1 : (upd (upd H9 c (.lst (ws.take 1))) c2 (.lst (ws.drop 1))) c = some (.lst (ws.take 1)) := s2 _ _ upd_same
      have hc2 : (upd (upd H9 c (.lst (ws.take 1))) c2 (.lst (ws.drop 1))) c2 = some (.lst (ws.drop 1)) := upd_same
      generalize upd (upd H9 c (.lst (ws.take 1))) c2 (.lst (ws.drop 1)) = H10 at hc1 hc2 s12 ⊢
      refine ⟨c2, rfl, ⟨_, SqL.of hc2⟩, fun D nD => ?_⟩
      have hM10 := s12 _ _ hM9
      have htm10 := htm9.same s12
      have hwl := htm.len
      refine lc_it (walk_list (xs := ws.drop 1)) (fun j H' => Same H10 H' ∧ ∃ zs zss, H' D = some (.lst zs) ∧ Ts H' zs zss ∧ Shs zss ∧ zss.length = j) ?_ (fun j H' _ g => SqL.of (g.1 _ _ hc2)) ?_ ?_
      · exact ⟨same_new nD, [], [], upd_same, .nil, (fun x z => absurd z List.not_mem_nil), rfl⟩
      · rintro j v _ H' hj ⟨ss, zs, zss, hD, htz, hsz, hl'⟩ ⟨rfl, hv⟩
        rw [List.length_drop] at hj
        have h0 : 0 < ws.length := by omega
        obtain ⟨u, xs, hue, hu, hxs⟩ := (htm10.same ss).at (List.getElem?_eq_getElem h0)
        have hxsh : Sh xs := hshm xs (List.mem_of_getElem? hxs)
        refine ⟨rfl, ?_⟩
        simp only [tYes, reduceIte]
        refine ⟨.ref M, rfl, M, _, 0, .ref u, rfl, rfl, SqL.of (ss _ _ hM10), at_get (by decide) (by rw [← hue]; exact List.getElem?_eq_getElem h0), zs, hD, small_lt (by have := htz.len; omega), fun b o e => ?_, zs ++ [.ref u], zss ++ [xs], upd_same, (htz.kp hD kp_upd).app (.cons (kp_upd _ _ (ne_of hu hD (by intro z; cases z)) hu) .nil), ?_, by rw [List.length_append, hl']; rfl⟩
        · rw [upd_ne (ne_of_none e nD)]
          exact ss _ _ e
        · intro y m
          rcases List.mem_append.mp m with m | m
          · exact hsz y m
          · have e : y = xs := by simpa using m
            rw [e]
            exact hxsh
      · rintro H' ⟨ss, zs, zss, hD, htz, hsz, hl'⟩
        have hzl := htz.len
        rw [List.length_drop] at hl'
        have s02 := s12.trans ss
        refine ⟨c, D, _, _, rfl, rfl, ss _ _ hc1, hD, small_line (by rw [List.length_take]; omega), fun M2 nM2 => ?_⟩
        have s13 := same_new (o := .lst (ws.take 1 ++ zs)) nM2
        have s14 := s02.trans s13
        refine ⟨M2, ws.take 1 ++ zs, yss.take 1 ++ zss, rfl, ((P9.same s02).new nM2).1, upd_same, ((htm9.same s14).take 1).app (htz.same s13), ?_, by rw [List.length_append, List.length_take]; omega, s14 _ _ hL9, hts9.same s14, P9.same s14⟩
        intro y m
        rcases List.mem_append.mp m with m | m
        · exact hshm y (List.mem_of_mem_take m)
        · exact hsz y m
    rintro _ H9 ⟨M, ws, yss, rfl, nM, hM, htm, hshm, hlm, hL9, hts9, P9⟩
    refine ⟨.ref L, rfl, .ref M, rfl, small_line (by show 2 ≤ 100000; omega), fun t nt => ?_⟩
    have s10 := same_new (o := .tup [V.ref L, V.ref M]) nt
    exact q _ t L M us ws xss yss (P9.same s10) upd_same (s10 _ _ hL9) (s10 _ _ hM) (hts9.same s10) (htm.same s10) hsh hshm (by omega) (by omega)
/-! ### rows, the lesser or the longer -/
def pick (way : Nat) (x y : Int) : Int := if way = 0 then mnI x y else mxI x y
def rr (way : Nat) (xs ys : List Int) : List Int := (List.range (max xs.length ys.length)).map fun k => pick way (rw' xs k) (rw' ys k)
def oper (way : Nat) (xs ys : List Int) : List Int := if way = 0 then K13.mt xs ys else jn xs ys
theorem rr_cons (way : Nat) (x y : Int) (xs ys : List Int) : rr way (x :: xs) (y :: ys) = pick way x y :: rr way xs ys := by
  unfold rr
  rw [List.length_cons, List.length_cons, show max (xs.length + 1) (ys.length + 1) = max xs.length ys.length + 1 by omega, List.range_succ_eq_map, List.map_cons, List.map_map]
  rfl
theorem rr_nil (way : Nat) (ys : List Int) : rr way [] ys = ys.map (pick way 0) := by
  unfold rr
  refine List.ext_getElem (by simp) fun i h1 h2 => ?_
  rw [List.length_map] at h2
  simp only [List.getElem_map, List.getElem_range, rw_nil, rw_at h2]
theorem rr_nil' (way : Nat) (xs : List Int) : rr way xs [] = xs.map (fun x => pick way x 0) := by
  unfold rr
  refine List.ext_getElem (by simp) fun i h1 h2 => ?_
  rw [List.length_map] at h2
  simp only [List.getElem_map, List.getElem_range, rw_nil, rw_at h2]
theorem pos_id : ∀ {xs : List Int}, (∀ x ∈ xs, 1 ≤ x) → pos xs = xs
  | [], _ => rfl
  | x :: xs, h => by
    show pos ([x] ++ xs) = _
    rw [pos_app, pos_1 (by have := h x List.mem_cons_self; omega), pos_id fun y m => h y (List.mem_cons_of_mem _ m)]
    rfl
theorem pos_zero : ∀ {xs : List Int}, (∀ x ∈ xs, x = 0) → pos xs = []
  | [], _ => rfl
  | x :: xs, h => by
    show pos ([x] ++ xs) = _
    rw [pos_app, pos_0 (by have := h x List.mem_cons_self; omega), pos_zero fun y m => h y (List.mem_cons_of_mem _ m)]
    rfl
theorem map_same {g : Int → Int} {xs : List Int} (h : ∀ x ∈ xs, g x = x) : xs.map g = xs :=
  (List.map_congr_left (g := id) fun y m => h y m).trans (List.map_id _)
theorem rr_oper {way : Nat} : ∀ {xs ys : List Int}, (∀ x ∈ xs, 1 ≤ x) → (∀ y ∈ ys, 1 ≤ y) → pos (rr way xs ys) = oper way xs ys
  | [], ys, _, hy => by
    rw [rr_nil]
    unfold oper
    by_cases c : way = 0
    · rw [if_pos c, pos_zero]
      · rfl
      · intro x m
        obtain ⟨y, my, rfl⟩ := List.mem_map.mp m
        have := hy y my
        unfold pick mnI
        rw [if_pos c, if_neg (by omega)]
    · rw [if_neg c, jn_nil, map_same, pos_id hy]
      intro y my
      have := hy y my
      unfold pick mxI
      rw [if_neg c, if_pos (by omega)]
  | x :: xs, [], hx, _ => by
    rw [rr_nil']
    unfold oper
    by_cases c : way = 0
    · rw [if_pos c, pos_zero]
      · rfl
      · intro z m
        obtain ⟨y, my, rfl⟩ := List.mem_map.mp m
        have := hx y my
        unfold pick mnI
        rw [if_pos c, if_pos (by omega)]
    · rw [if_neg c, jn_nil', map_same, pos_id hx]
      intro y my
      have := hx y my
      unfold pick mxI
      rw [if_neg c, if_neg (by omega)]
  | x :: xs, y :: ys, hx, hy => by
    have ih := rr_oper (way := way) (xs := xs) (ys := ys) (fun z m => hx z (List.mem_cons_of_mem _ m)) (fun z m => hy z (List.mem_cons_of_mem _ m))
    have h1 := hx x List.mem_cons_self
    have h2 := hy y List.mem_cons_self
    have hp : 0 < pick way x y := by
      unfold pick mnI mxI
      repeat' split
      all_goals omega
    rw [rr_cons]
    show pos ([pick way x y] ++ rr way xs ys) = _
    rw [pos_app, pos_1 hp, ih]
    unfold oper pick
    by_cases c : way = 0
    · simp only [if_pos c]
      rfl
    · simp only [if_neg c]
      rw [jn_cons]
      rfl
theorem sort2 {ns : List Int} {x y : Int} (h : ns.Perm [x, y]) (hs : ns.Pairwise (· ≤ ·)) : ns = [mnI x y, mxI x y] := by
  match ns, h.length_eq, h, hs with
  | [u, v], _, h, hs =>
    have h1 : u ≤ v := (List.pairwise_cons.mp hs).1 v List.mem_cons_self
    have a1 : u = x ∨ u = y := by simpa using h.mem_iff.mp (show u ∈ [u, v] by simp)
    have a2 : v = x ∨ v = y := by simpa using h.mem_iff.mp (show v ∈ [u, v] by simp)
    have a3 : x = u ∨ x = v := by simpa using h.mem_iff.mpr (show x ∈ [x, y] by simp)
    have a4 : y = u ∨ y = v := by simpa using h.mem_iff.mpr (show y ∈ [x, y] by simp)
    unfold mnI mxI
    congr 1
    · split <;> omega
    · congr 1
      split <;> omega
def sp_law_rows (K : PySem.W.Frag) : Sp := fun vs H Q _ => ∃ (a b : Addr) (xs ys : List Int) (way : Nat), vs = [.ref a, .ref b, .int (way : Int)] ∧ H a = some (.tup (xs.map V.int)) ∧ H b = some (.tup (ys.map V.int)) ∧ Sh xs ∧ Sh ys ∧ way < 2 ∧
  ∀ H' c, Same H H' → H' c = some (.tup ((oper way xs ys).map V.int)) → Q (.ref c) H'
theorem ok_law_rows (T : Txt K mg f fd) : FnOk P w K mg base CX0 2 (f 15) (fd 15) ["_law_one", "_law_other", "_law_way"] (sp_law_rows K) := by
  refine T.F15.ok sc_law_rows (fun vs H Q E h => ?_) (fun cdv A outer s H vs Q E hr h => ?_)
  · obtain ⟨a, b, xs, ys, way, rfl, _⟩ := h
    rfl
  · obtain ⟨a, b, xs, ys, way, rfl, ha, hb, hx, hy, hw, q⟩ := h
    have hxn := hx.n
    have hyn := hy.n
    refine ⟨_, (pss_cons (ps_set (i := 3) sc_law_rows.nd rfl (Or.inl rfl) (pe_lst pa_nil))
      (pss_cons (ps_for PassesOwn.never rfl (pi_range1 (by rfl) T.m_range (pa_cons (pe_callB (call_max2 rfl) (by rfl) T.m_max bt_max (pa_cons (pe_callB (r := rLenS K) len_seq (by rfl) T.m_len bt_len (pa_cons (pv 0) pa_nil)) (pa_cons (pe_callB (r := rLenS K) len_seq (by rfl) T.m_len bt_len (pa_cons (pv 1) pa_nil)) pa_nil))) pa_nil)) (pg_name (i := 4) sc_law_rows.nd rfl (Or.inl rfl)) (pss_cons (ps_set (i := 5) sc_law_rows.nd rfl (Or.inl rfl) (pe_callB (r := rSorted K) cr_sorted (by rfl) T.m_sorted bt_sorted (pa_cons (pe_lst (pa_cons (pe_call (ok_law_row T) (hr.mono (by decide)) (by rfl) T.g9 T.F9.kp T.b9 .nil pass0 (pa_cons (pv 0) (pa_cons (pv 4) pa_nil))) (pa_cons (pe_call (ok_law_row T) (hr.mono (by decide)) (by rfl) T.g9 T.F9.kp T.b9 .nil pass0 (pa_cons (pv 1) (pa_cons (pv 4) pa_nil))) pa_nil))) pa_nil)))
      (pss_one (ps_expr (pe_bm PySem.F.plainAttrs_list PySem.F.slot_list_append PySem.F.type_list_append mt_append (pv 3) (pa_cons (pe_ix (r := rIxL K) ix_list (pv 5) (pv 2) (fun _ _ => rfl)) pa_nil))))))
      (pss_one (ps_ret (pe_callTy (r := rTupO K) tup_of (by rfl) T.m_tuple bt_tuple (pa_cons (pe_lc (own := [("_law_length", 6)]) (g := (gName 6)) rfl sc_law_rows.nd (pi_list (pv 3)) (blkOk_by (N := N_law_rows) (sc := defScope st_law_rows) (by decide +kernel)) (fun _ _ _ _ _ => (pg_name (i := 6) sc_law_rows.nd rfl (Or.inl rfl))) (fun _ _ _ _ _ => pts_one (pt_cmpR op_gt (pv 6) pe_int (nomark _))) (fun _ _ _ _ _ => (pv 6))) pa_nil)))))), ?_⟩
    refine ⟨Nat.zero_le _, fun R nR => ?_⟩
    have s0 := same_new (o := .lst []) nR
    refine ⟨.ref a, rfl, a, _, rfl, .inr (SqT.of (s0 _ _ ha)), .ref b, rfl, b, _, rfl, .inr (SqT.of (s0 _ _ hb)), _, _, rfl, _, rfl, ?_, ?_, ?_⟩
    · rw [List.length_map, List.length_map]; split <;> omega
    · rw [List.length_map, List.length_map]; split <;> omega
    have hN : (if ((ys.map V.int).length : Int) > ((xs.map V.int).length : Int) then ((ys.map V.int).length : Int) else ((xs.map V.int).length : Int)).toNat = max xs.length ys.length := by
      rw [List.length_map, List.length_map]
      split <;> omega
    refine for_range (fun i σ H3 => ∃ o4 o5 : Option V, σ = [some (.ref a), some (.ref b), some (.int (way : Int)), some (.ref R), o4, o5, none] ∧ Same H H3 ∧ H3 R = some (.lst (((List.range i).map fun k => pick way (rw' xs k) (rw' ys k)).map V.int))) ?_ ?_ ?_
    · exact ⟨none, none, rfl, s0, upd_same⟩
    · rintro i _ H3 hi ⟨o4, o5, rfl, s3, hR⟩
      have hi' : i < max xs.length ys.length := by have := hi; omega
      refine ⟨.ref a, rfl, _, rfl, a, xs, i, (by rw [Int.zero_add]; rfl), s3 _ _ ha, by omega, fun H4 s4 => ?_⟩
      refine ⟨.ref b, rfl, _, rfl, b, ys, i, (by rw [Int.zero_add]; rfl), s4 _ _ (s3 _ _ hb), by omega, fun H5 s5 => ?_⟩
      refine ⟨small_line (by show 2 ≤ 100000; omega), fun z nz => ?_⟩
      have s6 := same_new (o := .lst [V.int (rw' xs i), V.int (rw' ys i)]) nz
      refine ⟨z, [rw' xs i, rw' ys i], rfl, SqL.of upd_same, by show 2 < 64; omega, fun ns' y perm ris ny => ?_⟩
      obtain rfl := sort2 perm ris
      have s7 := same_new (o := .lst ([mnI (rw' xs i) (rw' ys i), mxI (rw' xs i) (rw' ys i)].map V.int)) ny
      have s47 := ((s4.trans s5).trans s6).trans s7
      have hR7 := s47 _ _ hR
      refine ⟨.ref R, rfl, .inl ⟨rfl, _, SqL.of hR7⟩, .ref y, rfl, _, rfl, y, _, _, .int (pick way (rw' xs i) (rw' ys i)), rfl, rfl, SqL.of upd_same, ?_, R, _, _, rfl, rfl, hR7, small_lt (by rw [List.length_map, List.length_map, List.length_range]; omega), ?_⟩
      · rcases (show way = 0 ∨ way = 1 by omega) with rfl | rfl <;> rfl
      · refine ⟨_, _, rfl, fun b o e => ?_, ?_⟩
        · rw [upd_ne (ne_of_none e nR)]
          exact s47 _ _ (s3 _ _ e)
        · rw [upd_same, List.range_succ, List.map_append, List.map_append]
          rfl
    · rintro _ H3 ⟨o4, o5, rfl, s3, hR⟩
      rw [hN] at hR
      have hR' : H3 R = some (.lst ((rr way xs ys).map V.int)) := hR
      have hrl : (rr way xs ys).length ≤ 20 := by
        unfold rr
        rw [List.length_map, List.length_range]
        omega
      refine ⟨.ref R, rfl, R, rfl, ⟨_, SqL.of hR'⟩, fun D nD => ?_⟩
      refine lc_it (walk_list (xs := (rr way xs ys).map V.int)) (Grow H3 D (fun i => (pos ((rr way xs ys).take i)).map V.int)) (Grow.start nD rfl) (fun i H' _ g => SqL.of (g.1 _ _ hR')) ?_ ?_
      · rintro i v _ H4 hi g ⟨rfl, hv⟩
        rw [List.length_map] at hi
        rw [List.getElem?_map, List.getElem?_eq_getElem hi] at hv
        cases hv
        have htk : (rr way xs ys).take (i + 1) = (rr way xs ys).take i ++ [(rr way xs ys)[i]] := by rw [List.take_add_one, List.getElem?_eq_getElem hi]; rfl
        refine ⟨rfl, _, rfl, _, _, rfl, rfl, _, rfl, ite2 (fun e => ?_) (fun e => ?_)⟩
        · have e1 : 0 < (rr way xs ys)[i] := of_decide_eq_true e
          refine ⟨_, rfl, _, g.2, ?_, g.put nD (Same.refl _) ?_⟩
          · rw [List.length_map]
            have := pos_len ((rr way xs ys).take i)
            rw [List.length_take] at this
            exact small_lt (by omega)
          · show (pos ((rr way xs ys).take (i + 1))).map V.int = _
            rw [htk, pos_app, List.map_append, pos_1 e1]
            rfl
        · have e1 : ¬ 0 < (rr way xs ys)[i] := fun z => e (decide_eq_true z)
          refine g.skip (Same.refl _) ?_
          show (pos ((rr way xs ys).take (i + 1))).map V.int = (pos ((rr way xs ys).take i)).map V.int
          rw [htk, pos_app, pos_0 e1, List.append_nil]
      · intro H4 g
        have g2 := g.2
        dsimp only at g2
        rw [List.length_map, List.take_of_length_le (Nat.le_refl _), rr_oper (fun x m => (hx.a x m).1) (fun x m => (hy.a x m).1)] at g2
        exact ⟨D, _, rfl, .inl ⟨SqL.of g2, fun t nt => q _ t ((s3.trans g.1).trans (same_new nt)) upd_same⟩⟩
/-! ### joined_shares, met_shares -/
def sp_joined_shares : Sp := fun vs H Q _ => ∃ (a b : Addr) (xs ys : List Int), vs = [.ref a, .ref b] ∧ H a = some (.tup (xs.map V.int)) ∧ H b = some (.tup (ys.map V.int)) ∧ Rng xs ∧ Rng ys ∧
  ∀ H' c, Same H H' → H' c = some (.tup ((jn xs ys).map V.int)) → Q (.ref c) H'
theorem ok_joined_shares (T : Txt K mg f fd) : FnOk P w K mg base CX0 1 (f 1) (fd 1) ["one", "other"] sp_joined_shares := by
  refine T.F1.ok scjoined_shares (fun vs H Q E h => ?_) (fun cdv A outer s H vs Q E hr h => ?_)
  · obtain ⟨a, b, xs, ys, rfl, _⟩ := h
    rfl
  · obtain ⟨a, b, xs, ys, rfl, ha, hb, hx, hy, q⟩ := h
    have hxn := hx.n
    have hyn := hy.n
    refine ⟨_, (pss_cons (ps_set (i := 2) scjoined_shares.nd rfl (Or.inl rfl) (pe_callTy (r := rTupO K) tup_of (by rfl) T.m_tuple bt_tuple (pa_cons (pe_lc (own := [("length", 3), ("limit", 4)]) (g := (gTup _ 2 (gCons (gName 3) (gCons (gName 4) gNil)))) (tt := tYes) rfl scjoined_shares.nd (pi_zipA (by rfl) T.m_zip (pa_cons (pv 0) (pa_cons (pv 1) pa_nil))) (blkOk_by (N := Njoined_shares) (sc := defScope stjoined_shares) (by decide +kernel)) (fun _ _ _ _ _ => (pg_tup rfl (pgs_cons (pg_name (i := 3) scjoined_shares.nd rfl (Or.inl rfl)) (pgs_cons (pg_name (i := 4) scjoined_shares.nd rfl (Or.inl rfl)) pgs_nil)))) (fun _ _ _ _ _ => pts_nil) (fun _ _ _ _ _ => (pe_callB (call_max2 rfl) (by rfl) T.m_max bt_max (pa_cons (pv 3) (pa_cons (pv 4) pa_nil))))) pa_nil)))
      (pss_one (ps_ret (pe_op (r := rCatA K) op_catA (pe_op (r := rCatA K) op_catA (pv 2) (pe_slice (r := rSlA K) sl_tupA (pv 0) (po_some (pe_callB (r := rLenS K) len_seq (by rfl) T.m_len bt_len (pa_cons (pv 2) pa_nil))) po_none)) (pe_slice (r := rSlA K) sl_tupA (pv 1) (po_some (pe_callB (r := rLenS K) len_seq (by rfl) T.m_len bt_len (pa_cons (pv 2) pa_nil))) po_none))))), ?_⟩
    refine ⟨.ref a, rfl, .ref b, rfl, a, b, _, _, rfl, .inr ⟨SqT.of ha, SqT.of hb, fun D nD => ?_⟩⟩
    refine lc_it (walk_zipT (xs := xs.map V.int) (ys := ys.map V.int)) (Grow H D (fun i => ((List.zipWith mxI xs ys).take i).map V.int)) (Grow.start nD rfl) (fun i H' _ g => ⟨SqT.of (g.1 _ _ ha), SqT.of (g.1 _ _ hb)⟩) ?_ ?_
    · rintro i v H1 H2 hi g ⟨t, x, y, rfl, nt, rfl, h1, h2⟩
      rw [List.length_map, List.length_map] at hi
      have i1 : i < xs.length := by omega
      have i2 : i < ys.length := by omega
      dsimp only at h1 h2
      rw [List.getElem?_map, List.getElem?_eq_getElem i1] at h1
      rw [List.getElem?_map, List.getElem?_eq_getElem i2] at h2
      cases h1
      cases h2
      refine ⟨t, _, rfl, SqT.of upd_same, rfl, _, _, rfl, _, _, rfl, rfl, rfl, ?_⟩
      simp only [tYes, reduceIte]
      have s1 : Same H1 (upd H1 t (.tup [V.int xs[i], V.int ys[i]])) := same_new nt
      refine ⟨_, rfl, _, rfl, _, _, rfl, _, s1 _ _ g.2, ?_, g.put nD s1 ?_⟩
      · rw [List.length_map, List.length_take, List.length_zipWith]
        exact small_lt (by omega)
      · try dsimp only
        rw [List.take_add_one, List.map_append, List.getElem?_zipWith, List.getElem?_eq_getElem i1, List.getElem?_eq_getElem i2]
        rfl
    · intro H1 g
      have g2 := g.2
      dsimp only at g2
      rw [List.length_map, List.length_map, List.take_of_length_le (by rw [List.length_zipWith]; exact Nat.le_refl _)] at g2
      refine ⟨D, _, rfl, .inl ⟨SqL.of g2, fun t nt => ?_⟩⟩
      have s2 := same_new (o := .tup ((List.zipWith mxI xs ys).map V.int)) nt
      have ht : (upd H1 t (.tup ((List.zipWith mxI xs ys).map V.int))) t = some (.tup ((List.zipWith mxI xs ys).map V.int)) := upd_same
      generalize upd H1 t (.tup ((List.zipWith mxI xs ys).map V.int)) = H2 at s2 ht ⊢
      have ha2 := s2 _ _ (g.1 _ _ ha)
      have hb2 := s2 _ _ (g.1 _ _ hb)
      have zl : (List.zipWith mxI xs ys).length ≤ 20 := by rw [List.length_zipWith]; omega
      refine ⟨.ref t, rfl, .ref a, rfl, .ref t, rfl, t, _, rfl, .inr (SqT.of ht), _, rfl, ?_⟩
      unfold tNoPart
      refine rd_slA (K := K) ha2 fun H3 c3 s3 hc3 => ?_
      rw [cut_drop (by omega), Int.toNat_natCast, List.length_map, ← List.map_drop] at hc3
      refine rd_catA (s3 _ _ ht) hc3 (small_line (by rw [List.length_map, List.length_map, List.length_drop]; omega)) fun H4 c4 s4 hc4 => ?_
      refine ⟨.ref b, rfl, .ref t, rfl, t, _, rfl, .inr (SqT.of (s4 _ _ (s3 _ _ ht))), _, rfl, ?_⟩
      refine rd_slA (K := K) (s4 _ _ (s3 _ _ hb2)) fun H5 c5 s5 hc5 => ?_
      rw [cut_drop (by omega), Int.toNat_natCast, List.length_map, ← List.map_drop] at hc5
      refine rd_catA (s5 _ _ hc4) hc5 (small_line (by rw [List.length_append, List.length_map, List.length_map, List.length_map, List.length_drop, List.length_drop]; omega)) fun H6 c6 s6 hc6 => ?_
      rw [← List.map_append, ← List.map_append] at hc6
      exact q H6 c6 (((((g.1.trans s2).trans s3).trans s4).trans s5).trans s6) hc6
def sp_met_shares : Sp := fun vs H Q _ => ∃ (a b : Addr) (xs ys : List Int), vs = [.ref a, .ref b] ∧ H a = some (.tup (xs.map V.int)) ∧ H b = some (.tup (ys.map V.int)) ∧ Rng xs ∧ Rng ys ∧
  ∀ H' c, Same H H' → H' c = some (.tup ((K13.mt xs ys).map V.int)) → Q (.ref c) H'
theorem ok_met_shares (T : Txt K mg f fd) : FnOk P w K mg base CX0 1 (f 2) (fd 2) ["one", "other"] sp_met_shares := by
  refine T.F2.ok scmet_shares (fun vs H Q E h => ?_) (fun cdv A outer s H vs Q E hr h => ?_)
  · obtain ⟨a, b, xs, ys, rfl, _⟩ := h
    rfl
  · obtain ⟨a, b, xs, ys, rfl, ha, hb, hx, hy, q⟩ := h
    have hxn := hx.n
    have hyn := hy.n
    refine ⟨_, (pss_one (ps_ret (pe_callTy (r := rTupO K) tup_of (by rfl) T.m_tuple bt_tuple (pa_cons (pe_lc (own := [("length", 2), ("limit", 3)]) (g := (gTup _ 2 (gCons (gName 2) (gCons (gName 3) gNil)))) (tt := tYes) rfl scmet_shares.nd (pi_zipA (by rfl) T.m_zip (pa_cons (pv 0) (pa_cons (pv 1) pa_nil))) (blkOk_by (N := Nmet_shares) (sc := defScope stmet_shares) (by decide +kernel)) (fun _ _ _ _ _ => (pg_tup rfl (pgs_cons (pg_name (i := 2) scmet_shares.nd rfl (Or.inl rfl)) (pgs_cons (pg_name (i := 3) scmet_shares.nd rfl (Or.inl rfl)) pgs_nil)))) (fun _ _ _ _ _ => pts_nil) (fun _ _ _ _ _ => (pe_callB (call_min2 rfl) (by rfl) T.m_min bt_min (pa_cons (pv 2) (pa_cons (pv 3) pa_nil))))) pa_nil)))), ?_⟩
    refine ⟨.ref a, rfl, .ref b, rfl, a, b, _, _, rfl, .inr ⟨SqT.of ha, SqT.of hb, fun D nD => ?_⟩⟩
    refine lc_it (walk_zipT (xs := xs.map V.int) (ys := ys.map V.int)) (Grow H D (fun i => ((List.zipWith mnI xs ys).take i).map V.int)) (Grow.start nD rfl) (fun i H' _ g => ⟨SqT.of (g.1 _ _ ha), SqT.of (g.1 _ _ hb)⟩) ?_ ?_
    · rintro i v H1 H2 hi g ⟨t, x, y, rfl, nt, rfl, h1, h2⟩
      rw [List.length_map, List.length_map] at hi
      have i1 : i < xs.length := by omega
      have i2 : i < ys.length := by omega
      dsimp only at h1 h2
      rw [List.getElem?_map, List.getElem?_eq_getElem i1] at h1
      rw [List.getElem?_map, List.getElem?_eq_getElem i2] at h2
      cases h1
      cases h2
      refine ⟨t, _, rfl, SqT.of upd_same, rfl, _, _, rfl, _, _, rfl, rfl, rfl, ?_⟩
      simp only [tYes, reduceIte]
      have s1 : Same H1 (upd H1 t (.tup [V.int xs[i], V.int ys[i]])) := same_new nt
      refine ⟨_, rfl, _, rfl, _, _, rfl, _, s1 _ _ g.2, ?_, g.put nD s1 ?_⟩
      · rw [List.length_map, List.length_take, List.length_zipWith]
        exact small_lt (by omega)
      · try dsimp only
        rw [List.take_add_one, List.map_append, List.getElem?_zipWith, List.getElem?_eq_getElem i1, List.getElem?_eq_getElem i2]
        rfl
    · intro H1 g
      have g2 := g.2
      dsimp only at g2
      rw [List.length_map, List.length_map, List.take_of_length_le (by rw [List.length_zipWith]; exact Nat.le_refl _)] at g2
      exact ⟨D, _, rfl, .inl ⟨SqL.of g2, fun t nt => q _ t (g.1.trans (same_new nt)) upd_same⟩⟩
theorem Sh.rng {xs : List Int} (h : Sh xs) : Rng xs := ⟨h.n, h.a⟩
/-! ### joined_stacks, met_stacks -/
def sp_stacks (way : Nat) : Sp := fun vs H Q _ => ∃ (L M : Addr) (us ws : List V) (xss yss : List (List Int)), vs = [.ref L, .ref M] ∧ H L = some (.lst us) ∧ H M = some (.lst ws) ∧ Ts H us xss ∧ Ts H ws yss ∧ Shs xss ∧ Shs yss ∧ xss.length ≤ 1000 ∧
  ∀ H' D zs, Same H H' → H D = none → H' D = some (.lst zs) → Ts H' zs (List.zipWith (oper way) xss yss) → Q (.ref D) H'
theorem ok_met_stacks (T : Txt K mg f fd) : FnOk P w K mg base CX0 2 (f 5) (fd 5) ["some", "others"] (sp_stacks 0) := by
  refine T.F5.ok scmet_stacks (fun vs H Q E h => ?_) (fun cdv A outer s H vs Q E hr h => ?_)
  · obtain ⟨L, M, us, ws, xss, yss, rfl, _⟩ := h
    rfl
  · obtain ⟨L, M, us, ws, xss, yss, rfl, hL, hM, hu, hv, hx, hy, hn, q⟩ := h
    have hul := hu.len
    have hvl := hv.len
    refine ⟨_, (pss_one (ps_ret (pe_lc (own := [("one", 2), ("other", 3)]) (g := (gTup _ 2 (gCons (gName 2) (gCons (gName 3) gNil)))) (tt := tYes) rfl scmet_stacks.nd (pi_zipA (by rfl) T.m_zip (pa_cons (pv 0) (pa_cons (pv 1) pa_nil))) (blkOk_by (N := Nmet_stacks) (sc := defScope stmet_stacks) (by decide +kernel)) (fun _ _ _ _ _ => (pg_tup rfl (pgs_cons (pg_name (i := 2) scmet_stacks.nd rfl (Or.inl rfl)) (pgs_cons (pg_name (i := 3) scmet_stacks.nd rfl (Or.inl rfl)) pgs_nil)))) (fun _ _ _ _ _ => pts_nil) (fun _ _ _ _ _ => (pe_call (ok_met_shares T) (hr.mono (by decide)) (by rfl) T.g2 T.F2.kp T.b2 .nil pass0 (pa_cons (pv 2) (pa_cons (pv 3) pa_nil))))))), ?_⟩
    refine ⟨.ref L, rfl, .ref M, rfl, L, M, _, _, rfl, .inl ⟨SqL.of hL, SqL.of hM, fun D nD => ?_⟩⟩
    refine lc_it (walk_zip (xs := us) (ys := ws) rfl) (fun j H' => Same H H' ∧ ∃ zs, H' D = some (.lst zs) ∧ Ts H' zs ((List.zipWith (oper 0) xss yss).take j)) ?_ (fun j H' _ g => ⟨SqL.of (g.1 _ _ hL), SqL.of (g.1 _ _ hM)⟩) ?_ ?_
    · exact ⟨same_new nD, [], upd_same, .nil⟩
    · rintro j v H1 H2 hj ⟨s1, zs, hD, htz⟩ ⟨t, x, y, rfl, nt, rfl, h1, h2⟩
      obtain ⟨a, xs, rfl, ha, hxs⟩ := (hu.same s1).at h1
      obtain ⟨b, ys, rfl, hb, hys⟩ := (hv.same s1).at h2
      refine ⟨t, _, rfl, SqT.of upd_same, rfl, _, _, rfl, _, _, rfl, rfl, rfl, ?_⟩
      simp only [tYes, reduceIte]
      have s2 := same_new (o := .tup [V.ref a, V.ref b]) nt
      refine ⟨.ref a, rfl, .ref b, rfl, a, b, xs, ys, rfl, s2 _ _ ha, s2 _ _ hb, (hx xs (List.mem_of_getElem? hxs)).rng, (hy ys (List.mem_of_getElem? hys)).rng, fun H3 c s3 hc => ?_⟩
      have s23 := s2.trans s3
      have hD3 := s23 _ _ hD
      have hzl := htz.len
      rw [List.length_take] at hzl
      refine ⟨zs, hD3, small_lt (by omega), fun b o e => ?_, zs ++ [.ref c], upd_same, ?_⟩
      · rw [upd_ne (ne_of_none e nD)]
        exact s23 _ _ (s1 _ _ e)
      · have e : (List.zipWith (oper 0) xss yss)[j]? = some (oper 0 xs ys) := by rw [List.getElem?_zipWith, hxs, hys]
        rw [List.take_add_one, e]
        exact ((htz.same s23).kp hD3 kp_upd).app (.cons (kp_upd _ _ (ne_of hc hD3 (by intro z; cases z)) hc) .nil)
    · rintro H1 ⟨s1, zs, hD, htz⟩
      rw [List.take_of_length_le (by rw [List.length_zipWith]; omega)] at htz
      exact q _ D zs s1 nD hD htz
theorem ok_joined_stacks (T : Txt K mg f fd) : FnOk P w K mg base CX0 2 (f 4) (fd 4) ["some", "others"] (sp_stacks 1) := by
  refine T.F4.ok scjoined_stacks (fun vs H Q E h => ?_) (fun cdv A outer s H vs Q E hr h => ?_)
  · obtain ⟨L, M, us, ws, xss, yss, rfl, _⟩ := h
    rfl
  · obtain ⟨L, M, us, ws, xss, yss, rfl, hL, hM, hu, hv, hx, hy, hn, q⟩ := h
    have hul := hu.len
    have hvl := hv.len
    refine ⟨_, (pss_one (ps_ret (pe_lc (own := [("one", 2), ("other", 3)]) (g := (gTup _ 2 (gCons (gName 2) (gCons (gName 3) gNil)))) (tt := tYes) rfl scjoined_stacks.nd (pi_zipA (by rfl) T.m_zip (pa_cons (pv 0) (pa_cons (pv 1) pa_nil))) (blkOk_by (N := Njoined_stacks) (sc := defScope stjoined_stacks) (by decide +kernel)) (fun _ _ _ _ _ => (pg_tup rfl (pgs_cons (pg_name (i := 2) scjoined_stacks.nd rfl (Or.inl rfl)) (pgs_cons (pg_name (i := 3) scjoined_stacks.nd rfl (Or.inl rfl)) pgs_nil)))) (fun _ _ _ _ _ => pts_nil) (fun _ _ _ _ _ => (pe_call (ok_joined_shares T) (hr.mono (by decide)) (by rfl) T.g1 T.F1.kp T.b1 .nil pass0 (pa_cons (pv 2) (pa_cons (pv 3) pa_nil))))))), ?_⟩
    refine ⟨.ref L, rfl, .ref M, rfl, L, M, _, _, rfl, .inl ⟨SqL.of hL, SqL.of hM, fun D nD => ?_⟩⟩
    refine lc_it (walk_zip (xs := us) (ys := ws) rfl) (fun j H' => Same H H' ∧ ∃ zs, H' D = some (.lst zs) ∧ Ts H' zs ((List.zipWith (oper 1) xss yss).take j)) ?_ (fun j H' _ g => ⟨SqL.of (g.1 _ _ hL), SqL.of (g.1 _ _ hM)⟩) ?_ ?_
    · exact ⟨same_new nD, [], upd_same, .nil⟩
    · rintro j v H1 H2 hj ⟨s1, zs, hD, htz⟩ ⟨t, x, y, rfl, nt, rfl, h1, h2⟩
      obtain ⟨a, xs, rfl, ha, hxs⟩ := (hu.same s1).at h1
      obtain ⟨b, ys, rfl, hb, hys⟩ := (hv.same s1).at h2
      refine ⟨t, _, rfl, SqT.of upd_same, rfl, _, _, rfl, _, _, rfl, rfl, rfl, ?_⟩
      simp only [tYes, reduceIte]
      have s2 := same_new (o := .tup [V.ref a, V.ref b]) nt
      refine ⟨.ref a, rfl, .ref b, rfl, a, b, xs, ys, rfl, s2 _ _ ha, s2 _ _ hb, (hx xs (List.mem_of_getElem? hxs)).rng, (hy ys (List.mem_of_getElem? hys)).rng, fun H3 c s3 hc => ?_⟩
      have s23 := s2.trans s3
      have hD3 := s23 _ _ hD
      have hzl := htz.len
      rw [List.length_take] at hzl
      refine ⟨zs, hD3, small_lt (by omega), fun b o e => ?_, zs ++ [.ref c], upd_same, ?_⟩
      · rw [upd_ne (ne_of_none e nD)]
        exact s23 _ _ (s1 _ _ e)
      · have e : (List.zipWith (oper 1) xss yss)[j]? = some (oper 1 xs ys) := by rw [List.getElem?_zipWith, hxs, hys]
        rw [List.take_add_one, e]
        exact ((htz.same s23).kp hD3 kp_upd).app (.cons (kp_upd _ _ (ne_of hc hD3 (by intro z; cases z)) hc) .nil)
    · rintro H1 ⟨s1, zs, hD, htz⟩
      rw [List.take_of_length_le (by rw [List.length_zipWith]; omega)] at htz
      exact q _ D zs s1 nD hD htz
theorem held_met (T : Txt K mg f fd) : Held P w K mg base 2 (f 5) (sp_stacks 0) := ⟨_, _, ok_met_stacks T, T.F5.kp, T.b5⟩
theorem held_joined (T : Txt K mg f fd) : Held P w K mg base 2 (f 4) (sp_stacks 1) := ⟨_, _, ok_joined_stacks T, T.F4.kp, T.b4⟩
/-! ### data of lists of shares -/
abbrev dS (xs : List Int) : PyData := .tuple (xs.map PyData.int)
abbrev dL (xss : List (List Int)) : PyData := .list (xss.map dS)
theorem dpAll_ts {H : Hp} {vs : List V} {xss : List (List Int)} (h : Ts H vs xss) : DpAll K H vs (xss.map dS) := by
  induction h with
  | nil => exact .nil
  | cons e _ ih => exact .cons (dp_tup (SqT.of e)) ih
theorem oper_sh {way : Nat} {xs ys : List Int} (hx : Sh xs) (hy : Sh ys) : (oper way xs ys).length ≤ 20 ∧ ∀ z ∈ oper way xs ys, 1 ≤ z ∧ z ≤ 20 := by
  unfold oper
  split
  · refine ⟨?_, fun z m => ?_⟩
    · unfold K13.mt
      rw [List.length_zipWith]
      have := hx.n
      omega
    · rcases K13.mt_mem xs ys z m with h | h
      · exact hx.a z h
      · exact hy.a z h
  · refine ⟨?_, fun z m => ?_⟩
    · have := K13.jn_len xs ys
      have h1 := hx.n
      have h2 := hy.n
      omega
    · rcases K13.jn_mem xs ys z m with h | h
      · exact hx.a z h
      · exact hy.a z h
theorem sm_share {xs : List Int} (hn : xs.length ≤ 20) (h : ∀ x ∈ xs, 1 ≤ x ∧ x ≤ 20) : Sm 400 1 (dS xs) := by
  refine (Sm.tuple (sm_ints (B := 20) (fun x m => ?_) (by decide))).more ?_ (Nat.le_refl _)
  · have := h x m
    omega
  · rw [List.length_map]
    omega
theorem sm_list {zss : List (List Int)} (hl : zss.length ≤ 40) (h : ∀ xs ∈ zss, xs.length ≤ 20 ∧ ∀ x ∈ xs, 1 ≤ x ∧ x ≤ 20) : Sm 20000 2 (dL zss) := by
  refine (Sm.list (n := 400) (k := 1) fun d m => ?_).more ?_ (Nat.le_refl _)
  · obtain ⟨xs, mx, rfl⟩ := List.mem_map.mp m
    exact sm_share (h xs mx).1 (h xs mx).2
  · rw [List.length_map]
    omega
theorem lay_all {k : Nat} : ∀ {ds : List PyData}, (∀ d ∈ ds, PyData.canLay0 d = true ∧ PyData.depth d ≤ k) → PyData.canLayAll0 ds = true ∧ PyData.depthAll ds ≤ k
  | [], _ => ⟨rfl, Nat.zero_le _⟩
  | d :: ds, h => by
    obtain ⟨h1, h2⟩ := lay_all (ds := ds) fun e m => h e (List.mem_cons_of_mem _ m)
    have q := h d List.mem_cons_self
    exact ⟨by simp only [PyData.canLayAll0, q.1, h1, Bool.and_self], by simp only [PyData.depthAll]; omega⟩
theorem lay_S (xs : List Int) : PyData.canLay0 (dS xs) = true ∧ PyData.depth (dS xs) ≤ 1 := by
  obtain ⟨h1, h2⟩ := canLay_ints xs
  exact ⟨by simp only [PyData.canLay0, h1], by simp only [PyData.depth, h2]; omega⟩
theorem lay_L (xss : List (List Int)) : PyData.canLay0 (dL xss) = true ∧ PyData.depth (dL xss) ≤ 2 := by
  obtain ⟨h1, h2⟩ := lay_all (k := 1) (ds := xss.map dS) fun d m => by
    obtain ⟨xs, _, rfl⟩ := List.mem_map.mp m
    exact lay_S xs
  exact ⟨by simp only [PyData.canLay0, h1], by simp only [PyData.depth]; omega⟩
theorem shaped_two (xss yss : List (List Int)) : SeqAt.shaped (.list [dL xss, dL yss]) = true := by
  obtain ⟨h1, h2⟩ := lay_all (k := 2) (ds := [dL xss, dL yss]) fun d m => by
    rcases List.mem_cons.mp m with rfl | m
    · exact lay_L xss
    · have e : d = dL yss := by simpa using m
      rw [e]
      exact lay_L yss
  unfold SeqAt.shaped
  rw [Bool.and_eq_true, decide_eq_true_eq]
  exact ⟨by simp only [PyData.canLay0, h1], by simp only [PyData.depth]; omega⟩
/-! ### _law_right -/
def sp_law_right : Sp := fun vs H Q _ => ∃ (L M : Addr) (us ws : List V) (xss yss : List (List Int)), vs = [.ref L, .ref M] ∧ H L = some (.lst us) ∧ H M = some (.lst ws) ∧ Ts H us xss ∧ Ts H ws yss ∧ Shs xss ∧ Shs yss ∧ xss.length ≤ 40 ∧ yss.length ≤ 40 ∧
  ∀ H', Same H H' → Q (.bl true) H'
theorem ok_law_right (T : Txt K mg f fd) : FnG P w K mg base 3 (f 16) (fd 16) ["_law_some", "_law_others"] sp_law_right := by
  refine okG T.F16 sc_law_right (fun vs H Q E h => ?_) (fun cdv A outer s H vs Q E hA hr h => ?_)
  · obtain ⟨L, M, us, ws, xss, yss, rfl, _⟩ := h
    rfl
  · obtain ⟨L, M, us, ws, xss, yss, rfl, hL, hM, hu, hv, hx, hy, hn, hm, q⟩ := h
    have hul := hu.len
    have hvl := hv.len
    refine ⟨_, (pss_cons (ps_set (i := 2) sc_law_right.nd rfl (Or.inl rfl) (pe_lst (pa_cons (pe_callTy (r := rLstO K) lst_of (by rfl) T.m_list bt_list (pa_cons (pv 0) pa_nil)) (pa_cons (pe_callTy (r := rLstO K) lst_of (by rfl) T.m_list bt_list (pa_cons (pv 1) pa_nil)) pa_nil))))
      (pss_cons (ps_for PassesOwn.never rfl (pi_range1 (by rfl) T.m_range (pa_cons pe_int pa_nil)) (pg_name (i := 3) sc_law_right.nd rfl (Or.inl rfl)) (pss_one (ps_for PassesOwn.never rfl (pi_range1 (by rfl) T.m_range (pa_cons pe_int pa_nil)) (pg_name (i := 4) sc_law_right.nd rfl (Or.inr rfl)) (Evl.pss_cut (ps_setLc (i := 5) (own := [("_law_one", 7), ("_law_other", 8)]) (g := (gTup _ 2 (gCons (gName 7) (gCons (gName 8) gNil)))) (tt := tYes) rfl sc_law_right.nd rfl rfl (sw_true rfl rfl rfl (by decide +kernel)) (pi_zipA (by rfl) T.m_zip (pa_cons (pv 0) (pa_cons (pv 1) pa_nil))) (blkOk_by (N := N_law_right) (sc := defScope st_law_right) (by decide +kernel)) (fun _ _ _ _ _ => (pg_tup rfl (pgs_cons (pg_name (i := 7) sc_law_right.nd rfl (Or.inl rfl)) (pgs_cons (pg_name (i := 8) sc_law_right.nd rfl (Or.inl rfl)) pgs_nil)))) (fun _ _ _ _ _ => pts_nil) (fun _ _ _ _ _ => (pe_call (ok_law_rows T) (hr.mono (by decide)) (by rfl) T.g15 T.F15.kp T.b15 .nil pass0 (pa_cons (pv 7) (pa_cons (pv 8) (pa_cons (pv 4) pa_nil))))))
      (Evl.pss_cut (ps_set (i := 6) sc_law_right.nd rfl (Or.inl rfl) (pe_callV (k := 2) (hr.mono (by decide)) (pe_ix (r := rIxL K) ix_list (pe_lst (pa_cons (pe_glob (v := .ref (f 5)) (by rfl) T.g5 rfl) (pa_cons (pe_glob (v := .ref (f 4)) (by rfl) T.g4 rfl) pa_nil))) (pv 4) (fun _ _ => rfl)) (pa_cons (pe_ix (r := rIxL K) ix_list (pv 2) pe_int (fun _ _ => rfl)) (pa_cons (pe_ix (r := rIxL K) ix_list (pv 2) pe_int (fun _ _ => rfl)) pa_nil))))
      (Evl.pss_cut (ps_if (PW.pt (pw_or (pt_not (pt_val (pe_callB call_isi (by rfl) T.m_isinstance bt_isinstance (pa_cons (pv 6) (pa_cons (pe_bltn (v := .ty "list") (by rfl) T.m_list bt_list rfl) pa_nil))))) (pw_or (pt_cmpR op_ne (pe_callB (r := rShown K) (call_shown hA hr.units) (by rfl) T.m_repr bt_repr (pa_cons (pv 6) pa_nil)) (pe_callB (r := rShown K) (call_shown hA hr.units) (by rfl) T.m_repr bt_repr (pa_cons (pv 5) pa_nil)) (nomark _)) (pw_or1 (pt_cmpR (op_neD hr.units) (pv 2) (pe_lst (pa_cons (pv 0) (pa_cons (pv 1) pa_nil))) (nomark _)))))) (pss_one (ps_ret pe_bl)) pss_nil)
      (pss_cons (ps_expr (pe_bm PySem.F.plainAttrs_list PySem.F.slot_list_append PySem.F.type_list_append mt_append (pv 6) (pa_cons (pe_tup pa_nil) pa_nil)))
      (pss_one (ps_expr (pe_bm0 PySem.F.plainAttrs_list PySem.F.slot_list_reverse PySem.F.type_list_reverse mt_reverse (pv 6)))))))))))
      (pss_one (ps_ret pe_bl)))), ?_⟩
    refine ⟨.ref L, rfl, L, _, rfl, .inl (SqL.of hL), fun A nA => ?_⟩
    have s1 := same_new (o := .lst us) nA
    refine ⟨.ref M, rfl, M, _, rfl, .inl (SqL.of (s1 _ _ hM)), fun B nB => ?_⟩
    have s2 := same_new (o := .lst ws) nB
    refine ⟨small_line (by show 2 ≤ 100000; omega), fun D nD => ?_⟩
    have s3 := same_new (o := .lst [V.ref A, V.ref B]) nD
    have s03 := (s1.trans s2).trans s3
    obtain ⟨Hd, eHd⟩ : ∃ Hd, Hd = upd (upd (upd H A (.lst us)) B (.lst ws)) D (.lst [V.ref A, V.ref B]) := ⟨_, rfl⟩
    rw [← eHd] at s03 ⊢
    have hA0 : Hd A = some (.lst us) := by rw [eHd]; exact s3 _ _ (s2 _ _ upd_same)
    have hB0 : Hd B = some (.lst ws) := by rw [eHd]; exact s3 _ _ upd_same
    have hD0 : Hd D = some (.lst [V.ref A, V.ref B]) := by rw [eHd]; exact upd_same
    clear eHd s1 s2 s3
    have hL0 := s03 _ _ hL
    have hM0 := s03 _ _ hM
    have hu0 := hu.same s03
    have hv0 := hv.same s03
    refine ⟨2, rfl, by decide, by decide, ?_⟩
    refine for_range (fun i σ H3 => ∃ o3 o4 o5 o6 : Option V, σ = [some (.ref L), some (.ref M), some (.ref D), o3, o4, o5, o6, none, none] ∧ Same Hd H3) ⟨none, none, none, none, rfl, Same.refl _⟩ ?_ ?_
    · rintro ti _ H3 hti ⟨o3, o4, o5, o6, rfl, t3⟩
      refine ⟨2, rfl, by decide, by decide, ?_⟩
      refine for_range (fun i σ H3 => ∃ o4 o5 o6 : Option V, σ = [some (.ref L), some (.ref M), some (.ref D), some (.int (0 + (ti : Int))), o4, o5, o6, none, none] ∧ Same Hd H3) ⟨o4, o5, o6, rfl, t3⟩ ?_ ?_
      · rintro i _ H3 hi ⟨o4, o5, o6, rfl, t3⟩
        have hi' : i < 2 := hi
        have smZ : Sm 20000 2 (dL (List.zipWith (oper i) xss yss)) := sm_list (by rw [List.length_zipWith]; omega) fun zs m => by
          obtain ⟨j, hj, rfl⟩ := List.mem_iff_getElem.mp m
          rw [List.length_zipWith] at hj
          rw [List.getElem_zipWith]
          exact oper_sh (hx _ (List.getElem_mem _)) (hy _ (List.getElem_mem _))
        -- due
        refine ⟨fun σ H4 => ∃ (DD : Addr) (zs : List V), σ = [some (.ref L), some (.ref M), some (.ref D), some (.int (0 + (ti : Int))), some (.int (0 + (i : Int))), some (.ref DD), o6, none, none] ∧ Same Hd H4 ∧ H4 DD = some (.lst zs) ∧ Ts H4 zs (List.zipWith (oper i) xss yss), ?_, ?_⟩
        · refine ⟨.ref L, rfl, .ref M, rfl, L, M, _, _, rfl, .inl ⟨SqL.of (t3 _ _ hL0), SqL.of (t3 _ _ hM0), fun DD nDD => ?_⟩⟩
          refine lc_it (walk_zip (xs := us) (ys := ws) rfl) (fun j H' => Same H3 H' ∧ ∃ zs, H' DD = some (.lst zs) ∧ Ts H' zs ((List.zipWith (oper i) xss yss).take j)) ?_ (fun j H' _ g => ⟨SqL.of (g.1 _ _ (t3 _ _ hL0)), SqL.of (g.1 _ _ (t3 _ _ hM0))⟩) ?_ ?_
          · exact ⟨same_new nDD, [], upd_same, .nil⟩
          · rintro j v H1 H2 hj ⟨s1, zs, hD, htz⟩ ⟨t, x, y, rfl, nt, rfl, h1, h2⟩
            obtain ⟨a, xs, rfl, ha, hxs⟩ := (hu0.same (t3.trans s1)).at h1
            obtain ⟨b, ys, rfl, hb, hys⟩ := (hv0.same (t3.trans s1)).at h2
            refine ⟨t, _, rfl, SqT.of upd_same, rfl, _, _, rfl, _, _, rfl, rfl, rfl, ?_⟩
            simp only [tYes, reduceIte]
            have s2 := same_new (o := .tup [V.ref a, V.ref b]) nt
            refine ⟨.ref a, rfl, .ref b, rfl, _, rfl, a, b, xs, ys, i, (by rw [Int.zero_add]; rfl), s2 _ _ ha, s2 _ _ hb, hx xs (List.mem_of_getElem? hxs), hy ys (List.mem_of_getElem? hys), hi', fun H3 c s3 hc => ?_⟩
            have s23 := s2.trans s3
            have hD3 := s23 _ _ hD
            have hzl := htz.len
            rw [List.length_take] at hzl
            refine ⟨zs, hD3, small_lt (by omega), fun b o e => ?_, zs ++ [.ref c], upd_same, ?_⟩
            · rw [upd_ne (ne_of_none e nDD)]
              exact s23 _ _ (s1 _ _ e)
            · have e : (List.zipWith (oper i) xss yss)[j]? = some (oper i xs ys) := by rw [List.getElem?_zipWith, hxs, hys]
              rw [List.take_add_one, e]
              exact ((htz.same s23).kp hD3 kp_upd).app (.cons (kp_upd _ _ (ne_of hc hD3 (by intro z; cases z)) hc) .nil)
          · rintro H1 ⟨s1, zs, hD, htz⟩
            rw [List.take_of_length_le (by rw [List.length_zipWith]; omega)] at htz
            exact ⟨DD, zs, rfl, t3.trans s1, hD, htz⟩
        rintro _ H4 ⟨DD, zs, rfl, t4, hDD, htz⟩
        -- found
        refine ⟨fun σ H5 => ∃ (F : Addr) (fs : List V), σ = [some (.ref L), some (.ref M), some (.ref D), some (.int (0 + (ti : Int))), some (.int (0 + (i : Int))), some (.ref DD), some (.ref F), none, none] ∧ Same H4 H5 ∧ H4 F = none ∧ H5 F = some (.lst fs) ∧ Ts H5 fs (List.zipWith (oper i) xss yss), ?_, ?_⟩
        · refine ⟨small_line (by show 2 ≤ 100000; omega), fun z nz => ?_⟩
          have s5 := same_new (o := .lst [V.ref (f 5), V.ref (f 4)]) nz
          obtain ⟨g, hv, hg⟩ : ∃ g, atI [V.ref (f 5), V.ref (f 4)] (0 + (i : Int)) = some (.ref g) ∧ Held P w K mg base 2 g (sp_stacks i) := by
            rcases (show i = 0 ∨ i = 1 by omega) with rfl | rfl
            · exact ⟨_, rfl, held_met T⟩
            · exact ⟨_, rfl, held_joined T⟩
          have t5 := t4.trans s5
          refine ⟨_, rfl, z, _, _, .ref g, rfl, rfl, SqL.of upd_same, hv, g, sp_stacks i, rfl, hg, ?_⟩
          refine ⟨.ref D, rfl, D, _, 0, .ref A, rfl, rfl, SqL.of (t5 _ _ hD0), rfl, .ref D, rfl, D, _, 1, .ref B, rfl, rfl, SqL.of (t5 _ _ hD0), rfl, ?_⟩
          refine ⟨A, B, us, ws, xss, yss, rfl, t5 _ _ hA0, t5 _ _ hB0, hu0.same t5, hv0.same t5, hx, hy, by omega, fun H6 F fs s6 nF hF htF => ?_⟩
          refine ⟨F, fs, rfl, s5.trans s6, ?_, hF, htF⟩
          cases e : H4 F with
          | none => rfl
          | some o => rw [s5 _ _ e] at nF; cases nF
        rintro _ H5 ⟨F, fs, rfl, s5, nF, hF, htF⟩
        have t5 := t4.trans s5
        -- alike
        refine ⟨fun σ H6 => σ = [some (.ref L), some (.ref M), some (.ref D), some (.int (0 + (ti : Int))), some (.int (0 + (i : Int))), some (.ref DD), some (.ref F), none, none] ∧ Same H5 H6, ?_, ?_⟩
        · refine ⟨.ref F, rfl, _, .ty "list", .type "list", .type "list", true, rfl, .ty _, .base (.lst hF), kit_ty (by decide +kernel), _, rfl, ?_⟩
          refine iteF ⟨.ref F, rfl, _, _, rfl, ⟨_, rfl⟩, .lst (SqL.of hF) (dpAll_ts htF), smZ.a, smZ.b, Nat.le_trans smZ.c (by decide), Nat.le_trans smZ.d (small_line (by decide)), ?_⟩
          refine ⟨.ref DD, rfl, _, _, rfl, ⟨_, rfl⟩, .lst (SqL.of (s5 _ _ hDD)) (dpAll_ts (htz.same s5)), smZ.a, smZ.b, Nat.le_trans smZ.c (by decide), Nat.le_trans smZ.d (small_line (by decide)), rfl, _, rfl, ?_⟩
          rw [decide_eq_true rfl]
          refine iteF ⟨.ref D, rfl, .ref L, rfl, .ref M, rfl, small_line (by show 2 ≤ 100000; omega), fun z nz => ?_⟩
          have s6 := same_new (o := .lst [V.ref L, V.ref M]) nz
          have t6 := t5.trans s6
          refine ⟨.list [dL xss, dL yss], .list [dL xss, dL yss], .lst (SqL.of (t6 _ _ hD0)) (.cons (.lst (SqL.of (t6 _ _ hA0)) (dpAll_ts (hu0.same t6))) (.cons (.lst (SqL.of (t6 _ _ hB0)) (dpAll_ts (hv0.same t6))) .nil)),
            .lst (SqL.of upd_same) (.cons (.lst (SqL.of (t6 _ _ hL0)) (dpAll_ts (hu0.same t6))) (.cons (.lst (SqL.of (t6 _ _ hM0)) (dpAll_ts (hv0.same t6))) .nil)), shaped_two xss yss, shaped_two xss yss, _, rfl, ?_⟩
          rw [SeqAt.eqv_refl]
          · exact iteF ⟨rfl, s6⟩
          · have h := shaped_two xss yss
            unfold SeqAt.shaped at h
            rw [Bool.and_eq_true] at h
            exact h.1
        rintro _ H6 ⟨rfl, s6⟩
        have hF6 := s6 _ _ hF
        have hfl := htF.len
        rw [List.length_zipWith] at hfl
        refine ⟨.ref F, rfl, .inl ⟨rfl, _, .inl (.inl hF6)⟩, Nat.zero_le _, fun u nu => ?_⟩
        have s7 := same_new (o := .tup []) nu
        refine ⟨F, _, _, rfl, rfl, s7 _ _ hF6, small_lt (by omega), ?_⟩
        refine ⟨.ref F, rfl, .inl ⟨rfl, _, .inl (.inl upd_same)⟩, F, _, rfl, rfl, upd_same, _, _, _, rfl, fun b o e => ?_⟩
        have nb : b ≠ F := ne_of_none (t4 _ _ e) nF
        rw [upd_ne nb, upd_ne nb]
        exact s7 _ _ (s6 _ _ (t5 _ _ e))
      · rintro _ H3 ⟨o4, o5, o6, rfl, t3⟩
        exact ⟨_, _, _, _, rfl, t3⟩
    · rintro _ H3 ⟨o3, o4, o5, o6, rfl, t3⟩
      exact q _ (s03.trans t3)
/-! ### law -/
def sp_law (K : PySem.W.Frag) : Sp := fun vs H Q _ => ∃ (a : Addr) (ns : List Int), vs = [.ref a] ∧ SqL K H a (ns.map V.int) ∧ ns.length ≤ 63 ∧ ∀ H', Q (.bl true) H'
theorem oklaw {fa : Addr} {fda : FuncData} (T : Txt K mg f fd) (F : Fun K "law" "law" stlaw fa fda) : FnG P w K mg base 5 fa fda ["_law_script"] (sp_law K) := by
  refine okG F sclaw (fun vs H Q E h => ?_) (fun cdv A outer s H vs Q E hA hr h => ?_)
  · obtain ⟨a, ns, rfl, _⟩ := h
    rfl
  · obtain ⟨a, ns, rfl, hS, hn, q⟩ := h
    refine ⟨_, (pss_cons (ps_set (i := 1) sclaw.nd rfl (Or.inl rfl) (pe_call (ok_law_pen T) (hr.mono (by decide)) (by rfl) T.g7 T.F7.kp T.b7 .nil pass0 (pa_cons (pv 0) pa_nil)))
      (Evl.pss_cut (ps_for PassesOwn.never rfl (pi_range1 (by rfl) T.m_range (pa_cons pe_int pa_nil)) (pg_name (i := 2) sclaw.nd rfl (Or.inl rfl)) (pss_cons (ps_asg (pe_call (ok_law_two T) (hr.mono (by decide)) (by rfl) T.g14 T.F14.kp T.b14 .nil pass0 (pa_cons (pv 1) pa_nil)) (pg_tup rfl (pgs_cons (pg_name (i := 3) sclaw.nd rfl (Or.inl rfl)) (pgs_cons (pg_name (i := 4) sclaw.nd rfl (Or.inl rfl)) pgs_nil))))
      (pss_one (ps_if (PW.pt (pw_or (pt_not (pt_val (pe_callG (ok_law_right T) hA (hr.mono (by decide)) (by rfl) T.g16 T.F16.kp T.b16 (pa_cons (pv 3) (pa_cons (pv 4) pa_nil))))) (pw_or (pt_not (pt_val (pe_callG (ok_law_right T) hA (hr.mono (by decide)) (by rfl) T.g16 T.F16.kp T.b16 (pa_cons (pv 4) (pa_cons (pv 3) pa_nil))))) (pw_or1 (pt_not (pt_val (pe_callG (ok_law_right T) hA (hr.mono (by decide)) (by rfl) T.g16 T.F16.kp T.b16 (pa_cons (pv 3) (pa_cons (pv 3) pa_nil))))))))) (pss_one (ps_ret pe_bl)) pss_nil))))
      (pss_one (ps_ret (pe_and (pe_cmpR (op_eqD hr.units) (pe_call (ok_joined_stacks T) (hr.mono (by decide)) (by rfl) T.g4 T.F4.kp T.b4 .nil pass0 (pa_cons (pe_lst pa_nil) (pa_cons (pe_lst pa_nil) pa_nil))) (pe_lst pa_nil) (nomark _)) (pe_one (pe_cmpR (op_eqD hr.units) (pe_call (ok_met_stacks T) (hr.mono (by decide)) (by rfl) T.g5 T.F5.kp T.b5 .nil pass0 (pa_cons (pe_lst pa_nil) (pa_cons (pe_lst pa_nil) pa_nil))) (pe_lst pa_nil) (nomark _)))))))), ?_⟩
    refine ⟨.ref a, rfl, a, rfl, ⟨ns, hS⟩, fun H1 p s1 P1 => ?_⟩
    refine ⟨fun σ H2 => ∃ o2 o3 o4, σ = [some (.ref a), some (.ref p), o2, o3, o4], ?_, ?_⟩
    · refine ⟨6, rfl, by decide, by decide, ?_⟩
      refine for_range (fun i σ H2 => ∃ o2 o3 o4, σ = [some (.ref a), some (.ref p), o2, o3, o4] ∧ Pen K H2 p a) ⟨none, none, none, rfl, P1⟩ ?_ ?_
      · rintro i _ H2 hi ⟨o2, o3, o4, rfl, P2⟩
        refine ⟨.ref p, rfl, p, a, rfl, P2, fun H3 t L M us ws xss yss P3 ht hL hM hu hv hx hy hn hm => ?_⟩
        refine ⟨t, _, rfl, SqT.of ht, rfl, _, _, rfl, _, _, rfl, rfl, ?_⟩
        refine ⟨.ref L, rfl, .ref M, rfl, L, M, us, ws, xss, yss, rfl, hL, hM, hu, hv, hx, hy, hn, hm, fun H4 s4 => ⟨_, rfl, iteF ?_⟩⟩
        refine ⟨.ref M, rfl, .ref L, rfl, M, L, ws, us, yss, xss, rfl, s4 _ _ hM, s4 _ _ hL, hv.same s4, hu.same s4, hy, hx, hm, hn, fun H5 s5 => ⟨_, rfl, iteF ?_⟩⟩
        have s45 := s4.trans s5
        refine ⟨.ref L, rfl, .ref L, rfl, L, L, us, us, xss, xss, rfl, s45 _ _ hL, s45 _ _ hL, hu.same s45, hu.same s45, hx, hx, hn, hn, fun H6 s6 => ⟨_, rfl, iteF ?_⟩⟩
        exact ⟨_, _, _, rfl, P3.same (s45.trans s6)⟩
      · rintro _ H2 ⟨o2, o3, o4, rfl, P2⟩
        exact ⟨_, _, _, rfl⟩
    rintro _ H2 ⟨o2, o3, o4, rfl⟩
    refine ⟨Nat.zero_le _, fun e1 n1 => ⟨Nat.zero_le _, fun e2 n2 => ?_⟩⟩
    refine ⟨e1, e2, [], [], [], [], rfl, same_new n2 _ _ upd_same, upd_same, .nil, .nil, (fun x z => absurd z List.not_mem_nil), (fun x z => absurd z List.not_mem_nil), Nat.zero_le _, fun H3 D zs s3 _ hD htz => ?_⟩
    have hz : zs = [] := by cases htz; rfl
    subst hz
    refine ⟨Nat.zero_le _, fun e3 n3 => ?_⟩
    refine ⟨_, _, dp_lst (xs := []) (SqL.of (same_new n3 _ _ hD)), dp_lst (xs := []) (SqL.of upd_same), shaped_lst _, shaped_lst _, _, rfl, ?_⟩
    rw [if_pos (by decide)]
    refine ⟨Nat.zero_le _, fun e1 n1 => ⟨Nat.zero_le _, fun e2 n2 => ?_⟩⟩
    refine ⟨e1, e2, [], [], [], [], rfl, same_new n2 _ _ upd_same, upd_same, .nil, .nil, (fun x z => absurd z List.not_mem_nil), (fun x z => absurd z List.not_mem_nil), Nat.zero_le _, fun H3 D zs s3 _ hD htz => ?_⟩
    have hz : zs = [] := by cases htz; rfl
    subst hz
    refine ⟨Nat.zero_le _, fun e3 n3 => ?_⟩
    refine ⟨_, _, dp_lst (xs := []) (SqL.of (same_new n3 _ _ hD)), dp_lst (xs := []) (SqL.of upd_same), shaped_lst _, shaped_lst _, ?_⟩
    exact q _
end
theorem all_mk {l : PySem.W.OpenLaw} {w : World} {K : PySem.W.Frag} {h : Heap} {mg : Str → Option Value} {fa : Addr} (X : K.In h) (G : h.Ns mainGlobals mg) (hfa : mg "law" = some (.ref fa))
    {f1 : Addr} {od1 an1 : Option Addr} {sl1 : Array (Option Value)} {oc1 kV1 dc1 pm1 cd1 ct1 : Value}
    (a1 : PySem.W.nsIn K mainGlobals "joined_shares" = some (some (.ref f1)))
    (l1 : K.lookup f1 = some ⟨oc1, od1, .func (PySem.W.fnOf "joined_shares" "joined_shares" (defArgs stjoined_shares) (defBody stjoined_shares) (defScope stjoined_shares) .none kV1 dc1 pm1 an1 cd1 ct1), sl1⟩)
    (c1 : PySem.W.codeIn K cd1 "joined_shares" = true) (k1 : PySem.W.keepIn K (.ref f1) = true)
    {f2 : Addr} {od2 an2 : Option Addr} {sl2 : Array (Option Value)} {oc2 kV2 dc2 pm2 cd2 ct2 : Value}
    (a2 : PySem.W.nsIn K mainGlobals "met_shares" = some (some (.ref f2)))
    (l2 : K.lookup f2 = some ⟨oc2, od2, .func (PySem.W.fnOf "met_shares" "met_shares" (defArgs stmet_shares) (defBody stmet_shares) (defScope stmet_shares) .none kV2 dc2 pm2 an2 cd2 ct2), sl2⟩)
    (c2 : PySem.W.codeIn K cd2 "met_shares" = true) (k2 : PySem.W.keepIn K (.ref f2) = true)
    {f4 : Addr} {od4 an4 : Option Addr} {sl4 : Array (Option Value)} {oc4 kV4 dc4 pm4 cd4 ct4 : Value}
    (a4 : PySem.W.nsIn K mainGlobals "joined_stacks" = some (some (.ref f4)))
    (l4 : K.lookup f4 = some ⟨oc4, od4, .func (PySem.W.fnOf "joined_stacks" "joined_stacks" (defArgs stjoined_stacks) (defBody stjoined_stacks) (defScope stjoined_stacks) .none kV4 dc4 pm4 an4 cd4 ct4), sl4⟩)
    (c4 : PySem.W.codeIn K cd4 "joined_stacks" = true) (k4 : PySem.W.keepIn K (.ref f4) = true)
    {f5 : Addr} {od5 an5 : Option Addr} {sl5 : Array (Option Value)} {oc5 kV5 dc5 pm5 cd5 ct5 : Value}
    (a5 : PySem.W.nsIn K mainGlobals "met_stacks" = some (some (.ref f5)))
    (l5 : K.lookup f5 = some ⟨oc5, od5, .func (PySem.W.fnOf "met_stacks" "met_stacks" (defArgs stmet_stacks) (defBody stmet_stacks) (defScope stmet_stacks) .none kV5 dc5 pm5 an5 cd5 ct5), sl5⟩)
    (c5 : PySem.W.codeIn K cd5 "met_stacks" = true) (k5 : PySem.W.keepIn K (.ref f5) = true)
    {f7 : Addr} {od7 an7 : Option Addr} {sl7 : Array (Option Value)} {oc7 kV7 dc7 pm7 cd7 ct7 : Value}
    (a7 : PySem.W.nsIn K mainGlobals "_law_pen" = some (some (.ref f7)))
    (l7 : K.lookup f7 = some ⟨oc7, od7, .func (PySem.W.fnOf "_law_pen" "_law_pen" (defArgs st_law_pen) (defBody st_law_pen) (defScope st_law_pen) .none kV7 dc7 pm7 an7 cd7 ct7), sl7⟩)
    (c7 : PySem.W.codeIn K cd7 "_law_pen" = true) (k7 : PySem.W.keepIn K (.ref f7) = true)
    {f8 : Addr} {od8 an8 : Option Addr} {sl8 : Array (Option Value)} {oc8 kV8 dc8 pm8 cd8 ct8 : Value}
    (a8 : PySem.W.nsIn K mainGlobals "_law_draw" = some (some (.ref f8)))
    (l8 : K.lookup f8 = some ⟨oc8, od8, .func (PySem.W.fnOf "_law_draw" "_law_draw" (defArgs st_law_draw) (defBody st_law_draw) (defScope st_law_draw) .none kV8 dc8 pm8 an8 cd8 ct8), sl8⟩)
    (c8 : PySem.W.codeIn K cd8 "_law_draw" = true) (k8 : PySem.W.keepIn K (.ref f8) = true)
    {f9 : Addr} {od9 an9 : Option Addr} {sl9 : Array (Option Value)} {oc9 kV9 dc9 pm9 cd9 ct9 : Value}
    (a9 : PySem.W.nsIn K mainGlobals "_law_row" = some (some (.ref f9)))
    (l9 : K.lookup f9 = some ⟨oc9, od9, .func (PySem.W.fnOf "_law_row" "_law_row" (defArgs st_law_row) (defBody st_law_row) (defScope st_law_row) .none kV9 dc9 pm9 an9 cd9 ct9), sl9⟩)
    (c9 : PySem.W.codeIn K cd9 "_law_row" = true) (k9 : PySem.W.keepIn K (.ref f9) = true)
    {f10 : Addr} {od10 an10 : Option Addr} {sl10 : Array (Option Value)} {oc10 kV10 dc10 pm10 cd10 ct10 : Value}
    (a10 : PySem.W.nsIn K mainGlobals "_law_between" = some (some (.ref f10)))
    (l10 : K.lookup f10 = some ⟨oc10, od10, .func (PySem.W.fnOf "_law_between" "_law_between" (defArgs st_law_between) (defBody st_law_between) (defScope st_law_between) .none kV10 dc10 pm10 an10 cd10 ct10), sl10⟩)
    (c10 : PySem.W.codeIn K cd10 "_law_between" = true) (k10 : PySem.W.keepIn K (.ref f10) = true)
    {f11 : Addr} {od11 an11 : Option Addr} {sl11 : Array (Option Value)} {oc11 kV11 dc11 pm11 cd11 ct11 : Value}
    (a11 : PySem.W.nsIn K mainGlobals "_law_full" = some (some (.ref f11)))
    (l11 : K.lookup f11 = some ⟨oc11, od11, .func (PySem.W.fnOf "_law_full" "_law_full" (defArgs st_law_full) (defBody st_law_full) (defScope st_law_full) .none kV11 dc11 pm11 an11 cd11 ct11), sl11⟩)
    (c11 : PySem.W.codeIn K cd11 "_law_full" = true) (k11 : PySem.W.keepIn K (.ref f11) = true)
    {f12 : Addr} {od12 an12 : Option Addr} {sl12 : Array (Option Value)} {oc12 kV12 dc12 pm12 cd12 ct12 : Value}
    (a12 : PySem.W.nsIn K mainGlobals "_law_lies" = some (some (.ref f12)))
    (l12 : K.lookup f12 = some ⟨oc12, od12, .func (PySem.W.fnOf "_law_lies" "_law_lies" (defArgs st_law_lies) (defBody st_law_lies) (defScope st_law_lies) .none kV12 dc12 pm12 an12 cd12 ct12), sl12⟩)
    (c12 : PySem.W.codeIn K cd12 "_law_lies" = true) (k12 : PySem.W.keepIn K (.ref f12) = true)
    {f13 : Addr} {od13 an13 : Option Addr} {sl13 : Array (Option Value)} {oc13 kV13 dc13 pm13 cd13 ct13 : Value}
    (a13 : PySem.W.nsIn K mainGlobals "_law_stack" = some (some (.ref f13)))
    (l13 : K.lookup f13 = some ⟨oc13, od13, .func (PySem.W.fnOf "_law_stack" "_law_stack" (defArgs st_law_stack) (defBody st_law_stack) (defScope st_law_stack) .none kV13 dc13 pm13 an13 cd13 ct13), sl13⟩)
    (c13 : PySem.W.codeIn K cd13 "_law_stack" = true) (k13 : PySem.W.keepIn K (.ref f13) = true)
    {f14 : Addr} {od14 an14 : Option Addr} {sl14 : Array (Option Value)} {oc14 kV14 dc14 pm14 cd14 ct14 : Value}
    (a14 : PySem.W.nsIn K mainGlobals "_law_two" = some (some (.ref f14)))
    (l14 : K.lookup f14 = some ⟨oc14, od14, .func (PySem.W.fnOf "_law_two" "_law_two" (defArgs st_law_two) (defBody st_law_two) (defScope st_law_two) .none kV14 dc14 pm14 an14 cd14 ct14), sl14⟩)
    (c14 : PySem.W.codeIn K cd14 "_law_two" = true) (k14 : PySem.W.keepIn K (.ref f14) = true)
    {f15 : Addr} {od15 an15 : Option Addr} {sl15 : Array (Option Value)} {oc15 kV15 dc15 pm15 cd15 ct15 : Value}
    (a15 : PySem.W.nsIn K mainGlobals "_law_rows" = some (some (.ref f15)))
    (l15 : K.lookup f15 = some ⟨oc15, od15, .func (PySem.W.fnOf "_law_rows" "_law_rows" (defArgs st_law_rows) (defBody st_law_rows) (defScope st_law_rows) .none kV15 dc15 pm15 an15 cd15 ct15), sl15⟩)
    (c15 : PySem.W.codeIn K cd15 "_law_rows" = true) (k15 : PySem.W.keepIn K (.ref f15) = true)
    {f16 : Addr} {od16 an16 : Option Addr} {sl16 : Array (Option Value)} {oc16 kV16 dc16 pm16 cd16 ct16 : Value}
    (a16 : PySem.W.nsIn K mainGlobals "_law_right" = some (some (.ref f16)))
    (l16 : K.lookup f16 = some ⟨oc16, od16, .func (PySem.W.fnOf "_law_right" "_law_right" (defArgs st_law_right) (defBody st_law_right) (defScope st_law_right) .none kV16 dc16 pm16 an16 cd16 ct16), sl16⟩)
    (c16 : PySem.W.codeIn K cd16 "_law_right" = true) (k16 : PySem.W.keepIn K (.ref f16) = true)
    {f17 : Addr} {od17 an17 : Option Addr} {sl17 : Array (Option Value)} {oc17 kV17 dc17 pm17 cd17 ct17 : Value}
    (a17 : PySem.W.nsIn K mainGlobals "law" = some (some (.ref f17)))
    (l17 : K.lookup f17 = some ⟨oc17, od17, .func (PySem.W.fnOf "law" "law" (defArgs stlaw) (defBody stlaw) (defScope stlaw) .none kV17 dc17 pm17 an17 cd17 ct17), sl17⟩)
    (c17 : PySem.W.codeIn K cd17 "law" = true) (k17 : PySem.W.keepIn K (.ref f17) = true)
    (z_abs : PySem.W.nsIn K mainGlobals "abs" = some none)
    (z_int : PySem.W.nsIn K mainGlobals "int" = some none)
    (z_isinstance : PySem.W.nsIn K mainGlobals "isinstance" = some none)
    (z_len : PySem.W.nsIn K mainGlobals "len" = some none)
    (z_list : PySem.W.nsIn K mainGlobals "list" = some none)
    (z_max : PySem.W.nsIn K mainGlobals "max" = some none)
    (z_min : PySem.W.nsIn K mainGlobals "min" = some none)
    (z_range : PySem.W.nsIn K mainGlobals "range" = some none)
    (z_repr : PySem.W.nsIn K mainGlobals "repr" = some none)
    (z_sorted : PySem.W.nsIn K mainGlobals "sorted" = some none)
    (z_tuple : PySem.W.nsIn K mainGlobals "tuple" = some none)
    (z_zip : PySem.W.nsIn K mainGlobals "zip" = some none)
    : ∃ fd : FuncData, (∀ (s : Shared) (v : Value), BindsTo s fd ⟨[v], []⟩ [("_law_script", v)]) ∧ ∀ base : Heap, K.In base → base.Ns mainGlobals mg → FnG l.prog w K mg base 5 fa fd ["_law_script"] (sp_law K) := by
  have e := hfa.symm.trans (PySem.W.mg_of X G a17)
  cases e
  have F1 := fun_mk (st := stjoined_shares) l1 c1 k1
  have F2 := fun_mk (st := stmet_shares) l2 c2 k2
  have F4 := fun_mk (st := stjoined_stacks) l4 c4 k4
  have F5 := fun_mk (st := stmet_stacks) l5 c5 k5
  have F7 := fun_mk (st := st_law_pen) l7 c7 k7
  have F8 := fun_mk (st := st_law_draw) l8 c8 k8
  have F9 := fun_mk (st := st_law_row) l9 c9 k9
  have F10 := fun_mk (st := st_law_between) l10 c10 k10
  have F11 := fun_mk (st := st_law_full) l11 c11 k11
  have F12 := fun_mk (st := st_law_lies) l12 c12 k12
  have F13 := fun_mk (st := st_law_stack) l13 c13 k13
  have F14 := fun_mk (st := st_law_two) l14 c14 k14
  have F15 := fun_mk (st := st_law_rows) l15 c15 k15
  have F16 := fun_mk (st := st_law_right) l16 c16 k16
  have F17 := fun_mk (st := stlaw) l17 c17 k17
  have T : Txt K mg (fun i => match i with | 1 => f1 | 2 => f2 | 4 => f4 | 5 => f5 | 7 => f7 | 8 => f8 | 9 => f9 | 10 => f10 | 11 => f11 | 12 => f12 | 13 => f13 | 14 => f14 | 15 => f15 | 16 => f16 | _ => fa) (fun i => match i with | 1 => PySem.W.fnOf "joined_shares" "joined_shares" (defArgs stjoined_shares) (defBody stjoined_shares) (defScope stjoined_shares) .none kV1 dc1 pm1 an1 cd1 ct1 | 2 => PySem.W.fnOf "met_shares" "met_shares" (defArgs stmet_shares) (defBody stmet_shares) (defScope stmet_shares) .none kV2 dc2 pm2 an2 cd2 ct2 | 4 => PySem.W.fnOf "joined_stacks" "joined_stacks" (defArgs stjoined_stacks) (defBody stjoined_stacks) (defScope stjoined_stacks) .none kV4 dc4 pm4 an4 cd4 ct4 | 5 => PySem.W.fnOf "met_stacks" "met_stacks" (defArgs stmet_stacks) (defBody stmet_stacks) (defScope stmet_stacks) .none kV5 dc5 pm5 an5 cd5 ct5 | 7 => PySem.W.fnOf "_law_pen" "_law_pen" (defArgs st_law_pen) (defBody st_law_pen) (defScope st_law_pen) .none kV7 dc7 pm7 an7 cd7 ct7 | 8 => PySem.W.fnOf "_law_draw" "_law_draw" (defArgs st_law_draw) (defBody st_law_draw) (defScope st_law_draw) .none kV8 dc8 pm8 an8 cd8 ct8 | 9 => PySem.W.fnOf "_law_row" "_law_row" (defArgs st_law_row) (defBody st_law_row) (defScope st_law_row) .none kV9 dc9 pm9 an9 cd9 ct9 | 10 => PySem.W.fnOf "_law_between" "_law_between" (defArgs st_law_between) (defBody st_law_between) (defScope st_law_between) .none kV10 dc10 pm10 an10 cd10 ct10 | 11 => PySem.W.fnOf "_law_full" "_law_full" (defArgs st_law_full) (defBody st_law_full) (defScope st_law_full) .none kV11 dc11 pm11 an11 cd11 ct11 | 12 => PySem.W.fnOf "_law_lies" "_law_lies" (defArgs st_law_lies) (defBody st_law_lies) (defScope st_law_lies) .none kV12 dc12 pm12 an12 cd12 ct12 | 13 => PySem.W.fnOf "_law_stack" "_law_stack" (defArgs st_law_stack) (defBody st_law_stack) (defScope st_law_stack) .none kV13 dc13 pm13 an13 cd13 ct13 | 14 => PySem.W.fnOf "_law_two" "_law_two" (defArgs st_law_two) (defBody st_law_two) (defScope st_law_two) .none kV14 dc14 pm14 an14 cd14 ct14 | 15 => PySem.W.fnOf "_law_rows" "_law_rows" (defArgs st_law_rows) (defBody st_law_rows) (defScope st_law_rows) .none kV15 dc15 pm15 an15 cd15 ct15 | 16 => PySem.W.fnOf "_law_right" "_law_right" (defArgs st_law_right) (defBody st_law_right) (defScope st_law_right) .none kV16 dc16 pm16 an16 cd16 ct16 | 17 => PySem.W.fnOf "law" "law" (defArgs stlaw) (defBody stlaw) (defScope stlaw) .none kV17 dc17 pm17 an17 cd17 ct17 | _ => PySem.W.fnOf "law" "law" (defArgs stlaw) (defBody stlaw) (defScope stlaw) .none kV17 dc17 pm17 an17 cd17 ct17) := {
    F1 := F1
    g1 := PySem.W.mg_of X G a1
    b1 := F1.binds (ps := ["one", "other"]) fun _ _ _ _ _ _ us hl => match us, hl with | [_, _], _ => rfl
    F2 := F2
    g2 := PySem.W.mg_of X G a2
    b2 := F2.binds (ps := ["one", "other"]) fun _ _ _ _ _ _ us hl => match us, hl with | [_, _], _ => rfl
    F4 := F4
    g4 := PySem.W.mg_of X G a4
    b4 := F4.binds (ps := ["some", "others"]) fun _ _ _ _ _ _ us hl => match us, hl with | [_, _], _ => rfl
    F5 := F5
    g5 := PySem.W.mg_of X G a5
    b5 := F5.binds (ps := ["some", "others"]) fun _ _ _ _ _ _ us hl => match us, hl with | [_, _], _ => rfl
    F7 := F7
    g7 := PySem.W.mg_of X G a7
    b7 := F7.binds (ps := ["_law_script"]) fun _ _ _ _ _ _ us hl => match us, hl with | [_], _ => rfl
    F8 := F8
    g8 := PySem.W.mg_of X G a8
    b8 := F8.binds (ps := ["_law_pen_here", "_law_many"]) fun _ _ _ _ _ _ us hl => match us, hl with | [_, _], _ => rfl
    F9 := F9
    g9 := PySem.W.mg_of X G a9
    b9 := F9.binds (ps := ["_law_share", "_law_k"]) fun _ _ _ _ _ _ us hl => match us, hl with | [_, _], _ => rfl
    F10 := F10
    g10 := PySem.W.mg_of X G a10
    b10 := F10.binds (ps := ["_law_pen_here", "_law_one", "_law_other"]) fun _ _ _ _ _ _ us hl => match us, hl with | [_, _, _], _ => rfl
    F11 := F11
    g11 := PySem.W.mg_of X G a11
    b11 := F11.binds (ps := ["_law_high", "_law_wide"]) fun _ _ _ _ _ _ us hl => match us, hl with | [_, _], _ => rfl
    F12 := F12
    g12 := PySem.W.mg_of X G a12
    b12 := F12.binds (ps := ["_law_one", "_law_other"]) fun _ _ _ _ _ _ us hl => match us, hl with | [_, _], _ => rfl
    F13 := F13
    g13 := PySem.W.mg_of X G a13
    b13 := F13.binds (ps := ["_law_pen_here", "_law_one", "_law_other", "_law_many"]) fun _ _ _ _ _ _ us hl => match us, hl with | [_, _, _, _], _ => rfl
    F14 := F14
    g14 := PySem.W.mg_of X G a14
    b14 := F14.binds (ps := ["_law_pen_here"]) fun _ _ _ _ _ _ us hl => match us, hl with | [_], _ => rfl
    F15 := F15
    g15 := PySem.W.mg_of X G a15
    b15 := F15.binds (ps := ["_law_one", "_law_other", "_law_way"]) fun _ _ _ _ _ _ us hl => match us, hl with | [_, _, _], _ => rfl
    F16 := F16
    g16 := PySem.W.mg_of X G a16
    b16 := F16.binds (ps := ["_law_some", "_law_others"]) fun _ _ _ _ _ _ us hl => match us, hl with | [_, _], _ => rfl
    m_abs := PySem.W.mg_none_of X G z_abs
    m_int := PySem.W.mg_none_of X G z_int
    m_isinstance := PySem.W.mg_none_of X G z_isinstance
    m_len := PySem.W.mg_none_of X G z_len
    m_list := PySem.W.mg_none_of X G z_list
    m_max := PySem.W.mg_none_of X G z_max
    m_min := PySem.W.mg_none_of X G z_min
    m_range := PySem.W.mg_none_of X G z_range
    m_repr := PySem.W.mg_none_of X G z_repr
    m_sorted := PySem.W.mg_none_of X G z_sorted
    m_tuple := PySem.W.mg_none_of X G z_tuple
    m_zip := PySem.W.mg_none_of X G z_zip }
  exact ⟨_, fun s v => .of_eq rfl, fun base _ _ => oklaw T F17⟩
end K40
open PySem PySem.W PyProof.Rows
set_option maxHeartbeats 0 in
theorem PySem.Challenge.cw_gridshares_k40_stacks_joined_and_met_holds : PySem.Challenge.rw_gridshares_k40_stacks_joined_and_met.Holds := by
  w_on; o_law; k_head; (case hw => w_witness2)
  k_fill
  refine GS.walkG (l := PySem.Challenge.rw_gridshares_k40_stacks_joined_and_met) (n := 63) (k := 5) (x := "_law_script") (sp := fun w => K40.sp_law _) rfl (by decide) rfl ⟨rfl, by decide, by decide⟩ (fun w h Y => PySem.W.kIn_of Y) ?F (fun _ _ a ns hl hS => ⟨a, ns, rfl, hS, hl, fun _ => rfl⟩)
  case F =>
    intro w mg fa h KX G hmg
    refine' K40.all_mk KX G hmg ?a1 ?l1 ?c1 ?k1 ?a2 ?l2 ?c2 ?k2 ?a4 ?l4 ?c4 ?k4 ?a5 ?l5 ?c5 ?k5 ?a7 ?l7 ?c7 ?k7 ?a8 ?l8 ?c8 ?k8 ?a9 ?l9 ?c9 ?k9 ?a10 ?l10 ?c10 ?k10 ?a11 ?l11 ?c11 ?k11 ?a12 ?l12 ?c12 ?k12 ?a13 ?l13 ?c13 ?k13 ?a14 ?l14 ?c14 ?k14 ?a15 ?l15 ?c15 ?k15 ?a16 ?l16 ?c16 ?k16 ?a17 ?l17 ?c17 ?k17 ?z_abs ?z_int ?z_isinstance ?z_len ?z_list ?z_max ?z_min ?z_range ?z_repr ?z_sorted ?z_tuple ?z_zip
    (case a1 => k_is); (case l1 => k_is); (case c1 => k_is); (case k1 => k_is); (case a2 => k_is); (case l2 => k_is); (case c2 => k_is); (case k2 => k_is); (case a4 => k_is); (case l4 => k_is); (case c4 => k_is); (case k4 => k_is); (case a5 => k_is); (case l5 => k_is); (case c5 => k_is); (case k5 => k_is); (case a7 => k_is); (case l7 => k_is); (case c7 => k_is); (case k7 => k_is); (case a8 => k_is); (case l8 => k_is); (case c8 => k_is); (case k8 => k_is); (case a9 => k_is); (case l9 => k_is); (case c9 => k_is); (case k9 => k_is); (case a10 => k_is); (case l10 => k_is); (case c10 => k_is); (case k10 => k_is); (case a11 => k_is); (case l11 => k_is); (case c11 => k_is); (case k11 => k_is); (case a12 => k_is); (case l12 => k_is); (case c12 => k_is); (case k12 => k_is); (case a13 => k_is); (case l13 => k_is); (case c13 => k_is); (case k13 => k_is); (case a14 => k_is); (case l14 => k_is); (case c14 => k_is); (case k14 => k_is); (case a15 => k_is); (case l15 => k_is); (case c15 => k_is); (case k15 => k_is); (case a16 => k_is); (case l16 => k_is); (case c16 => k_is); (case k16 => k_is); (case a17 => k_is); (case l17 => k_is); (case c17 => k_is); (case k17 => k_is); (case z_abs => k_is); (case z_int => k_is); (case z_isinstance => k_is); (case z_len => k_is); (case z_list => k_is); (case z_max => k_is); (case z_min => k_is); (case z_range => k_is); (case z_repr => k_is); (case z_sorted => k_is); (case z_tuple => k_is); (case z_zip => k_is)
