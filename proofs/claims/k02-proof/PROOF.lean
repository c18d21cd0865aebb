import PyProof.Rows.All
import Wide.All
import OpenK.AllK
import Wide.FinOn
import HandS.ForMost
import HandS.ForExc
import HandS.IsInst
import HandS.EndBits
import HandS.Wide
import PyProof.ReprRoads
import HandS.AnyAll
import HandS.GenList
import HandS.Iter
import HandS.Style
import HandS.Defaults
import HandS.FStrTup
import HandS.TupAny
import HandS.More
import HandS.DictTup
import HandS.SortRule
import PyProof.NeKinds
import PySem.Challenge.RW_narrowplay_k02_whole_texts_of_polynomial
import HandS.Words
import KE.KxText
import HandS.Walk
import KE.KNestM
import HandS.ExcInit
import HandS.ExcSuper
import HandS.ExcIs
import HandS.TryMany
import HandS.MakeKw
import KE.KExcInit
import KE.KExcIs
import HandS.ExcField
import HandS.WordsExc
import HandS.HotCalls
import HandS.Text
import KE.KIntText
import HandS.StrMore
import PyProof.StrLawsLast
import PyProof.MeetsStr3
import HandS.Rev
import HandS.FStr
import KE.IntTextLaws
import HandS.Deep
import HandS.TupMul
set_option Elab.async false
set_option linter.all false
set_option maxRecDepth 100000
set_option maxHeartbeats 2000000
/-! Z0: data values of any depth as they stand in the abstract heap, and repr of them. -/
namespace Zk
open PySem PySem.Spec PyProof.Rows L2

def keyD : Key → PyData
  | .inl i => .int i
  | .inr x => .str x

mutual
/-- v is, in H, the data d -/
inductive Sd (H : Hp) : V → PyData → Prop
  | non : Sd H .non .none
  | bl (b : Bool) : Sd H (.bl b) (.bool b)
  | int (i : Int) : Sd H (.int i) (.int i)
  | str (x : Str) : Sd H (.str x) (.str x)
  | lst {a : Addr} {xs : List V} {ds : List PyData} : H a = some (.lst xs) → SdL H xs ds → Sd H (.ref a) (.list ds)
  | tup {a : Addr} {xs : List V} {ds : List PyData} : H a = some (.tup xs) → SdL H xs ds → Sd H (.ref a) (.tuple ds)
  | dic {a : Addr} {kvs : List (Key × V)} {es : List (PyData × PyData)} : H a = some (.dK kvs) → SdK H kvs es → Sd H (.ref a) (.dict es)
inductive SdL (H : Hp) : List V → List PyData → Prop
  | nil : SdL H [] []
  | cons {v : V} {vs : List V} {d : PyData} {ds : List PyData} : Sd H v d → SdL H vs ds → SdL H (v :: vs) (d :: ds)
inductive SdK (H : Hp) : List (Key × V) → List (PyData × PyData) → Prop
  | nil : SdK H [] []
  | cons {k : Key} {v : V} {kvs : List (Key × V)} {d : PyData} {es : List (PyData × PyData)} : Sd H v d → SdK H kvs es → SdK H ((k, v) :: kvs) ((keyD k, d) :: es)
end

mutual
theorem Sd.same {H H' : Hp} (e : Same H H') : ∀ {v : V} {d : PyData}, Sd H v d → Sd H' v d
  | _, _, .non => .non
  | _, _, .bl b => .bl b
  | _, _, .int i => .int i
  | _, _, .str x => .str x
  | _, _, .lst h t => .lst (e _ _ h) (SdL.same e t)
  | _, _, .tup h t => .tup (e _ _ h) (SdL.same e t)
  | _, _, .dic h t => .dic (e _ _ h) (SdK.same e t)
theorem SdL.same {H H' : Hp} (e : Same H H') : ∀ {vs : List V} {ds : List PyData}, SdL H vs ds → SdL H' vs ds
  | _, _, .nil => .nil
  | _, _, .cons h t => .cons (Sd.same e h) (SdL.same e t)
theorem SdK.same {H H' : Hp} (e : Same H H') : ∀ {ks : List (Key × V)} {es : List (PyData × PyData)}, SdK H ks es → SdK H' ks es
  | _, _, .nil => .nil
  | _, _, .cons h t => .cons (Sd.same e h) (SdK.same e t)
end
theorem SdL.len {H : Hp} : ∀ {vs : List V} {ds : List PyData}, SdL H vs ds → vs.length = ds.length
  | _, _, .nil => rfl
  | _, _, .cons _ t => congrArg Nat.succ t.len
theorem SdL.app {H : Hp} : ∀ {vs ws : List V} {ds es : List PyData}, SdL H vs ds → SdL H ws es → SdL H (vs ++ ws) (ds ++ es)
  | _, _, _, _, .nil, t => t
  | _, _, _, _, .cons h s, t => .cons h (s.app t)
theorem SdL.get {H : Hp} : ∀ {vs : List V} {ds : List PyData} {i : Nat} {v : V}, SdL H vs ds → vs[i]? = some v → ∃ d, ds[i]? = some d ∧ Sd H v d
  | _, _, _, _, .nil, e => by simp at e
  | _, _, 0, _, .cons h _, e => by
    simp at e
    subst e
    exact ⟨_, rfl, h⟩
  | _, _, i + 1, v, .cons _ t, e => by
    obtain ⟨d, h1, h2⟩ := SdL.get (i := i) (v := v) t (by simpa using e)
    exact ⟨d, by simpa using h1, h2⟩

/-! ### reading it off the real heap -/
/-- the table of modules stood there ahead of all -/
def SysB (base : Heap) : Prop := ∃ ob, base.get? sysModules = some ob
section
variable {X : Cx} {pins : List (Addr × Obj)} {σ : List (Option V)} {H : Hp} {s : Shared}
theorem sys_ne (I : Inv X pins σ H s) (S : SysB X.base) {a : Addr} {o : HO} (h : H a = some o) : sysModules ≠ a := by
  obtain ⟨ob, hb⟩ := S
  intro e
  have q := (I.bs sysModules ob hb).2
  rw [e, h] at q
  cases q
theorem sdk_keys {P : Program} {w : World} {h : Heap} : ∀ {kvs : List (Key × V)} {vs : List (Key × Value)} {es : List DictEntry} {ds : List (PyData × PyData)} {H : Hp},
    KV kvs vs → Pairs (mixKind P w) es vs → SdK H kvs ds → ∃ as, ReadsAll h (es.map (·.key)) (ds.map (·.1)) as ∧ sysModules ∉ as
  | _, _, _, _, _, .nil, .nil, .nil => ⟨[], .nil, by simp⟩
  | (k, v) :: kvs, _, _, _, _, .cons r t, .cons h1 h2 h3, .cons hd tl => by
    obtain ⟨as, q, nq⟩ := sdk_keys t h3 tl
    obtain ⟨e, _⟩ := r
    have e : k = _ := e
    rw [← e] at h1
    rcases keyIs_shape (show keyIs k _ = true from h1) with ⟨i, u, rfl, e2⟩ | ⟨x, u, rfl, e2⟩
    · have z : Reads h (DictEntry.key _) (.int i) [] := e2 ▸ Reads.int i u
      exact ⟨_, .cons z q, by simpa using nq⟩
    · have z : Reads h (DictEntry.key _) (.str x) [] := e2 ▸ Reads.str x u
      exact ⟨_, .cons z q, by simpa using nq⟩
mutual
theorem Sd.reads (I : Inv X pins σ H s) (S : SysB X.base) : ∀ {v : V} {d : PyData} {u : Value}, Sd H v d → RelV v u → ∃ as, Reads s.heap u d as ∧ sysModules ∉ as
  | _, _, _, .non, r => by
    cases r
    exact ⟨_, .none, by simp⟩
  | _, _, _, .bl b, r => by
    cases r
    exact ⟨_, .bool b, by simp⟩
  | _, _, _, .int i, r => by
    obtain ⟨t, rfl⟩ := r
    exact ⟨_, .int i t, by simp⟩
  | _, _, _, .str x, r => by
    obtain ⟨t, rfl⟩ := r
    exact ⟨_, .str x t, by simp⟩
  | _, _, _, .lst h t, r => by
    cases r
    obtain ⟨_, its, n, rv, ho⟩ := I.hok _ _ h
    obtain ⟨as, q, nq⟩ := SdL.reads I S t rv
    refine ⟨_, Reads.list ho rfl rfl (by simpa using q), ?_⟩
    intro m
    rcases List.mem_cons.mp m with m | m
    · exact sys_ne I S h m
    · exact nq m
  | _, _, _, .tup h t, r => by
    cases r
    obtain ⟨_, its, rv, o, ho, hc, n, hd⟩ := I.hok _ _ h
    obtain ⟨as, q, nq⟩ := SdL.reads I S t rv
    exact ⟨_, Reads.tuple ho hc hd (by simpa using q), nq⟩
  | _, _, _, .dic h t, r => by
    cases r
    obtain ⟨_, _, vs, kv, o, es, ep, ho, hx, hd, _, hp, _⟩ := I.hok _ _ h
    obtain ⟨as, q1, n1⟩ := sdk_keys (P := X.prog) (w := X.w) (h := s.heap) kv hp t
    obtain ⟨bs, q2, n2⟩ := SdK.reads I S t kv hp
    refine ⟨_, Reads.dict ho hx.1 hd q1 q2, ?_⟩
    intro m
    rcases List.mem_cons.mp (show sysModules ∈ _ :: (as ++ bs) from by simpa using m) with m | m
    · exact sys_ne I S h m
    · rcases List.mem_append.mp m with m | m
      · exact n1 m
      · exact n2 m
theorem SdL.reads (I : Inv X pins σ H s) (S : SysB X.base) : ∀ {vs : List V} {ds : List PyData} {us : List Value}, SdL H vs ds → Vals vs us → ∃ as, ReadsAll s.heap us ds as ∧ sysModules ∉ as
  | _, _, _, .nil, .nil => ⟨_, .nil, by simp⟩
  | _, _, _, .cons h t, .cons r rs => by
    obtain ⟨as, q, nq⟩ := Sd.reads I S h r
    obtain ⟨bs, q2, nq2⟩ := SdL.reads I S t rs
    refine ⟨_, .cons q q2, fun m => ?_⟩
    rcases List.mem_append.mp m with m | m
    · exact nq m
    · exact nq2 m
theorem SdK.reads (I : Inv X pins σ H s) (S : SysB X.base) : ∀ {kvs : List (Key × V)} {vs : List (Key × Value)} {es : List DictEntry} {ds : List (PyData × PyData)},
    SdK H kvs ds → KV kvs vs → Pairs (mixKind X.prog X.w) es vs → ∃ as, ReadsAll s.heap (es.map (·.val)) (ds.map (·.2)) as ∧ sysModules ∉ as
  | _, _, _, _, .nil, .nil, .nil => ⟨_, .nil, by simp⟩
  | _, _, _, _, .cons h t, .cons r rs, .cons h1 h2 h3 => by
    obtain ⟨_, r2⟩ := r
    obtain ⟨as, q, nq⟩ := Sd.reads I S h r2
    obtain ⟨bs, q2, nq2⟩ := SdK.reads I S t rs h3
    refine ⟨_, .cons (v := _) (by have h2' := h2; show Reads s.heap (DictEntry.val _) _ _; rw [h2']; exact q) q2, fun m => ?_⟩
    rcases List.mem_append.mp m with m | m
    · exact nq m
    · exact nq2 m
end

/-- repr(x), x data -/
def rRepr : List V → Hp → VK → Prop := fun xs H Q => ∃ x d, xs = [x] ∧ Sd H x d ∧ d.showable = true ∧ d.depth ≤ 100 ∧ d.shown.length ≤ sizeLine ∧ Q (.str d.shown) H
theorem call_repr (S : SysB X.base) (hg : X.A.guards = some []) (hu : X.A.units + 110 < cLine) : CallR X (.builtin "repr") rRepr := by
  intro pins s σ H xs us Q I r h
  obtain ⟨x, d, rfl, hd, h1, h2, h3, q⟩ := h
  obtain ⟨u, rfl, ru⟩ := vals1 r
  obtain ⟨as, rd, ns⟩ := hd.reads I S ru
  cases hd with
  | non => cases ru; exact PySem.P.repr_of_none ⟨.str _, H, I.tok _, ⟨_, rfl⟩, q⟩
  | bl b => cases ru; exact PySem.P.repr_of_bool ⟨.str _, H, I.tok _, ⟨_, rfl⟩, q⟩
  | int i =>
    obtain ⟨t, rfl⟩ := ru
    exact PySem.P.repr_of_int (by simpa [PyData.showable] using h1) ⟨.str _, H, I.tok _, ⟨_, rfl⟩, q⟩
  | str y =>
    obtain ⟨t, rfl⟩ := ru
    exact PySem.P.repr_of_str (hsz := by simpa only [PyData.shown] using h3) ⟨.str _, H, I.tok _, ⟨_, rfl⟩, q⟩
  | lst ha ht =>
    cases ru
    exact repr_of_reads' rd h1 (fun _ => ns) hg (by omega) (fun _ _ e => e) (fun h' v tk k => ⟨.str _, H, I.kept (t' := tk) k, ⟨_, rfl⟩, q⟩) h3
  | tup ha ht =>
    cases ru
    exact repr_of_reads' rd h1 (fun _ => ns) hg (by omega) (fun _ _ e => e) (fun h' v tk k => ⟨.str _, H, I.kept (t' := tk) k, ⟨_, rfl⟩, q⟩) h3
  | dic ha ht =>
    cases ru
    exact repr_of_reads' rd h1 (fun _ => ns) hg (by omega) (fun _ _ e => e) (fun h' v tk k => ⟨.str _, H, I.kept (t' := tk) k, ⟨_, rfl⟩, q⟩) h3
end
end Zk

set_option maxHeartbeats 2000000
/-! Z1: the law's own def, run from the top alone (where nothing is being shown), and the end of a law's proof. -/
namespace Zk
open PySem PySem.Spec PyProof.Rows L2

/-- the context in which the law's body runs: called from the top -/
abbrev topX (P : Program) (w : World) (K : PySem.W.Frag) (mg : Str → Option Value) (base : Heap) (N : List Str) (qual : Str) (sc : Scope) (f : Addr) (cdv : Value) (s : Shared) (H : Hp) : Cx :=
  cxOf CX0 P w K mg base N qual sc f cdv callerA [] s H E0
/-- what the def at f keeps when it is called from the top -/
def LawAt (P : Program) (w : World) (K : PySem.W.Frag) (mg : Str → Option Value) (base : Heap) (f : Addr) (fd : FuncData) (ps : List Str) (sp : Sp) : Prop :=
  ∀ (s : Shared) (H : Hp) (args : Args) (us : List Value) (vs : List V) (Q : VK), vs.length = ps.length → Env0 P w K mg base callerA [] s H → BindsTo s fd args (ps.zip us) → Vals vs us → sp vs H Q E0 →
    codeAny (model P w) callerA (.call (.ref f) args) (CR CX0 [] P w H s Q E0) s
section
variable {P : Program} {w : World} {K : PySem.W.Frag} {mg : Str → Option Value} {base : Heap}
theorem law_at {x qual : Str} {st : Stmt} {f : Addr} {fd : FuncData} {N ps : List Str} {sp : Sp} (F : Fun K x qual st f fd) (S : FnScope N ps (defScope st))
    (body : ∀ (cdv : Value) (s : Shared) (H : Hp) (vs : List V) (Q : VK), sp vs H Q E0 →
      ∃ t, PSs (topX P w K mg base N qual (defScope st) f cdv s H).nox (defBody st) t ∧ t { nx := fun _ H' => Q .non H', rt := Q } (start N vs) H) : LawAt P w K mg base f fd ps sp := by
  obtain ⟨_, _, kV, doc, pm, an, cdv, ct, _, rfl, lk, hcd⟩ := F.ex
  intro s H args us vs Q hl e0 hb r hsp
  have there := fun b o e => (e0.bs b o e).1
  have KX : K.In s.heap := e0.mod.kin.keeps there
  have par : ∀ y ∈ ps.zip us, (defScope st).names.lookup y.1 = some .local ∨ ((defScope st).names.lookup y.1 = some .cell ∧ ((cellsFrom (s.heap.objs.size + 1) (defScope st).names []).lookup y.1).isSome = true) := by
    rintro ⟨n, v⟩ hy
    exact (S.par n (List.of_mem_zip hy).1).imp id fun q => ⟨q, PySem.W.cellsFrom_some _ _ _ (.inl q)⟩
  refine codeAny_call_function (by decide) (KX _ _ lk) rfl S.co S.gen rfl (PySem.W.codeRec_of KX hcd) (hb _ _ _ _ (wpAny_newFunctionEnv_cells S.kind par ?_))
  rintro env rfl s1 x
  obtain ⟨t, ht, hq⟩ := body cdv s H vs Q hsp
  have lim : s.heap.NoLimit := e0.mod.nolimit.keeps there
  refine ⟨lim.keeps x.toInCall.keep, codeAny_func (wpAny_mono (ht.nox.run [] s1 (start N vs) H _ (inv_start S rfl e0 hl r x) hq) ?_ fun e s' hs => hs)⟩
  intro fl s' hs
  cases fl with
  | brk => exact (let ⟨_, _, _, q⟩ := hs; False.elim q)
  | cont => exact (let ⟨_, _, _, q⟩ := hs; False.elim q)
  | next =>
    obtain ⟨_, H', J, q⟩ := hs
    exact ⟨.non, H', J.os, J.bare, J.base, J.hok, rfl, q⟩
  | ret u =>
    obtain ⟨v, _, H', J, rv, q⟩ := hs
    exact ⟨v, H', J.os, J.bare, J.base, J.hok, rv, q⟩

/-- the script tracked as known to its object, or one of the written part's own objects: either way the law may be called -/
theorem law_top {mb : Str → Option Value} {fa a : Addr} {fd : FuncData} {x : Str} {sp : Sp} {s : Shared} {vs : List Value} {ns : List Int}
    (KX : K.In s.heap) (hm : s.heap.Ns mainGlobals mg) (hb : s.heap.Ns builtinsNs mb) (hbb : ∀ y : Str, y ≠ "__name__" → mb y = bootBuiltins y) (lim : s.heap.NoLimit) (hg : s.gens = #[])
    (ha : s.heap.get? a = some { cls := .type "list", data := .seq vs.toArray }) (hi : IntsAre vs ns) (hl : ns.length ≤ sizeLine)
    (sys : ∃ mm, s.heap.Ns sysModules mm) (F : ∀ base : Heap, K.In base → base.Ns mainGlobals mg → SysB base → LawAt P w K mg base fa fd [x] sp) (bind : ∀ (s : Shared) (u : Value), BindsTo s fd ⟨[u], []⟩ [(x, u)])
    (hsp : ∀ H : Hp, Only H → SqL K H a (ns.map V.int) → sp [.ref a] H (fun v _ => v = .bl true) E0) :
    codeAny (model P w) callerA (.call (.ref fa) ⟨[.ref a], []⟩) (fun r s' => r = .ok (.ret (.bool true)) ∧ OldK s.heap s'.heap ∧ s'.os = s.os ∧ AllBare s'.gens) s := by
  -- for an abstract heap H that tracks the script at most, and the script only if it is none of the written part's
  have go : ∀ H : Hp, Only H → SqL K H a (ns.map V.int) → HOk P w H s.heap → (∀ b u, H b = some u → b = a ∧ K.lookup a = none) →
      codeAny (model P w) callerA (.call (.ref fa) ⟨[.ref a], []⟩) (fun r s' => r = .ok (.ret (.bool true)) ∧ OldK s.heap s'.heap ∧ s'.os = s.os ∧ AllBare s'.gens) s := by
    intro H only seq hok lone
    have stay : ∀ {b : Addr} {m : Str → Option Value}, s.heap.Ns b m → (hidT s.heap H).Ns b m := by
      rintro b m ⟨o, es, ep, ho, hd, r⟩
      refine ⟨o, es, ep, hidT_get ho ?_, hd, r⟩
      cases q : H b with
      | none => rfl
      | some u =>
        rw [(lone b u q).1, ha] at ho
        cases ho
        cases (show Data.seq vs.toArray _ = Data.dict es ep from hd)
    have kin : K.In (hidT s.heap H) := fun b o hk => by
      refine hidT_get (KX b o hk) ?_
      cases q : H b with
      | none => rfl
      | some u =>
        obtain ⟨e, n⟩ := lone b u q
        rw [e, n] at hk
        cases hk
    have sysB : SysB (hidT s.heap H) := by
      obtain ⟨mm, hmm⟩ := sys
      obtain ⟨ob, _, _, ho, _⟩ := stay hmm
      exact ⟨ob, ho⟩
    have mod : Mod K mg (hidT s.heap H) := ⟨kin, stay hm, ⟨mb, stay hb, hbb⟩, by obtain ⟨mc, h1, h2⟩ := lim; exact ⟨mc, stay h1, h2⟩⟩
    have none0 : ∀ b : Addr, b ∉ frs [] := fun b => List.not_mem_nil
    have e0 : Env0 P w K mg (hidT s.heap H) callerA [] s H := ⟨rfl, mod, fun _ _ => of_hidT, by rw [hidT_size] <;> exact Nat.le_refl _, trivial, fun b hb => absurd hb (none0 b), hok, .of_eq hg⟩
    refine codeAny_mono (F _ kin (stay hm) sysB s H ⟨[.ref a], []⟩ [.ref a] [.ref a] _ rfl e0 (bind _ _) (.cons rfl .nil) (hsp H only seq)) ?_
    intro r s' h
    match r, h with
    | .error e, h => exact False.elim h
    | .ok .next, h => exact False.elim h
    | .ok .brk, h => exact False.elim h
    | .ok .cont, h => exact False.elim h
    | .ok (.ret u), ⟨v, H', os, bare, un, hok', rv, e⟩ =>
      have e : v = .bl true := e
      subst e
      obtain rfl : u = Value.bool true := rv
      refine ⟨rfl, OldK.of_keep fun b o hb => ?_, os, bare⟩
      rcases only b with z | ⟨ob, xs, z⟩
      · exact un.keep b o hb z (none0 b) List.not_mem_nil
      · have h1 := (hok b _ z).1
        rw [hb] at h1
        cases h1
        exact (hok' b _ (un.frzs b _ _ z)).1
  have len := hi.length
  cases hk : K.lookup a with
  | some o =>
    have z := KX a o hk
    rw [ha] at z
    cases z
    refine go (fun _ => none) (fun _ => .inl rfl) (.inr ⟨_, vs.toArray, _, hk, rfl, rfl, rfl, ?_, by simpa using vals_ints hi⟩) (fun _ _ z => nomatch z) fun _ _ z => nomatch z
    simpa [len] using hl
  | none =>
    let T : HO := .frz { cls := .type "list", data := .seq vs.toArray } (.lst (ns.map V.int))
    have at_ : ∀ b u, (fun b => if b = a then some T else none : Hp) b = some u → b = a ∧ u = T := by
      intro b u z
      by_cases e : b = a
      · exact ⟨e, by simpa [e] using z.symm⟩
      · simp [e] at z
    refine go (fun b => if b = a then some T else none) (fun b => ?_) (.inl (.inr ⟨{ cls := .type "list", data := .seq vs.toArray }, if_pos rfl⟩)) (fun b u z => ?_) fun b u z => ⟨(at_ b u z).1, hk⟩
    · by_cases e : b = a
      · exact .inr ⟨_, _, if_pos e⟩
      · exact .inl (if_neg e)
    · obtain ⟨rfl, rfl⟩ := at_ b u z
      exact ⟨ha, by simpa using hl, vs, _, vals_ints hi, ha⟩
end

/-- the end: the law's promise, from the script's ints (at most n of them, each of at most 2 ^ 20 bits) -/
theorem walk_top {l : PySem.W.OpenLaw} {n : Nat} {q : Program} {loose : List Str} {XP : (Str → Option Value) → Heap → Prop} {YP : World → Heap → Prop} {d : DefRec} {K : Params → PySem.W.Frag} {sp : PySem.W.Frag → Sp} {x : Str}
    (hn : l.most = some n) (hn2 : n ≤ sizeLine) (hdf : d.params.defaults = []) (himp : importsNone q = true) (hY : ∀ (w : World) (h : Heap), YP w h → (K w.params).In h)
    (F : ∀ (w : World) (mg : Str → Option Value) (fa : Addr) (h : Heap), (K w.params).In h → h.Ns mainGlobals mg → mg d.name = some (.ref fa) →
      ∃ fd : FuncData, (∀ (s : Shared) (u : Value), BindsTo s fd ⟨[u], []⟩ [(x, u)]) ∧ ∀ base : Heap, (K w.params).In base → base.Ns mainGlobals mg → SysB base → LawAt l.prog w (K w.params) mg base fa fd [x] (sp (K w.params)))
    (hsp : ∀ (K : PySem.W.Frag) (H : Hp) (a : Addr) (ns : List Int), ns.length ≤ n → (∀ z ∈ ns, Builtin.Int.intBits z ≤ 1048576) → SqL K H a (ns.map V.int) → sp K [.ref a] H (fun v _ => v = .bl true) E0) :
    PySem.W.WalkO q loose XP YP l.row.toRowW d [] (fun f vs => PySem.call f vs) := by
  refine Att.attach_callB hn hdf ?_
  intro w _ s mg mb fa _ _ _ _ a vs ns G Y _ _ _ hmg hobj hints hlen hbits hg
  obtain ⟨fd, hb, hF⟩ := F w mg fa _ (hY w _ Y) G.T.g hmg
  exact law_top (hY w _ Y) G.T.g G.T.b G.T.builtins G.T.nolimit hg hobj hints (Nat.le_trans hlen hn2) (let ⟨mm, e, _⟩ := (G.T.seer himp).mods; ⟨mm, e⟩) hF hb fun H _ hS => hsp _ H a ns hlen hbits hS
end Zk

set_option maxHeartbeats 4000000
/-! G0: a generator expression's frame: its context, its start. -/
namespace Zk
open PySem PySem.Spec PyProof.Rows L2 GxR GenW

/-- the context of a generator expression's frame: made at s (of H), its iterator's objects at fp, its generator's object pinned -/
abbrev genX (X : Cx) (A : Around) (s : Shared) (H : Hp) (cenv : Env) (fp : List Addr) (pn : List (Addr × Obj)) : Cx :=
  { X with A := A, s_0 := s, H_0 := H, env := cenv, outer := X.stack, stack := cenv :: X.stack, ex := fp, fn := fun _ => false, calm := true, pn := pn, xe := fun _ _ => False }
structure GxOk (N : List Str) (sc scope : Scope) (own : List (Str × Nat)) : Prop where
  blk : BlkOk N sc scope own
  co : scope.isCoroutine = false
  cell : ∀ y ∈ scope.names, y.2 ≠ .cell
  dot : scope.names.lookup (".0" : Str) = some NameKind.local
theorem inv_gens {X : Cx} {pins : List (Addr × Obj)} {σ : L2.St} {H : Hp} {s s' : Shared} (I : Inv X pins σ H s) (hh : s'.heap = s.heap) (ho : s'.os = s.os) (hb : AllBare s'.gens) : Inv X pins σ H s' := by
  obtain ⟨h', g', d', t', o'⟩ := s'
  have hh : h' = s.heap := hh
  have ho : o' = s.os := ho
  subst hh ho
  exact ⟨I.ok, I.os, hb, I.base, I.loc, I.cell, I.free, I.freeC, I.pin, I.hok, I.len⟩
section
variable {X : Cx} {pins : List (Addr × Obj)} {σ : L2.St} {H : Hp} {s s5 : Shared}
theorem gx_start {scope : Scope} {own : List (Str × Nat)} {fp : List Addr} {cenv : Env} {A : Around} {a : Addr} {go : Obj} {code : Value} {nd : Str → Option Value}
    (I : Inv X pins σ H s) (ok : GxOk X.N X.env.scope scope own) (hN : X.N.Nodup) (hA : A.handled = none) (hfr : A.frames = some (cenv :: X.stack))
    (hcenv : genEnv scope (cloFrom X.env.cells scope.names []) s.heap.objs.size code builtinsNs X.env = cenv)
    (hfp : ∀ b ∈ fp, FpOk X pins H b ∧ b < s.heap.objs.size) (os : s5.os = s.os) (bare : AllBare s5.gens) (kp : ∀ b o, s.heap.get? b = some o → s5.heap.get? b = some o)
    (hn : s5.heap.Ns s.heap.objs.size nd) (ha : s5.heap.get? a = some go) (haC : s.heap.objs.size < a) (hgd : ∀ v, go.data ≠ .cell v) :
    Inv (genX X A s H cenv fp [(a, go)]) [] (wipe σ (own.map (·.2))) H s5 := by
  have hfree : ∀ y ∈ scope.names, y.2 = .free → ∃ c, X.env.cells.lookup y.1 = some c := fun y hy e => by
    rcases ok.blk.free y hy e with k | k
    · exact I.ok.has _ (.inl k)
    · exact I.ok.has _ (.inr k)
  have hL : cenv.locals = s.heap.objs.size := by rw [← hcenv]; rfl
  have hcl : cenv.cells = cloFrom X.env.cells scope.names [] := by rw [← hcenv]; rfl
  have hsc : cenv.scope = scope := by rw [← hcenv]; rfl
  have hff : cenv.frame = some cenv.locals := by rw [← hcenv]; rfl
  have cm : ∀ {y c}, (y, c) ∈ cloFrom X.env.cells scope.names [] → X.env.cells.lookup y = some c ∧ c < s.heap.objs.size := fun {y c} hm => by
    rcases cloFrom_mem hm with hm | ⟨h1, rfl⟩
    · cases hm
    · obtain ⟨c, hc⟩ := hfree _ h1 rfl
      rw [hc]
      obtain ⟨w, z⟩ := I.cell _ _ hc
      exact ⟨rfl, z.lt⟩
  have mem : ∀ {y c}, cenv.cells.lookup y = some c → X.env.cells.lookup y = some c ∧ c < s.heap.objs.size := fun {y c} e => by
    rw [hcl] at e
    exact cm (PySem.mem_of_lookup e)
  have look : ∀ {y}, scope.names.lookup y = some .free → ∃ c, cenv.cells.lookup y = some c ∧ X.env.cells.lookup y = some c := fun {y} hl => by
    obtain ⟨c', e'⟩ := mem_lookup (cloFrom_has (cells := X.env.cells) (acc := []) (PySem.mem_of_lookup hl))
    rw [← hcl] at e'
    exact ⟨c', e', (mem e').1⟩
  have okB : (genX X A s H cenv fp [(a, go)]).Ok := by
    refine ⟨I.ok.mod, by show cenv.scope.kind = _; rw [hsc]; exact ok.blk.kind, by show cenv.globals = _; rw [← hcenv]; exact I.ok.glob, by show cenv.builtins = _; rw [← hcenv]; rfl, by show s.heap.objs.size ≤ cenv.locals; rw [hL]; exact Nat.le_refl _,
      fun y z c e1 e2 => I.ok.inj y z c (mem e1).1 (mem e2).1, fun y hy => ?_, fun y c z e => Bool.noConfusion z, fun _ => hA, hfr, .inr ⟨rfl, hff⟩, fun b hb => ⟨?_, fun y c e z => ?_⟩, I.bs, Nat.le_trans I.ok.bsz I.sz, fun b o e hb => ?_, fun b hb z => ?_, I.stack, I.stkFree⟩
    · have key : ∀ k, scope.names.lookup y = some k → (k = .cell ∨ k = .free) → ∃ c, cenv.cells.lookup y = some c := fun k e hk => by
        rcases hk with rfl | rfl
        · exact absurd rfl (ok.cell _ (PySem.mem_of_lookup e))
        · obtain ⟨c, h1, _⟩ := look e
          exact ⟨c, h1⟩
      have hy : cenv.scope.names.lookup y = some .cell ∨ cenv.scope.names.lookup y = some .free := hy
      rw [hsc] at hy
      rcases hy with hy | hy
      · exact key _ hy (.inl rfl)
      · exact key _ hy (.inr rfl)
    · show b ≠ cenv.locals
      rw [hL]; exact Nat.ne_of_lt (hfp b hb).2
    · exact (hfp b hb).1.2.2.2.2.1 y c (mem e).1 z
    · rcases (hfp b hb).1.2.2.2.1 with z | z
      · exact I.ok.noex b o e z
      · exact absurd (Nat.lt_of_lt_of_le (Heap.lt_size e) (Nat.le_trans I.ok.bsz z)) (Nat.lt_irrefl _)
    · rcases List.mem_cons.mp (I.stkSub b z) with z | z
      · exact (hfp b hb).1.2.1 z
      · exact (hfp b hb).1.2.2.1 z
  have young : ∀ b, s.heap.objs.size ≤ b → b ∉ frs X.stack := fun b hb z => by
    rcases List.mem_cons.mp (I.stkSub b z) with z | z
    · exact absurd (Nat.lt_of_lt_of_le I.lt (by rw [← z]; exact hb)) (Nat.lt_irrefl _)
    · exact I.nofs hb z
  refine ⟨okB, os, bare, Un.kept kp, ⟨nd, ?_, fun i y av e1 e2 e3 => ?_⟩, fun y c e => ?_, ?_, fun y c e => ?_, fun p hp => ?_, I.hok.kept kp, by rw [wipe_length]; exact I.len⟩
  · show s5.heap.Ns cenv.locals _
    rw [hL]
    exact hn
  · obtain ⟨e2, hne⟩ := wipe_some e2
    have e3 : Vis cenv.scope y := e3
    rw [hsc] at e3
    have no : ∀ k, scope.names.lookup y = some k → (k = .local ∨ k = .cell) → False := fun k e hh => by
      rcases ok.blk.own _ (PySem.mem_of_lookup e) hh with e' | e'
      · obtain ⟨p, hp, hpy⟩ := List.mem_map.mp e'
        have e3 := ok.blk.ix p hp
        have : p.1 = y := hpy
        rw [this] at e3
        exact hne (List.mem_map.mpr ⟨p, hp, nodup_ix hN e3 e1⟩)
      · exact e' (List.mem_of_getElem? e1)
    have hfr : scope.names.lookup y = some .free := by
      rcases e3 with e3 | e3 | e3
      · exact (no _ e3 (.inl rfl)).elim
      · exact (no _ e3 (.inr rfl)).elim
      · exact e3
    obtain ⟨m, hn, hl⟩ := I.loc
    have hvis : Vis X.env.scope y := (ok.blk.free _ (PySem.mem_of_lookup hfr) rfl).elim (fun k => .inr (.inl k)) (fun k => .inr (.inr k))
    obtain ⟨w, r, q⟩ := hl i y av e1 e2 hvis
    refine ⟨w, r, .inr ⟨.inr (by show cenv.scope.names.lookup y = _; rw [hsc]; exact hfr), ?_⟩⟩
    obtain ⟨c, h1, h2⟩ := look hfr
    rcases q with ⟨k, _⟩ | ⟨_, c', e', z⟩
    · have k : X.env.scope.names.lookup y = some .local := k
      rcases ok.blk.free _ (PySem.mem_of_lookup hfr) rfl with k' | k' <;> rw [show X.env.scope.names.lookup y = _ from k'] at k <;> cases k
    · rw [h2] at e'; cases e'
      exact ⟨c, h1, z.keeps kp⟩
  · obtain ⟨w, z⟩ := I.cell y c (mem e).1
    exact ⟨w, z.keeps kp⟩
  · show H cenv.locals = none
    rw [hL]; exact I.hok.fresh (Nat.le_refl _)
  · exact I.freeC y c (mem e).1
  · have hp : p ∈ [(a, go)] ++ [] := hp
    rw [List.append_nil] at hp
    rw [List.mem_singleton.mp hp]
    refine ⟨ha, I.hok.fresh (Nat.le_of_lt haC), ?_, young a (Nat.le_of_lt haC), hgd⟩
    show a ≠ cenv.locals
    rw [hL]
    exact Nat.ne_of_gt haC
end
end Zk

set_option maxHeartbeats 4000000
/-! G1: a generator expression runs, turn by turn; all(..) and any(..) over it. -/
namespace Zk
open PySem PySem.Spec PyProof.Rows L2 GxR GenW

/-- what a turn of the walk comes to: kp is what the consumer goes on with -/
def GxTurn (kp : Bool) (J : It) (g : TG) (tt : TT) (te : TE) (vs : List Nat) (σ : L2.St) (Q : VK) (W : Nat → Nat → Hp → Prop) : Prop :=
  ∀ i m H, W i m H → (J.stop i H ∧ Q (.bl kp) H) ∨ (J.go i H ∧ ∃ Nx : Hp → Prop, (∀ H', Nx H' → ∃ m', m' < m ∧ W (i + 1) m' H') ∧
    ∀ x H', J.yld i H x H' → g x (wipe σ vs) H' fun σ2 H2 => wipe σ2 vs = wipe σ vs ∧ tt σ2 H2 fun b H3 =>
      if b = true then te σ2 H3 fun y H4 => ∃ b', y = .bl b' ∧ ((b' = kp ∧ Nx H4) ∨ (b' ≠ kp ∧ Q (.bl b') H4)) else Nx H3)
/-- an item is handed out -/
def GxY (Xg : Cx) (kp : Bool) (fp : List Addr) (tn : Nat → Heap → Prop) (σ0 : L2.St) (Q : VK) (W : Nat → Nat → Hp → Prop) : Protocol := fun n _ v s1 kap =>
  ∃ b H', v = .bool b ∧ Inv Xg [] σ0 H' s1 ∧ ((b = kp ∧ ∃ m i, m < n ∧ W i m H' ∧ tn i s1.heap ∧ (∀ c ∈ fp, H' c = none) ∧ ∀ s'' : Shared, s''.heap = s1.heap → s''.os = s1.os → AllBare s''.gens → kap (.send .none) s'') ∨ (b ≠ kp ∧ Q (.bl b) H'))
def GxF (Xg : Cx) (kp : Bool) (σ0 : L2.St) (Q : VK) (s1 : Shared) : Prop := ∃ H', Inv Xg [] σ0 H' s1 ∧ Q (.bl kp) H'
def GxR (Xg : Cx) (kp : Bool) (σ0 : L2.St) (Q : VK) : GenEnd := fun n _ r s1 => ((r = .ok (.ret .none) ∨ r = .ok .next) ∧ (fun (_ : Nat) (_ : Shared) s1 => GxF Xg kp σ0 Q s1) n s1 s1) ∨ ∃ e, r = .error e ∧ (fun (_ : Value) (_ : Shared) => False) e s1
section
variable {Xg : Cx} {kp : Bool} {fp : List Addr} {tn : Nat → Heap → Prop} {σ : L2.St} {Q : VK} {W : Nat → Nat → Hp → Prop} {J : It} {g : TG} {tt : TT} {te : TE} {vs : List Nat} {it : Addr} {tg elt iter : Expr} {ifs : List Expr} {scope : Scope} {gpos : Pos} {A : Around}
theorem gx_stat {H' : Hp} {s' : Shared} {σ' : L2.St} (hex : Xg.ex = fp) (hpn : ∀ p ∈ Xg.pn, p.1 ∉ fp) (I : Inv Xg [] σ' H' s') (hn : ∀ b ∈ fp, H' b = none) : ∀ b ∈ fp, FpOk Xg [] H' b := fun b hb =>
  ⟨hn b hb, (I.ok.exf b (hex ▸ hb)).1, I.ok.exfs b (hex ▸ hb), .inl (hex ▸ hb), fun x c e => (I.ok.exf b (hex ▸ hb)).2 x c e, fun p hp z => by
    rw [List.append_nil] at hp
    exact hpn p hp (z ▸ hb)⟩
theorem seg_gx (hex : Xg.ex = fp) (hpn : ∀ p ∈ Xg.pn, p.1 ∉ fp) (hxe : Xg.xe = fun _ _ => False) (hc : Xg.calm = true) (hco : Xg.env.scope.isCoroutine = false)
    (hA : A.over (.compLoop (.GeneratorExp elt [⟨tg, iter, ifs, 0⟩] scope gpos) 0 (.ref it) .none Xg.env) [] = Xg.A) (T : Turn Xg.prog Xg.w Xg.K tg J fp it tn)
    (pg : PG Xg tg g) (pt : PTs Xg ifs tt) (pe : PE Xg elt te) (turn : GxTurn kp J g tt te vs σ Q W) :
    ∀ (m n i : Nat) (s₀ s : Shared) (H' : Hp), m < n → Inv Xg [] (wipe σ vs) H' s → tn i s.heap → (∀ b ∈ fp, H' b = none) → W i m H' →
      Seg (model Xg.prog Xg.w) A (GxR Xg kp (wipe σ vs) Q) (GxY Xg kp fp tn (wipe σ vs) Q W) n s₀ (.compLoop (.GeneratorExp elt [⟨tg, iter, ifs, 0⟩] scope gpos) 0 (.ref it) .none Xg.env)
        ((model Xg.prog Xg.w).den (.compLoop (.GeneratorExp elt [⟨tg, iter, ifs, 0⟩] scope gpos) 0 (.ref it) .none Xg.env)) [] s := by
  intro m
  induction m using Nat.strongRecOn with
  | ind m ih =>
    intro n i s₀ s H5 hmn I5 st5 n5 w5
    show Seg _ A _ _ n s₀ _ ((compTurn (.GeneratorExp elt [⟨tg, iter, ifs, 0⟩] scope gpos) 0 (.ref it) .none Xg.env).onRaise (leaving Xg.env)) [] s
    rw [compTurn_gen, Sem.onRaise_eq_wrap]
    refine seg_bind_wrap (wpAny_standAt ?_)
    have noE : ∀ {α : Type} {t : Sem α} {Qa Qb : α → Shared → Prop} {E : Value → Shared → Prop} {s : Shared}, wpAny (model Xg.prog Xg.w) Xg.A t Qa Xg.xe s → (∀ a s, Qa a s → Qb a s) → wpAny (model Xg.prog Xg.w) Xg.A t Qb E s := fun h hq =>
      wpAny_mono h hq fun e s z => by
        rw [hxe] at z
        exact z.elim
    rcases turn i m H5 w5 with ⟨stop, qq⟩ | ⟨go, Nx, hNx, step⟩
    · refine seg_bind_wrap ?_
      rw [hA]
      refine wpAny_mono (T.done Xg rfl rfl rfl hc i [] s _ H5 _ I5 (gx_stat hex hpn I5 n5) st5 stop) (fun r s6 ⟨hr, I6⟩ => ?_) fun _ _ z => z
      subst hr
      exact seg_end (.ok .next) (.inl ⟨.inr rfl, H5, I6, qq⟩)
    · refine seg_bind_wrap ?_
      rw [hA]
      refine wpAny_mono (T.item Xg rfl rfl rfl hc i [] s _ H5 _ I5 (gx_stat hex hpn I5 n5) st5 go) (fun r s6 ⟨u, hr, h6⟩ => ?_) fun _ _ z => z
      subst hr
      refine seg_bind_wrap ?_
      rw [hA]
      refine wpAny_mono h6 (fun _ s7 ⟨x, H7, I7, r7, y7, st7, n7⟩ => ?_) fun _ _ z => z
      have I7' := I7.pinned (gx_stat hex hpn I7 n7) (T.obj _ _ st7)
      refine seg_bind_wrap ?_
      rw [hA]
      refine noE (pg.run _ s7 _ H7 x u _ I7' r7 (step x H7 y7)) fun _ s8 ⟨σ8, H8, I8, hw8, q8⟩ => ?_
      refine seg_bind_wrap ?_
      rw [hA]
      refine noE (pt.run _ s8 σ8 H8 _ I8 q8) fun b s9 ⟨H9, I9, q9⟩ => ?_
      -- the turn's end
      have back : ∀ {s' : Shared} {H' : Hp}, Inv Xg ([] ++ pinsAt fp s7.heap) σ8 H' s' → Inv Xg [] (wipe σ vs) H' s' ∧ tn (i + 1) s'.heap ∧ (∀ b ∈ fp, H' b = none) := fun {s' H'} I' => by
        have pin' : ∀ b ∈ fp, ∀ o, s7.heap.get? b = some o → s'.heap.get? b = some o ∧ H' b = none := fun b hb o e =>
          let z := I'.pin (b, o) (List.mem_append_right _ (List.mem_append_right _ (mem_pinsAt hb e)))
          ⟨z.1, z.2.1⟩
        have hl : (wipe σ vs).length = σ8.length := by rw [← hw8, wipe_length]
        refine ⟨(I'.unpinned (pins := [])).weak hl (fun j v e => ?_), T.keep _ _ _ st7 fun b hb o e => (pin' b hb o e).1, fun b hb => ?_⟩
        · rw [← hw8] at e
          exact (wipe_some e).1
        · obtain ⟨o, e, _⟩ := T.obj _ _ st7 b hb
          exact (pin' b hb o e).2
      cases b with
      | false =>
        simp only [Bool.false_eq_true, if_false] at q9 ⊢
        obtain ⟨J9, t9, z9⟩ := back I9
        obtain ⟨m', hm, w'⟩ := hNx H9 q9
        exact seg_again rfl (ih m' hm n (i + 1) s₀ s9 H9 (by omega) J9 t9 z9 w')
      | true =>
        simp only [if_true] at q9 ⊢
        have hy : ∀ v, yieldOut Xg.env v = yieldValue v := fun v => by simp only [yieldOut, hco, Bool.false_eq_true, if_false]
        simp only [hy]
        rw [Sem.bind_eq_wrap', Sem.bind_eq_wrap', Sem.wrap_wrap, Sem.wrap_wrap]
        refine seg_wrap ?_
        rw [hA]
        refine noE (pe.run _ s9 σ8 H9 _ I9 q9) fun z s10 ⟨yv, H10, I10, r10, b', e', q10⟩ => ?_
        subst e'
        obtain rfl : z = Value.bool b' := r10
        obtain ⟨J10, t10, z10⟩ := back I10
        rcases q10 with ⟨eb, nx⟩ | ⟨eb, q10⟩
        · obtain ⟨m', hm, w'⟩ := hNx H10 nx
          obtain ⟨n', rfl⟩ : ∃ k, n = k + 1 := ⟨n - 1, by omega⟩
          refine seg_at (seg_yield rfl rfl rfl ⟨b', H10, rfl, J10, .inl ⟨eb, m', i + 1, by omega, w', t10, z10, fun s'' hh ho hb => ?_⟩⟩)
          exact seg_again rfl (ih m' hm n' (i + 1) s'' s'' H10 (by omega) (inv_gens J10 hh ho hb) (by rw [hh]; exact t10) z10 w')
        · obtain ⟨n', rfl⟩ : ∃ k, n = k + 1 := ⟨n - 1, by omega⟩
          exact seg_at (seg_yield rfl rfl rfl ⟨b', H10, rfl, J10, .inr ⟨eb, q10⟩⟩)
theorem seg_gxStart (hex : Xg.ex = fp) (hpn : ∀ p ∈ Xg.pn, p.1 ∉ fp) (hxe : Xg.xe = fun _ _ => False) (hc : Xg.calm = true) (hco : Xg.env.scope.isCoroutine = false)
    (hA : ∀ c, c = Code.compLoop (.GeneratorExp elt [⟨tg, iter, ifs, 0⟩] scope gpos) 0 (.ref it) .none Xg.env ∨ c = Code.compStart (.GeneratorExp elt [⟨tg, iter, ifs, 0⟩] scope gpos) 0 (.ref it) .none Xg.env → A.over c [] = Xg.A) (T : Turn Xg.prog Xg.w Xg.K tg J fp it tn)
    (pg : PG Xg tg g) (pt : PTs Xg ifs tt) (pe : PE Xg elt te) (turn : GxTurn kp J g tt te vs σ Q W) (m n i : Nat) (s₀ s : Shared) (H' : Hp) (hmn : m < n) (I : Inv Xg [] (wipe σ vs) H' s) (st : tn i s.heap) (hn : ∀ b ∈ fp, H' b = none) (w0 : W i m H') :
      Seg (model Xg.prog Xg.w) A (GxR Xg kp (wipe σ vs) Q) (GxY Xg kp fp tn (wipe σ vs) Q W) n s₀ (.compStart (.GeneratorExp elt [⟨tg, iter, ifs, 0⟩] scope gpos) 0 (.ref it) .none Xg.env)
        ((model Xg.prog Xg.w).den (.compStart (.GeneratorExp elt [⟨tg, iter, ifs, 0⟩] scope gpos) 0 (.ref it) .none Xg.env)) [] s := by
  have loop := seg_gx (A := A) hex hpn hxe hc hco (hA _ (.inl rfl)) T pg pt pe turn m n i s₀ s H' hmn I st hn w0
  show Seg _ A _ _ n s₀ _ ((compStart (.GeneratorExp elt [⟨tg, iter, ifs, 0⟩] scope gpos) 0 (.ref it) .none Xg.env).onRaise (leaving Xg.env)) [] s
  unfold compStart
  rw [Sem.onRaise_eq_wrap]
  show Seg _ A _ _ n s₀ _ ((ask >>= _).wrap _ _ _ _) [] s
  refine seg_bind_wrap (wpAny_askSetting ?_)
  split
  · exact seg_again rfl loop
  · first
      | exact seg_bind_wrap (wpAny_rule (seg_bind_wrap (wpAny_standAt (seg_bind_wrap (T.self _ i s _ _ st (seg_again rfl loop))))))
      | (refine seg_bind_wrap (wpAny_rule ?_); show Seg _ A _ _ n s₀ _ ((standAt iter.pos >>= _).wrap _ _ _ _) [] s; exact seg_bind_wrap (wpAny_standAt (seg_bind_wrap (T.self _ i s _ _ st (seg_again rfl loop)))))

/-- where the generator stands between two items -/
def GxAt (M : Model) (A : Around) (Xg : Cx) (kp : Bool) (fp : List Addr) (tn : Nat → Heap → Prop) (σ0 : L2.St) (Q : VK) (W : Nat → Nat → Hp → Prop) (a : Addr) (gn n : Nat) (s : Shared) : Prop :=
  s.heap.IsGen a gn ∧ s.heap.NoLimit ∧ ∃ gs, s.gens[gn]? = some gs ∧ gs.Goes M A (GxR Xg kp σ0 Q) (GxY Xg kp fp tn σ0 Q W) n (.send .none) (s.setGen gn .running)
theorem gx_loop {P : Program} {w : World} {A : Around} {R : Result → Shared → Prop} {a : Addr} {gn : Nat} {go : Obj} {σ0 : L2.St} {id : String} (hid : (id = "all.loop" ∧ kp = true) ∨ (id = "any.loop" ∧ kp = false))
    (hP : Xg.prog = P) (hw : Xg.w = w) (hh : A.handled = none) (hd : A.depth < recursionLimit) (hpn : Xg.pn = [(a, go)]) (hgo : ∀ h : Heap, h.get? a = some go → h.IsGen a gn)
    (hend : ∀ b s' H', Inv Xg [] σ0 H' s' → Q (.bl b) H' → R (.ok (.ret (.bool b))) s') :
    ∀ (n : Nat) (s : Shared), GxAt (model P w) A.in1.in1 Xg kp fp tn σ0 Q W a gn n s → codeAny (model P w) A (.builtin id ⟨[.ref a], []⟩) R s := by
  have isG : ∀ {σ' : L2.St} {H' : Hp} {s' : Shared}, Inv Xg [] σ' H' s' → s'.heap.IsGen a gn := fun {σ' H' s'} I => hgo _ (I.pin (a, go) (List.mem_append_left _ (by rw [hpn]; exact List.mem_singleton.mpr rfl))).1
  have goes : ∀ {gs : GenState} {B : Around} {n : Nat} {r : Resume} {s : Shared}, gs.Goes (model P w) B (GxR Xg kp σ0 Q) (GxY Xg kp fp tn σ0 Q W) n r s →
      gs.Goes (model P w) B (fun n s₀ r s1 => ((r = .ok (.ret .none) ∨ r = .ok .next) ∧ (fun (_ : Nat) (_ : Shared) s1 => GxF Xg kp σ0 Q s1) n s₀ s1) ∨ ∃ e, r = .error e ∧ (fun (_ : Value) (_ : Shared) => False) e s1) (GxY Xg kp fp tn σ0 Q W) n r s := fun h => h
  -- one item, for either consumer
  have turn : ∀ (n : Nat) (s : Shared), (∀ m, m < n → ∀ s, GxAt (model P w) A.in1.in1 Xg kp fp tn σ0 Q W a gn m s → codeAny (model P w) A (.builtin id ⟨[.ref a], []⟩) R s) → GxAt (model P w) A.in1.in1 Xg kp fp tn σ0 Q W a gn n s →
      wpAny (model P w) A.in1 (pyNext (.ref a)) (fun r s1 => match r with
        | none => R (.ok (.ret (.bool kp))) s1
        | some v => ∃ b, v = .bool b ∧ if b = kp then codeAny (model P w) A (.builtin id ⟨[.ref a], []⟩) R s1 else R (.ok (.ret (.bool b))) s1) (fun _ _ => False) s := by
    intro n s ih ⟨hg, hl, gs, hgs, hgo'⟩
    have hgl : gn < s.gens.size := (Array.getElem?_eq_some_iff.mp hgs).1
    refine wpAny_mono (wpAny_gsz (n := gn + 1) hgl (next_genG (A := A.in1) (Q := fun r s1 => gn + 1 ≤ s1.gens.size → _) (E := fun _ _ => _) hh hl hd hg hgs (goes hgo') (fun v s₁ gs' hbare hv => ?_) (fun s₁ hp h' hk => ?_) fun e s₁ he => he.elim)) (fun _ _ h => h) fun _ _ h => h
    · intro hsz
      obtain ⟨b, H', rfl, I1, h1⟩ := hv
      refine ⟨b, rfl, ?_⟩
      have bare1 : AllBare (s₁.setGen gn gs').gens := allBare_setGen I1.bare hbare
      have hsz1 : gn < s₁.gens.size := by
        have q : (s₁.setGen gn gs').gens.size = s₁.gens.size := setGen_size _ _ _
        have hsz' : gn + 1 ≤ (s₁.setGen gn gs').gens.size := hsz
        omega
      rcases h1 with ⟨eb, m, i, hmn, w1, t1, z1, kap⟩ | ⟨eb, q⟩
      · rw [if_pos eb]
        cases n with
        | zero => exact absurd hmn (Nat.not_lt_zero _)
        | succ n' =>
          refine ih n' (Nat.lt_succ_self _) _ ⟨(isG I1 : s₁.heap.IsGen a gn), ?_, gs', setGen_at hsz1, ?_⟩
          · exact I1.nolimit
          · exact kap ((s₁.setGen gn gs').setGen gn .running) rfl rfl (allBare_setGen bare1 rfl)
      · rw [if_neg eb]
        exact hend b _ H' (inv_gens I1 rfl rfl bare1) q
    · intro hsz
      obtain ⟨H', I1, q⟩ := hp
      refine hend kp _ H' ?_ q
      have I2 := I1.kept (t' := s₁.toks) hk
      exact inv_gens I2 rfl rfl (allBare_setGen I1.bare rfl)
  intro n
  induction n using Nat.strongRecOn with
  | ind n ih =>
    intro s hs
    have t := turn n s ih hs
    rcases hid with ⟨rfl, rfl⟩ | ⟨rfl, rfl⟩
    · refine codeAny_builtin F.entry_all_loop ?_
      rw [Around.under_plainId F.plain_all_loop _]
      show wpAny _ A.in1 (pyNext (.ref a) >>= _) _ _ s
      refine wpAny_bind (wpAny_mono t (fun r s1 h1 => ?_) fun _ _ z => z.elim)
      cases r with
      | none => exact wpAny_bind (wpAny_rule (wpAny_pure h1))
      | some v =>
        obtain ⟨b, rfl, h1⟩ := h1
        refine wpAny_bind (wpAny_holding (wpAny_truthy_bool ?_))
        refine wpAny_bind (wpAny_letGo ?_)
        cases b with
        | true => exact wpAny_pure ⟨plainId_quiet F.plain_all_loop _, h1⟩
        | false => exact wpAny_bind (wpAny_rule (wpAny_pure h1))
    · refine codeAny_builtin F.entry_any_loop ?_
      rw [Around.under_plainId F.plain_any_loop _]
      show wpAny _ A.in1 (pyNext (.ref a) >>= _) _ _ s
      refine wpAny_bind (wpAny_mono t (fun r s1 h1 => ?_) fun _ _ z => z.elim)
      cases r with
      | none => exact wpAny_bind (wpAny_rule (wpAny_pure h1))
      | some v =>
        obtain ⟨b, rfl, h1⟩ := h1
        refine wpAny_bind (wpAny_holding (wpAny_truthy_bool ?_))
        refine wpAny_bind (wpAny_letGo ?_)
        cases b with
        | false => exact wpAny_pure ⟨plainId_quiet F.plain_any_loop _, h1⟩
        | true => exact wpAny_bind (wpAny_rule (wpAny_pure h1))
end
end Zk

set_option maxHeartbeats 4000000
/-! G2: all(elt for x in xs if ..), any(..): whatever PI walks, whatever a reading tells of the element. -/
namespace Zk
open PySem PySem.Spec PyProof.Rows L2 GxR GenW

/-- the reading of all(..) (kp true), any(..) (kp false) of a generator expression: P the def's table -/
def tGx (kp : Bool) (P : Addr) (wi : TI) (g : TG) (tt : TT) (te : TE) (vs : List Nat) : TE := fun σ H Q => wi σ H fun J H1 => TabG H1 P ∧ ∀ H2, Tabbed P H1 H2 →
  ∃ W : Nat → Nat → Hp → Prop, (∃ m, W 0 m H2) ∧ GxTurn kp J g tt te vs σ Q W
section
variable {X : Cx} {pins : List (Addr × Obj)} {σ : L2.St} {H : Hp} {s : Shared}
theorem roomG {k : Nat} {A : Around} (r : Room (k + 1) A) (env : Env) : Room k (A.in1.in1.deeper env) :=
  ⟨r.hd, by have := r.dp; show A.depth + 1 + 3 * k + 5 < _; omega, by have := r.un; show A.units + 1 + 1 + 3 + 16 * k + 200 < _; omega⟩
/-- what holds of the generator g in the state s5 -/
def GxReady (X : Cx) (pins : List (Addr × Obj)) (σ : L2.St) (kp : Bool) (vs : List Nat) (Q : VK) (g : Addr) (s5 : Shared) : Prop :=
  ∃ (Xg : Cx) (fp : List Addr) (tn : Nat → Heap → Prop) (W : Nat → Nat → Hp → Prop) (gn n : Nat) (go : Obj), Xg.prog = X.prog ∧ Xg.w = X.w ∧ Xg.pn = [(g, go)] ∧ (∀ h : Heap, h.get? g = some go → h.IsGen g gn) ∧
    GxAt (model X.prog X.w) X.A.in1.in1 Xg kp fp tn (wipe σ vs) Q W g gn n s5 ∧ ∀ s' H', Inv Xg [] (wipe σ vs) H' s' → Inv X pins σ H' s'
theorem gx_make {c P : Addr} {tg elt iter : Expr} {ifs : List Expr} {scope : Scope} {gpos : Pos} {own : List (Str × Nat)} {wi : TI} {g : TG} {tt : TT} {te : TE} {k : Nat} {kp : Bool} {Q : VK} {Q' : Value → Shared → Prop}
    (hr : Room (k + 1) X.A) (TB : TabB X.base X.mg c P) (hcode : X.env.code = .ref c) (hN : X.N.Nodup) (ok : GxOk X.N X.env.scope scope own) (hi : PI X tg iter wi)
    (hg : ∀ (A : Around) (s : Shared) (H : Hp) (C : Addr) (cl : List (Str × Addr)) (code : Value) (fp : List Addr) (pn : List (Addr × Obj)), Room k A → PG (genX X A s H (genEnv scope cl C code builtinsNs X.env) fp pn) tg g)
    (ht : ∀ (A : Around) (s : Shared) (H : Hp) (C : Addr) (cl : List (Str × Addr)) (code : Value) (fp : List Addr) (pn : List (Addr × Obj)), Room k A → PTs (genX X A s H (genEnv scope cl C code builtinsNs X.env) fp pn) ifs tt)
    (he : ∀ (A : Around) (s : Shared) (H : Hp) (C : Addr) (cl : List (Str × Addr)) (code : Value) (fp : List Addr) (pn : List (Addr × Obj)), Room k A → PE (genX X A s H (genEnv scope cl C code builtinsNs X.env) fp pn) elt te)
    (hs : ∀ v, genFold iter X.env v = pure v) (I : Inv X pins σ H s) (h : tGx kp P wi g tt te (own.map (·.2)) σ H Q) (hQ : ∀ a s5, GxReady X pins σ kp (own.map (·.2)) Q a s5 → Q' (.ref a) s5) :
    wpAny (model X.prog X.w) X.A (eval (.GeneratorExp elt [⟨tg, iter, ifs, 0⟩] scope gpos) X.env) Q' X.xe s := by
  have hfree : ∀ y ∈ scope.names, y.2 = .free → ∃ c, X.env.cells.lookup y.1 = some c := fun y hy e => by
    rcases ok.blk.free y hy e with k | k
    · exact I.ok.has _ (.inl k)
    · exact I.ok.has _ (.inr k)
  refine wpAny_GeneratorExp_make ok.co (closure_ok hfree) ok.cell ok.dot ok.blk.kind (by have := hr.dp; omega) ?_ hs
  refine thn (hi.run pins s σ H _ I h) fun xv s1 hx => thn hx fun itv s2 h2 => ?_
  obtain ⟨it, fp, tn, J, H1, rfl, I2, T, st2, f2, ⟨ps, hP, ht3⟩, q⟩ := h2
  refine ⟨I2.nolimit, ?_⟩
  have hPs : s2.heap.get? P = some { cls := .none, data := .fields ps } := I2.hok P _ hP
  have cd : PySem.W.CodeHd s2.heap c P := TB.code.keeps fun b u e => I2.bk b u e
  have nfP : ∀ b ∈ fp, b ≠ P := fun b hb z => by
    have := (f2 b hb).1
    rw [z, hP] at this
    cases this
  have szf : ∀ b ∈ fp, b < s2.heap.objs.size := fun b hb => by
    obtain ⟨o, e, _⟩ := T.obj _ _ st2 b hb
    exact Heap.lt_size e
  -- from the state in which the code object is known
  have cont : ∀ (code : Value) (h3 : Heap) (tk : Nat) (more : Array Value), Heap.ExtBut P s2.heap h3 → s2.heap.objs.size ≤ h3.objs.size → h3.get? P = some { cls := .none, data := .fields (ps ++ more) } → TriplesOk (ps ++ more).toList →
      wpAny (model X.prog X.w) X.A (builtinsFor X.env.globals X.env.builtins) (fun bi s₄ => ∀ h', h'.Ns s₄.heap.objs.size (fun y => if y = ".0" then some (.ref it) else none) → Heap.SameBut s₄.heap.objs.size (s₄.heap.push { cls := .type "frame", data := .dict #[] }) h' →
          Q' (.ref h'.objs.size) { s₄ with
            gens := s₄.gens.push (.fresh (.compStart (.GeneratorExp elt [⟨tg, iter, ifs, 0⟩] scope gpos) 0 (.ref it) .none (genEnv scope (cloFrom X.env.cells scope.names []) s₄.heap.objs.size code bi X.env))),
            toks := s₄.toks + 1 + 1 + 1,
            heap := h'.push { cls := .type "generator", data := .fields #[.int s₄.gens.size 0, .str "<genexpr>" (s₄.toks + 1), .str (X.env.qual ++ "<genexpr>") (s₄.toks + 1 + 1)] } }) X.xe { s2 with heap := h3, toks := tk } := by
    intro code h3 tk more hx hsz hP3 htr
    obtain ⟨bm, ob, e1, e2, e3, e4, e5, e6, e7, e8⟩ := TB.bm
    refine wpAny_builtinsFor (m := X.mg) (by rw [I2.ok.glob]; exact (I2.mod.glob.keeps I2.bk).extBut hx TB.gP) e1 e2 (hx _ _ e4 (I2.bk _ _ e5)) e6 e7 e8 ?_
    have I3 : Inv X pins σ (upd H1 P (.tbl (ps ++ more))) { s2 with heap := h3, gens := s2.gens, drawn := s2.drawn, toks := tk } := inv_tab (t' := tk) (d' := s2.drawn) I2 hP (fun b o hb e => hx b o hb e) hP3 I2.bare
    generalize hs4 : ({ s2 with heap := h3, toks := tk } : Shared) = s4 at I3 ⊢
    have hh4 : s4.heap = h3 := by rw [← hs4]
    generalize hH2 : upd H1 P (.tbl (ps ++ more)) = H2 at I3
    have tabbed : Tabbed P H1 H2 := by
      subst hH2
      exact ⟨⟨_, upd_same, htr⟩, fun b hb => upd_ne hb⟩
    obtain ⟨W, ⟨m0, w0⟩, turn⟩ := q H2 tabbed
    have f3 : ∀ b ∈ fp, FpOk X pins H2 b ∧ b < s4.heap.objs.size := fun b hb => by
      refine ⟨⟨?_, (f2 b hb).2⟩, by rw [hh4]; exact Nat.lt_of_lt_of_le (szf b hb) hsz⟩
      rw [tabbed.2 b (nfP b hb)]
      exact (f2 b hb).1
    have st4 : tn 0 s4.heap := T.keep _ _ _ st2 fun b hb o e => by rw [hh4]; exact hx b o (nfP b hb) e
    intro h' hn' hs'
    have szC : h'.objs.size = s4.heap.objs.size + 1 := by rw [hs'.1, Heap.size_push]
    have keep' : ∀ b o, s4.heap.get? b = some o → h'.get? b = some o := fun b o e => hs'.extBut b o (Nat.ne_of_lt (Heap.lt_size e)) (Heap.get?_push_of_some _ e)
    generalize hgo : ({ cls := .type "generator", data := .fields #[.int s4.gens.size 0, .str "<genexpr>" (s4.toks + 1), .str (X.env.qual ++ "<genexpr>") (s4.toks + 1 + 1)] } : Obj) = go
    have hgen : ∀ h : Heap, h.get? h'.objs.size = some go → h.IsGen h'.objs.size s4.gens.size := fun h e => ⟨go, .str "<genexpr>" (s4.toks + 1), .str (X.env.qual ++ "<genexpr>") (s4.toks + 1 + 1), e, by rw [← hgo], by rw [← hgo], by rw [← hgo]⟩
    have keep5 : ∀ b o, s4.heap.get? b = some o → (h'.push go).get? b = some o := fun b o e => Heap.get?_push_of_some _ (keep' b o e)
    generalize hcenv : genEnv scope (cloFrom X.env.cells scope.names []) s4.heap.objs.size code builtinsNs X.env = cenv
    have hL : cenv.locals = s4.heap.objs.size := by rw [← hcenv]; rfl
    have at5 : (h'.push go).get? h'.objs.size = some go := by
      rw [← hgo]
      exact Heap.get?_push_size _ rfl
    have I5 := gx_start (s5 := { s4 with gens := s4.gens.push (.fresh (.compStart (.GeneratorExp elt [⟨tg, iter, ifs, 0⟩] scope gpos) 0 (.ref it) .none cenv)), toks := s4.toks + 1 + 1 + 1, heap := h'.push go }) (A := X.A.in1.in1.deeper cenv) (a := h'.objs.size) (go := go)
      I3 ok hN hr.hd (Around.frames_deeper (A := X.A.in1.in1) I3.ok.frames) hcenv f3 rfl (AllBare.push I3.bare rfl) keep5 (hn'.push _) at5 (by rw [szC]; exact Nat.lt_succ_self _) (fun v z => by rw [← hgo] at z; cases z)
    have rk : Room k (X.A.in1.in1.deeper cenv) := roomG hr cenv
    have pg := hg (X.A.in1.in1.deeper cenv) s4 H2 s4.heap.objs.size (cloFrom X.env.cells scope.names []) code fp [(h'.objs.size, go)] rk
    have pt := ht (X.A.in1.in1.deeper cenv) s4 H2 s4.heap.objs.size (cloFrom X.env.cells scope.names []) code fp [(h'.objs.size, go)] rk
    have pe := he (X.A.in1.in1.deeper cenv) s4 H2 s4.heap.objs.size (cloFrom X.env.cells scope.names []) code fp [(h'.objs.size, go)] rk
    rw [hcenv] at pg pt pe
    have afp : h'.objs.size ∉ fp := fun z => by
      have := (f3 _ z).2
      rw [szC] at this
      exact absurd (Nat.lt_of_succ_lt this) (Nat.lt_irrefl _)
    have st5 : tn 0 (h'.push go) := T.keep _ _ _ st4 fun b _ o e => keep5 b o e
    refine hQ _ _ ⟨genX X (X.A.in1.in1.deeper cenv) s4 H2 cenv fp [(h'.objs.size, go)], fp, tn, W, s4.gens.size, m0 + 1, go, rfl, rfl, rfl, hgen, ⟨hgen _ at5, I5.nolimit, _, Array.getElem?_push_size .., rfl, ?_⟩, fun s' H' I' => ?_⟩
    · refine seg_gxStart (Xg := genX X (X.A.in1.in1.deeper cenv) s4 H2 cenv fp [(h'.objs.size, go)]) (J := J) (g := g) (tt := tt) (te := te) rfl (fun p hp => ?_) rfl rfl (by show cenv.scope.isCoroutine = false; rw [← hcenv]; exact ok.co) (fun cc hcc => ?_) T pg pt pe turn m0 (m0 + 1) 0 _ _ H2 (Nat.lt_succ_self _) ?_ ?_ (fun b hb => (f3 b hb).1.1) w0
      · rw [List.mem_singleton.mp hp]
        exact afp
      · rcases hcc with rfl | rfl <;> rfl
      · exact inv_gens I5 rfl rfl (allBare_setGen I5.bare rfl)
      · exact st5
    · exact I3.call' (ch := fp) I'.os I'.base I'.hok I'.bare fun b hb => ⟨(f3 b hb).1.2.2.2.1, (f3 b hb).1.2.1, (f3 b hb).1.2.2.2.2.1, (f3 b hb).1.2.2.2.2.2⟩
  cases hf : codeAmong gpos ps.toList with
  | none =>
    refine wpAny_genexprCodeX hcode (cd.code hPs ht3) (cd.tab hPs) hf fun c' h' tk hx hge hlt hco' _ htab' _ => ?_
    obtain ⟨o1, vs, f1, tf, fl, tg', inF, tx, tt', op, _, _, _, _, _, _, _, _, _, htr, _⟩ := hco'
    exact cont _ h' tk _ hx (Nat.le_trans hge (Nat.le_of_lt hlt)) htab'.2 htr
  | some cv =>
    refine wpAny_genexprCode_hit hcode (cd.code hPs ht3) hf ?_
    exact cont cv s2.heap s2.toks #[] (Heap.ExtBut.refl _ _) (Nat.le_refl _) (by simpa using hPs) (by simpa using ht3)
theorem pe_all {c P : Addr} {tg elt iter : Expr} {ifs : List Expr} {scope : Scope} {p pos gpos : Pos} {own : List (Str × Nat)} {wi : TI} {g : TG} {tt : TT} {te : TE} {k : Nat}
    (hr : Room (k + 1) X.A) (hgl : Gl X "all") (hm : X.mg "all" = none) (TB : TabB X.base X.mg c P) (hcode : X.env.code = .ref c) (hN : X.N.Nodup) (ok : GxOk X.N X.env.scope scope own) (hi : PI X tg iter wi)
    (hg : ∀ (A : Around) (s : Shared) (H : Hp) (C : Addr) (cl : List (Str × Addr)) (code : Value) (fp : List Addr) (pn : List (Addr × Obj)), Room k A → PG (genX X A s H (genEnv scope cl C code builtinsNs X.env) fp pn) tg g)
    (ht : ∀ (A : Around) (s : Shared) (H : Hp) (C : Addr) (cl : List (Str × Addr)) (code : Value) (fp : List Addr) (pn : List (Addr × Obj)), Room k A → PTs (genX X A s H (genEnv scope cl C code builtinsNs X.env) fp pn) ifs tt)
    (he' : ∀ (A : Around) (s : Shared) (H : Hp) (C : Addr) (cl : List (Str × Addr)) (code : Value) (fp : List Addr) (pn : List (Addr × Obj)), Room k A → PE (genX X A s H (genEnv scope cl C code builtinsNs X.env) fp pn) elt te)
    (hs : ∀ v, genFold iter X.env v = pure v := by intro _; rfl) (hb : bootBuiltins "all" = some (.builtin "all") := by decide +kernel)
    (he : starEach [.GeneratorExp elt [⟨tg, iter, ifs, 0⟩] scope gpos] X.env = (false, eval (.GeneratorExp elt [⟨tg, iter, ifs, 0⟩] scope gpos) X.env) :: starEach [] X.env := by rfl) :
    PE X (.Call (.Name "all" p) [.GeneratorExp elt [⟨tg, iter, ifs, 0⟩] scope gpos] [] pos) (tGx true P wi g tt te (own.map (·.2))) := by
  refine ⟨fun pins s σ H Q I h => ?_⟩
  refine wpAny_Call_Name_kw (ld_blt I hgl hm hb ?_)
  refine PyProof.Rows.callWith_builtin1 ?_ he (by rfl)
  rw [he]
  show wpAny _ _ (spliced ((false, eval (.GeneratorExp elt [⟨tg, iter, ifs, 0⟩] scope gpos) X.env) :: backTo pos (starEach [] X.env))) _ _ s
  refine Calls.spliced_cons (gx_make hr TB hcode hN ok hi hg ht he' hs I h fun a s5 hR => ?_)
  refine Calls.spliced_nil ?_
  obtain ⟨Xg, fp, tn, W, gn, n, go, hP, hw, hpn, hgo, hat, hback⟩ := hR
  refine call_function_tree F.kind_all F.plain_all F.entry_all (F.args_all1 _) ?_
  unfold Builtin.«all»
  refine wpAny_bind (m := oneArg "all" _) (wpAny_pure ?_)
  refine wpAny_bind (wpAny_pyIter_gen hat.1 ?_)
  refine wpAny_pure ⟨plainId_quiet F.plain_all_loop _, gx_loop (.inl ⟨rfl, rfl⟩) hP hw hr.hd (by have := hr.dp; omega) hpn hgo (fun b s' H' I' q => ?_) n s5 hat⟩
  exact ⟨.bl b, H', hback s' H' I', rfl, q⟩
theorem pe_any {c P : Addr} {tg elt iter : Expr} {ifs : List Expr} {scope : Scope} {p pos gpos : Pos} {own : List (Str × Nat)} {wi : TI} {g : TG} {tt : TT} {te : TE} {k : Nat}
    (hr : Room (k + 1) X.A) (hgl : Gl X "any") (hm : X.mg "any" = none) (TB : TabB X.base X.mg c P) (hcode : X.env.code = .ref c) (hN : X.N.Nodup) (ok : GxOk X.N X.env.scope scope own) (hi : PI X tg iter wi)
    (hg : ∀ (A : Around) (s : Shared) (H : Hp) (C : Addr) (cl : List (Str × Addr)) (code : Value) (fp : List Addr) (pn : List (Addr × Obj)), Room k A → PG (genX X A s H (genEnv scope cl C code builtinsNs X.env) fp pn) tg g)
    (ht : ∀ (A : Around) (s : Shared) (H : Hp) (C : Addr) (cl : List (Str × Addr)) (code : Value) (fp : List Addr) (pn : List (Addr × Obj)), Room k A → PTs (genX X A s H (genEnv scope cl C code builtinsNs X.env) fp pn) ifs tt)
    (he' : ∀ (A : Around) (s : Shared) (H : Hp) (C : Addr) (cl : List (Str × Addr)) (code : Value) (fp : List Addr) (pn : List (Addr × Obj)), Room k A → PE (genX X A s H (genEnv scope cl C code builtinsNs X.env) fp pn) elt te)
    (hs : ∀ v, genFold iter X.env v = pure v := by intro _; rfl) (hb : bootBuiltins "any" = some (.builtin "any") := by decide +kernel)
    (he : starEach [.GeneratorExp elt [⟨tg, iter, ifs, 0⟩] scope gpos] X.env = (false, eval (.GeneratorExp elt [⟨tg, iter, ifs, 0⟩] scope gpos) X.env) :: starEach [] X.env := by rfl) :
    PE X (.Call (.Name "any" p) [.GeneratorExp elt [⟨tg, iter, ifs, 0⟩] scope gpos] [] pos) (tGx false P wi g tt te (own.map (·.2))) := by
  refine ⟨fun pins s σ H Q I h => ?_⟩
  refine wpAny_Call_Name_kw (ld_blt I hgl hm hb ?_)
  refine PyProof.Rows.callWith_builtin1 ?_ he (by rfl)
  rw [he]
  show wpAny _ _ (spliced ((false, eval (.GeneratorExp elt [⟨tg, iter, ifs, 0⟩] scope gpos) X.env) :: backTo pos (starEach [] X.env))) _ _ s
  refine Calls.spliced_cons (gx_make hr TB hcode hN ok hi hg ht he' hs I h fun a s5 hR => ?_)
  refine Calls.spliced_nil ?_
  obtain ⟨Xg, fp, tn, W, gn, n, go, hP, hw, hpn, hgo, hat, hback⟩ := hR
  refine call_function_tree F.kind_any F.plain_any F.entry_any (F.args_any1 _) ?_
  unfold Builtin.«any»
  refine wpAny_bind (m := oneArg "any" _) (wpAny_pure ?_)
  refine wpAny_bind (wpAny_pyIter_gen hat.1 ?_)
  refine wpAny_pure ⟨plainId_quiet F.plain_any_loop _, gx_loop (.inr ⟨rfl, rfl⟩) hP hw hr.hd (by have := hr.dp; omega) hpn hgo (fun b s' H' I' q => ?_) n s5 hat⟩
  exact ⟨.bl b, H', hback s' H' I', rfl, q⟩
end
end Zk

set_option maxHeartbeats 4000000
/-! G3: the forms of all(..), any(..) that one uses: over a range, a list, a tuple, a text. -/
namespace Zk
open PySem PySem.Spec PyProof.Rows L2 GxR
def gxC (N : List Str) (sc scope : Scope) (own : List (Str × Nat)) : Bool :=
  blkC N sc scope own && (!scope.isCoroutine) && (scope.names.all fun y => match y.2 with | .cell => false | _ => true) && (match scope.names.lookup (".0" : Str) with | some .local => true | _ => false)
theorem gxOk_by {N : List Str} {sc scope : Scope} {own : List (Str × Nat)} (h : gxC N sc scope own = true) : GxOk N sc scope own := by
  unfold gxC at h
  simp only [Bool.and_eq_true, List.all_eq_true, Bool.not_eq_true'] at h
  obtain ⟨⟨⟨h1, h2⟩, h3⟩, h4⟩ := h
  refine ⟨blkOk_by h1, h2, fun y hy e => ?_, ?_⟩
  · have q := h3 y hy
    rw [e] at q
    cases q
  · split at h4
    · assumption
    · cases h4
section
variable {kp : Bool} {g : TG} {tt : TT} {te : TE} {vs : List Nat} {σ : L2.St} {H2 : Hp} {Q : VK}
/-- one turn: from Pv i to Pv (i + 1), or out -/
def GxStep (kp : Bool) (tt : TT) (te : TE) (vs : List Nat) (σ : L2.St) (Q : VK) (Nx : Hp → Prop) : L2.St → Hp → Prop := fun σ2 H2 => wipe σ2 vs = wipe σ vs ∧ tt σ2 H2 fun b H3 =>
  if b = true then te σ2 H3 fun y H4 => ∃ b', y = .bl b' ∧ ((b' = kp ∧ Nx H4) ∨ (b' ≠ kp ∧ Q (.bl b') H4)) else Nx H3
theorem gx_by {J : It} {n : Nat} (Pv : Nat → Hp → Prop) (h0 : Pv 0 H2) (hgo : ∀ i H, i < n → Pv i H → J.go i H) (hs : ∀ i H, i < n → Pv i H → ∀ x H', J.yld i H x H' → g x (wipe σ vs) H' (GxStep kp tt te vs σ Q (Pv (i + 1)))) (hst : ∀ H, Pv n H → J.stop n H)
    (hd : ∀ H, Pv n H → Q (.bl kp) H) : ∃ W : Nat → Nat → Hp → Prop, (∃ m, W 0 m H2) ∧ GxTurn kp J g tt te vs σ Q W := by
  refine ⟨fun i m H => m = n - i ∧ i ≤ n ∧ Pv i H, ⟨n, by simp, Nat.zero_le _, h0⟩, ?_⟩
  rintro i m H ⟨rfl, hi, p⟩
  by_cases hlt : i < n
  · exact .inr ⟨hgo i H hlt p, Pv (i + 1), fun H' p' => ⟨n - (i + 1), by omega, rfl, hlt, p'⟩, hs i H hlt p⟩
  · have e : i = n := by omega
    subst e
    exact .inl ⟨hst H p, hd H p⟩
theorem gx_range {lo : Int} {n : Nat} (Pv : Nat → Hp → Prop) (h0 : Pv 0 H2) (hs : ∀ i H, i < n → Pv i H → g (.int (lo + i)) (wipe σ vs) H (GxStep kp tt te vs σ Q (Pv (i + 1)))) (hd : ∀ H, Pv n H → Q (.bl kp) H) :
    ∃ W : Nat → Nat → Hp → Prop, (∃ m, W 0 m H2) ∧ GxTurn kp (Itr lo n) g tt te vs σ Q W :=
  gx_by Pv h0 (fun i H hi _ => hi) (fun i H hi p x H' y => by obtain ⟨rfl, rfl⟩ := y; exact hs i _ hi p) (fun H _ => Nat.le_refl n) hd
theorem gx_list {K : PySem.W.Frag} {a : Addr} {xs : List V} (Pv : Nat → Hp → Prop) (h0 : Pv 0 H2) (hl : ∀ i H, Pv i H → SqL K H a xs) (hs : ∀ i x H, xs[i]? = some x → Pv i H → g x (wipe σ vs) H (GxStep kp tt te vs σ Q (Pv (i + 1)))) (hd : ∀ H, Pv xs.length H → Q (.bl kp) H) :
    ∃ W : Nat → Nat → Hp → Prop, (∃ m, W 0 m H2) ∧ GxTurn kp (Itl K a) g tt te vs σ Q W :=
  gx_by (n := xs.length) Pv h0 (fun i H hi p => ⟨xs, xs[i], hl i H p, by simp [hi]⟩) (fun i H hi p x H' y => by obtain ⟨rfl, y⟩ := y; exact hs i x _ (y xs (hl i _ p)) p) (fun H p => ⟨xs, hl _ H p, Nat.le_refl _⟩) hd
theorem gx_tup {K : PySem.W.Frag} {a : Addr} {xs : List V} (Pv : Nat → Hp → Prop) (h0 : Pv 0 H2) (hl : ∀ i H, Pv i H → SqT K H a xs) (hs : ∀ i x H, xs[i]? = some x → Pv i H → g x (wipe σ vs) H (GxStep kp tt te vs σ Q (Pv (i + 1)))) (hd : ∀ H, Pv xs.length H → Q (.bl kp) H) :
    ∃ W : Nat → Nat → Hp → Prop, (∃ m, W 0 m H2) ∧ GxTurn kp (Itt K a) g tt te vs σ Q W :=
  gx_by (n := xs.length) Pv h0 (fun i H hi p => ⟨xs, xs[i], hl i H p, by simp [hi]⟩) (fun i H hi p x H' y => by obtain ⟨rfl, y⟩ := y; exact hs i x _ (y xs (hl i _ p)) p) (fun H p => ⟨xs, hl _ H p, Nat.le_refl _⟩) hd
theorem gx_str {x : Str} (Pv : Nat → Hp → Prop) (h0 : Pv 0 H2) (hs : ∀ i c H, x.cps.toList[i]? = some c → Pv i H → g (.str ⟨#[c]⟩) (wipe σ vs) H (GxStep kp tt te vs σ Q (Pv (i + 1)))) (hd : ∀ H, Pv x.cps.toList.length H → Q (.bl kp) H) :
    ∃ W : Nat → Nat → Hp → Prop, (∃ m, W 0 m H2) ∧ GxTurn kp (Its x) g tt te vs σ Q W :=
  gx_by (n := x.cps.toList.length) Pv h0 (fun i H hi p => by show i < x.cps.size; simpa using hi) (fun i H hi p v H' y => by
    obtain ⟨rfl, c, e, rfl⟩ := y
    exact hs i c _ (by simpa using e) p) (fun H p => by show x.cps.size ≤ _; simp) hd
end
end Zk

set_option maxHeartbeats 4000000
/-! D0: the deck that a law draws from, as it stands in the heap; sizes of what repr shows. No text of a program here. -/
namespace Zk
open PySem PySem.Spec PyProof.Rows L2

/-! ### small things -/
theorem same_new {H : Hp} {p : Addr} (h : H p = none) (o : HO) : Same H (upd H p o) := fun b u q => by
  rw [upd_ne (ne_of_none q h)]
  exact q
/-- both heaps get the same new object -/
theorem same_both {H0 H : Hp} {p : Addr} (e : Same H0 H) (o : HO) : Same (upd H0 p o) (upd H p o) := fun b u q => by
  by_cases hb : b = p
  · subst hb
    rw [upd_same] at q ⊢
    exact q
  · rw [upd_ne hb] at q ⊢
    exact e _ _ q
theorem same_out {H0 H : Hp} {p : Addr} (e : Same H0 H) (h : H0 p = none) (o : HO) : Same H0 (upd H p o) := fun b u q => by
  rw [upd_ne (ne_of_none q h)]
  exact e _ _ q
theorem sl_small {n : Nat} (h : n ≤ 100000) : n ≤ sizeLine := Nat.le_trans h (by decide)
theorem sl_lt {n : Nat} (h : n < 100000) : n < sizeLine := Nat.lt_of_lt_of_le h (by decide)
theorem ints_dp {K : PySem.W.Frag} {H : Hp} {a : Addr} {ns : List Int} (h : H a = some (.lst (ns.map V.int))) : Dp K H (.ref a) (.list (ns.map PyData.int)) := by
  refine .lst (SqL.of h) ?_
  clear h
  induction ns with
  | nil => exact .nil
  | cons n r ih => exact .cons (.int n) ih
theorem ints_lay : ∀ ns : List Int, PyData.canLayAll0 (ns.map PyData.int) = true
  | [] => by simp [PyData.canLayAll0]
  | n :: r => by simp [PyData.canLayAll0, PyData.canLay0, ints_lay r]
theorem ints_depth : ∀ ns : List Int, PyData.depthAll (ns.map PyData.int) = 0
  | [] => by simp [PyData.depthAll]
  | n :: r => by simp [PyData.depthAll, PyData.depth, ints_depth r]
theorem ints_shaped (ns : List Int) : SeqAt.shaped (.list (ns.map PyData.int)) = true := by
  simp [SeqAt.shaped, PyData.canLay0, ints_lay, PyData.depth, ints_depth]
theorem eqv_nil : ∀ ns : List Int, PyData.eqv (.list (ns.map PyData.int)) (.list []) = ns.isEmpty
  | [] => by simp [PyData.eqv, PyData.eqvAll]
  | n :: r => by simp [PyData.eqv, PyData.eqvAll]

/-! ### the deck -/
def deckL (lf : Addr) (mixed draws : Int) : List (Key × V) := [(.inr ("left" : Str), .ref lf), (.inr ("mixed" : Str), .int mixed), (.inr ("draws" : Str), .int draws)]
theorem k_lm : ¬ (Sum.inr ("left" : Str) : Key) = Sum.inr ("mixed" : Str) := by decide +kernel
theorem k_ld : ¬ (Sum.inr ("left" : Str) : Key) = Sum.inr ("draws" : Str) := by decide +kernel
theorem k_md : ¬ (Sum.inr ("mixed" : Str) : Key) = Sum.inr ("draws" : Str) := by decide +kernel
theorem k_dm : ¬ (Sum.inr ("draws" : Str) : Key) = Sum.inr ("mixed" : Str) := by decide +kernel
section
variable {lf : Addr} {m d x : Int}
theorem deck_left : valV (deckL lf m d) (.inr ("left" : Str)) = some (.ref lf) := valV_pos rfl
theorem deck_mixed : valV (deckL lf m d) (.inr ("mixed" : Str)) = some (.int m) := (valV_neg k_lm).trans (valV_pos rfl)
theorem deck_draws : valV (deckL lf m d) (.inr ("draws" : Str)) = some (.int d) := (valV_neg k_ld).trans ((valV_neg k_md).trans (valV_pos rfl))
theorem put_mixed : putK (deckL lf m d) (.inr ("mixed" : Str)) (.int x) = deckL lf x d := by
  have h : ((deckL lf m d).any fun kv => decide (kv.1 = Sum.inr ("mixed" : Str))) = true := by
    rw [valV_any, deck_mixed]
    rfl
  unfold putK
  rw [if_pos h]
  unfold deckL
  simp only [List.map_cons, List.map_nil, if_neg k_lm, if_neg k_dm, if_true]
theorem put_draws : putK (deckL lf m d) (.inr ("draws" : Str)) (.int x) = deckL lf m x := by
  have h : ((deckL lf m d).any fun kv => decide (kv.1 = Sum.inr ("draws" : Str))) = true := by
    rw [valV_any, deck_draws]
    rfl
  unfold putK
  rw [if_pos h]
  unfold deckL
  simp only [List.map_cons, List.map_nil, if_neg k_ld, if_neg k_md, if_true]
end
/-- a deck stands at dk in H, its list at lf, that has been drawn from at most B times; H0 is what else stands there and does not change -/
structure DeckAt (H0 H : Hp) (dk lf : Addr) (B : Nat) : Prop where
  same : Same H0 H
  off : H0 dk = none
  offl : H0 lf = none
  ex : ∃ (left : List Int) (mixed draws : Int), H dk = some (.dK (deckL lf mixed draws)) ∧ H lf = some (.lst (left.map V.int)) ∧ left.length ≤ 63 ∧ 0 ≤ mixed ∧ mixed < 2 ^ 31 ∧ 0 ≤ draws ∧ draws ≤ B
/-- what a step from H (of it H0 unchanging) to H' (of it H0' unchanging) may do beside the deck: lay new things -/
structure Grow (dk lf : Addr) (H0 H H0' H' : Hp) : Prop where
  same : Same H0 H0'
  frame : ∀ b o, b ≠ dk → b ≠ lf → H b = some o → H' b = some o
  fresh : ∀ b o, H b = some o → H0' b = H0 b
section
variable {H0 H H1 H2 H0' H0'' H' H'' : Hp} {dk lf p : Addr} {B B' : Nat} {o : HO}
theorem DeckAt.at_d (h : DeckAt H0 H dk lf B) : ∃ o, H dk = some o := by
  obtain ⟨_, _, _, e, _⟩ := h.ex
  exact ⟨_, e⟩
theorem DeckAt.at_l (h : DeckAt H0 H dk lf B) : ∃ o, H lf = some o := by
  obtain ⟨_, _, _, _, e, _⟩ := h.ex
  exact ⟨_, e⟩
theorem DeckAt.ned (h : DeckAt H0 H dk lf B) (hp : H p = none) : dk ≠ p := by
  obtain ⟨_, e⟩ := h.at_d
  exact ne_of_none e hp
theorem DeckAt.nel (h : DeckAt H0 H dk lf B) (hp : H p = none) : lf ≠ p := by
  obtain ⟨_, e⟩ := h.at_l
  exact ne_of_none e hp
theorem DeckAt.mono (h : DeckAt H0 H dk lf B) (hb : B ≤ B') : DeckAt H0 H dk lf B' := by
  obtain ⟨left, m, d, h1, h2, h3, h4, h5, h6, h7⟩ := h.ex
  exact ⟨h.same, h.off, h.offl, left, m, d, h1, h2, h3, h4, h5, h6, by omega⟩
/-- the deck's own two objects are as they were, what stands still stands -/
theorem DeckAt.move (h : DeckAt H0 H dk lf B) (s : Same H0' H') (e1 : H0' dk = none) (e2 : H0' lf = none) (d1 : H' dk = H dk) (d2 : H' lf = H lf) : DeckAt H0' H' dk lf B :=
  ⟨s, e1, e2, by rw [d1, d2]; exact h.ex⟩
/-- something new beside the deck -/
theorem DeckAt.new (h : DeckAt H0 H dk lf B) (hp : H p = none) : DeckAt (upd H0 p o) (upd H p o) dk lf B :=
  h.move (same_both h.same o) ((upd_ne (h.ned hp)).trans h.off) ((upd_ne (h.nel hp)).trans h.offl) (upd_ne (h.ned hp)) (upd_ne (h.nel hp))
/-- something new that may change later -/
theorem DeckAt.drop (h : DeckAt H0 H dk lf B) (hp : H p = none) : DeckAt H0 (upd H p o) dk lf B :=
  h.move (h.same.trans (same_new hp o)) h.off h.offl (upd_ne (h.ned hp)) (upd_ne (h.nel hp))
/-- something of our own, not among what stands still, changes -/
theorem DeckAt.change (h : DeckAt H0 H dk lf B) (n : H0 p = none) (n1 : dk ≠ p) (n2 : lf ≠ p) : DeckAt H0 (upd H p o) dk lf B :=
  h.move (same_out h.same n o) h.off h.offl (upd_ne n1) (upd_ne n2)
/-- .. and stands still from here on -/
theorem DeckAt.keep (h : DeckAt H0 H dk lf B) (e : H p = some o) (n1 : dk ≠ p) (n2 : lf ≠ p) : DeckAt (upd H0 p o) H dk lf B := by
  refine h.move (fun b u q => ?_) ((upd_ne n1).trans h.off) ((upd_ne n2).trans h.offl) rfl rfl
  by_cases hb : b = p
  · subst hb
    rw [upd_same] at q
    exact q ▸ e
  · rw [upd_ne hb] at q
    exact h.same _ _ q
theorem DeckAt.free (h : DeckAt H0 H dk lf B) (hp : H p = none) : H0 p = none := h.same.free hp
theorem Grow.refl : Grow dk lf H0 H H0 H := ⟨Same.refl _, fun _ _ _ _ e => e, fun _ _ _ => rfl⟩
theorem Grow.trans (a : Grow dk lf H0 H H0' H') (_ : DeckAt H0 H dk lf B) (h' : DeckAt H0' H' dk lf B') (b : Grow dk lf H0' H' H0'' H'') : Grow dk lf H0 H H0'' H'' where
  same := a.same.trans b.same
  frame := fun x o n1 n2 e => b.frame x o n1 n2 (a.frame x o n1 n2 e)
  fresh := fun x o e => by
    by_cases n1 : x = dk
    · obtain ⟨_, q⟩ := h'.at_d
      rw [b.fresh x _ (n1 ▸ q), a.fresh x o e]
    · by_cases n2 : x = lf
      · obtain ⟨_, q⟩ := h'.at_l
        rw [b.fresh x _ (n2 ▸ q), a.fresh x o e]
      · rw [b.fresh x o (a.frame x o n1 n2 e), a.fresh x o e]
theorem Grow.new (h : DeckAt H0 H dk lf B) (hp : H p = none) : Grow dk lf H0 H (upd H0 p o) (upd H p o) where
  same := same_new (h.free hp) o
  frame := fun b u _ _ e => same_new hp o _ _ e
  fresh := fun b u e => upd_ne (ne_of_none e hp)
theorem Grow.upd' (g : Grow dk lf H0 H H0' H') (n : H p = none) : Grow dk lf H0 H H0' (upd H' p o) := ⟨g.same, fun b u n1 n2 e => (upd_ne (ne_of_none e n)).trans (g.frame b u n1 n2 e), g.fresh⟩
/-- what is new stands still from here on -/
theorem Grow.keep (g : Grow dk lf H0 H H0' H') (n : H p = none) (n0 : H0' p = none) : Grow dk lf H0 H (upd H0' p o) H' :=
  ⟨g.same.trans (same_new n0 o), g.frame, fun b u e => (upd_ne (ne_of_none e n)).trans (g.fresh b u e)⟩
theorem Grow.drop (hp : H p = none) : Grow dk lf H0 H H0 (upd H p o) := ⟨Same.refl _, fun _ _ _ _ e => same_new hp o _ _ e, fun _ _ _ => rfl⟩
end

/-! ### how much repr shows -/
theorem list_len : ∀ ts : List Str, (listText ts).length ≤ piled ts + 2
  | [] => by decide +kernel
  | t :: r => by
    have h := textFrom_length_pos r 1 (("[" : Str) ++ (if (0 : Nat) > 0 then ", " else "" : String) ++ t) (Nat.succ_pos 0)
    have e1 : (listText (t :: r)).length = (textFrom 1 (("[" : Str) ++ (if (0 : Nat) > 0 then ", " else "" : String) ++ t) r).length + 1 := strLen_append _ _
    have e2 : (("[" : Str) ++ (if (0 : Nat) > 0 then ", " else "" : String) ++ t).length = 1 + t.length := by
      rw [strLen_append, strLen_append]
      rfl
    rw [e1, h, e2, piled_cons]
    omega
theorem tuple_len (ts : List Str) : (tupleText ts).length ≤ piled ts + 2 := fmt_text ts
theorem dict_len (ts : List Str) : (dictText ts).length ≤ piled ts + 2 := by
  have e : (dictText ts).length = 1 + (Str.join ", " ts).length + 1 := by
    unfold dictText
    rw [strLen_append, strLen_append]
    rfl
  by_cases h : ts = []
  · subst h
    decide +kernel
  · have := join_length_add ts h
    omega
theorem piled_le {n : Nat} : ∀ {ts : List Str}, (∀ t ∈ ts, t.length ≤ n) → piled ts ≤ ts.length * (n + 2)
  | [], _ => Nat.zero_le _
  | t :: r, h => by
    have h1 := h t List.mem_cons_self
    have h2 := piled_le fun u hu => h u (List.mem_cons_of_mem _ hu)
    rw [piled_cons, List.length_cons, Nat.succ_mul]
    omega
theorem shownAll_len : ∀ ds : List PyData, (PyData.shownAll ds).length = ds.length
  | [] => by simp [PyData.shownAll]
  | d :: r => by simp [PyData.shownAll, shownAll_len r]
theorem shownAll_mem {t : Str} : ∀ {ds : List PyData}, t ∈ PyData.shownAll ds → ∃ d ∈ ds, t = d.shown
  | [], h => by simp [PyData.shownAll] at h
  | d :: r, h => by
    simp only [PyData.shownAll, List.mem_cons] at h
    rcases h with h | h
    · exact ⟨d, List.mem_cons_self, h⟩
    · obtain ⟨e, he, q⟩ := shownAll_mem h
      exact ⟨e, List.mem_cons_of_mem _ he, q⟩
theorem showAll_of : ∀ {ds : List PyData}, (∀ d ∈ ds, d.showable = true) → PyData.showableAll ds = true
  | [], _ => by simp [PyData.showableAll]
  | d :: r, h => by
    simp only [PyData.showableAll, h d List.mem_cons_self, Bool.true_and]
    exact showAll_of fun e he => h e (List.mem_cons_of_mem _ he)
theorem depthAll_of {n : Nat} : ∀ {ds : List PyData}, (∀ d ∈ ds, d.depth ≤ n) → PyData.depthAll ds ≤ n
  | [], _ => by simp [PyData.depthAll]
  | d :: r, h => by
    have h1 := h d List.mem_cons_self
    have h2 := depthAll_of fun e he => h e (List.mem_cons_of_mem _ he)
    simp only [PyData.depthAll]
    omega
/-- d may be shown: at most dp deep, in at most ln signs -/
structure Fine (dp ln : Nat) (d : PyData) : Prop where
  able : d.showable = true
  deep : d.depth ≤ dp
  long : d.shown.length ≤ ln
theorem Fine.mono {a b a' b' : Nat} {d : PyData} (h : Fine a b d) (h1 : a ≤ a') (h2 : b ≤ b') : Fine a' b' d := ⟨h.able, Nat.le_trans h.deep h1, Nat.le_trans h.long h2⟩
theorem fine_list {a b : Nat} {ds : List PyData} (h : ∀ d ∈ ds, Fine a b d) : Fine (a + 1) (ds.length * (b + 2) + 2) (.list ds) where
  able := by simpa [PyData.showable] using showAll_of fun d hd => (h d hd).able
  deep := by
    have := depthAll_of fun d hd => (h d hd).deep
    simp only [PyData.depth]
    omega
  long := by
    have h1 := list_len (PyData.shownAll ds)
    have h2 := piled_le (ts := PyData.shownAll ds) (n := b) fun t ht => by
      obtain ⟨d, hd, e⟩ := shownAll_mem ht
      exact e ▸ (h d hd).long
    rw [shownAll_len] at h2
    simp only [PyData.shown]
    omega
theorem fine_tup {a b : Nat} {ds : List PyData} (h : ∀ d ∈ ds, Fine a b d) : Fine (a + 1) (ds.length * (b + 2) + 2) (.tuple ds) where
  able := by simpa [PyData.showable] using showAll_of fun d hd => (h d hd).able
  deep := by
    have := depthAll_of fun d hd => (h d hd).deep
    simp only [PyData.depth]
    omega
  long := by
    have h1 := tuple_len (PyData.shownAll ds)
    have h2 := piled_le (ts := PyData.shownAll ds) (n := b) fun t ht => by
      obtain ⟨d, hd, e⟩ := shownAll_mem ht
      exact e ▸ (h d hd).long
    rw [shownAll_len] at h2
    simp only [PyData.shown]
    omega
theorem fine_dict2 {a b : Nat} {k : Str} {i j : Int} {d : PyData} (hk : ∀ c ∈ k.cps.toList, c < 16 ^ 8) (hi : i.natAbs.log2 < 1920) (hj : j.natAbs.log2 < 1920) (h : Fine a b d) : Fine (a + 1) (10 * k.length + b + 4000) (.dict [(.str k, d), (.int i, .int j)]) where
  able := by simp [PyData.showable, PyData.showableKv, h.able, hi, hj]
  deep := by
    have := h.deep
    simp only [PyData.depth, PyData.depthKv]
    omega
  long := by
    have h1 := StrLaws.reprText_len k hk
    have h2 := h.long
    have e1 : (Str.ofString (toString i)).length ≤ 1921 := by
      rw [PySem.ofString_length]
      exact int_text_length_le (by decide) hi
    have e2 : (Str.ofString (toString j)).length ≤ 1921 := by
      rw [PySem.ofString_length]
      exact int_text_length_le (by decide) hj
    have e3 : ((": " : Str)).length = 2 := rfl
    simp only [PyData.shown, PyData.shownKv]
    refine Nat.le_trans (dict_len _) ?_
    simp only [piled_cons, piled_nil, strLen_append, e3]
    omega
theorem fine_int {i : Int} (h : i.natAbs.log2 < 1920) : Fine 0 1921 (.int i) where
  able := by simpa [PyData.showable] using h
  deep := by simp [PyData.depth]
  long := by
    simp only [PyData.shown]
    rw [PySem.ofString_length]
    exact int_text_length_le (by decide) h
theorem fine_bool (b : Bool) : Fine 0 5 (.bool b) := by
  refine ⟨by simp [PyData.showable], by simp [PyData.depth], ?_⟩
  cases b <;> (simp only [PyData.shown]; decide +kernel)
theorem fine_none : Fine 0 4 .none := ⟨by simp [PyData.showable], by simp [PyData.depth], by simp only [PyData.shown]; decide +kernel⟩
theorem fine_str {x : Str} (h : ∀ c ∈ x.cps.toList, c < 16 ^ 8) : Fine 0 (10 * x.length + 2) (.str x) :=
  ⟨by simp [PyData.showable], by simp [PyData.depth], by simpa only [PyData.shown] using StrLaws.reprText_len x h⟩
end Zk

set_option autoImplicit false
/-! M0: polynomials as lists of pairs: sums of pairs, their order, their values. -/
namespace Zk
abbrev IQ := Int × Int
/-- the sum of the values at e -/
def coef (ps : List IQ) (e : Int) : Int := ((ps.filter fun x => decide (x.1 = e)).map (·.2)).sum
def addK (d : List IQ) (e c : Int) : List IQ := if (d.any fun x => decide (x.1 = e)) = true then d.map fun x => if x.1 = e then (e, x.2 + c) else x else d ++ [(e, c)]
def getK (d : List IQ) (e : Int) : Option Int := (d.find? fun x => decide (x.1 = e)).map (·.2)
def setK (d : List IQ) (e v : Int) : List IQ := if (d.any fun x => decide (x.1 = e)) = true then d.map fun x => if x.1 = e then (e, v) else x else d ++ [(e, v)]
def accP (ps : List IQ) : List IQ := ps.foldl (fun d x => addK d x.1 x.2) []
def Asc (ys : List IQ) : Prop := ys.Pairwise fun x y => x.1 < y.1
/-- the sum of pairs, in order -/
def Canon (ps ys : List IQ) : Prop := ys.Perm (accP ps) ∧ Asc ys
theorem any_key {d : List IQ} {e : Int} : (d.any fun x => decide (x.1 = e)) = true ↔ e ∈ d.map (·.1) := by
  rw [List.any_eq_true, List.mem_map]
  exact ⟨fun ⟨x, h, k⟩ => ⟨x, h, of_decide_eq_true k⟩, fun ⟨x, h, k⟩ => ⟨x, h, decide_eq_true k⟩⟩
theorem setK_keys (d : List IQ) (e v : Int) : (setK d e v).map (·.1) = if e ∈ d.map (·.1) then d.map (·.1) else d.map (·.1) ++ [e] := by
  unfold setK
  by_cases h : (d.any fun x => decide (x.1 = e)) = true
  · rw [if_pos h, if_pos (any_key.mp h), List.map_map]
    refine List.map_congr_left fun x _ => ?_
    show (if x.1 = e then (e, v) else x).1 = x.1
    split
    · next q => exact q.symm
    · rfl
  · rw [if_neg h, if_neg fun q => h (any_key.mpr q), List.map_append]
    rfl
theorem setK_nodup {d : List IQ} {e v : Int} (h : (d.map (·.1)).Nodup) : ((setK d e v).map (·.1)).Nodup := by
  rw [setK_keys]
  split
  · exact h
  · next q => exact List.nodup_append.mpr ⟨h, by simp, fun a ha b hb => by
      rw [List.mem_singleton.mp hb]
      intro z
      exact q (z ▸ ha)⟩
theorem setK_len (d : List IQ) (e v : Int) : (setK d e v).length ≤ d.length + 1 := by
  have := congrArg List.length (setK_keys d e v)
  rw [List.length_map] at this
  split at this <;> simp at this <;> omega
theorem setK_mem {d : List IQ} {e v : Int} {x : IQ} (h : x ∈ setK d e v) : x = (e, v) ∨ x ∈ d := by
  unfold setK at h
  split at h
  · obtain ⟨y, hy, q⟩ := List.mem_map.mp h
    split at q
    · exact .inl q.symm
    · exact .inr (q ▸ hy)
  · rcases List.mem_append.mp h with h | h
    · exact .inr h
    · exact .inl (List.mem_singleton.mp h)
theorem getK_some {d : List IQ} {e v : Int} (h : getK d e = some v) : (e, v) ∈ d := by
  unfold getK at h
  cases q : d.find? fun x => decide (x.1 = e) with
  | none => rw [q] at h; cases h
  | some x =>
    rw [q] at h
    have h1 := List.find?_some q
    have h2 := List.mem_of_find?_eq_some q
    obtain ⟨a, b⟩ := x
    have h1 : a = e := of_decide_eq_true h1
    have h : b = v := Option.some.inj h
    subst h1 h
    exact h2
theorem getK_none {d : List IQ} {e : Int} (h : getK d e = none) : e ∉ d.map (·.1) := fun q => by
  unfold getK at h
  rw [Option.map_eq_none_iff, List.find?_eq_none] at h
  obtain ⟨x, hx, k⟩ := List.mem_map.mp q
  exact h x hx (decide_eq_true k)
theorem nodup_eq {d : List IQ} (h : (d.map (·.1)).Nodup) {e a b : Int} (h1 : (e, a) ∈ d) (h2 : (e, b) ∈ d) : a = b := by
  induction d with
  | nil => cases h1
  | cons x d ih =>
    rw [List.map_cons, List.nodup_cons] at h
    rcases List.mem_cons.mp h1 with q1 | q1 <;> rcases List.mem_cons.mp h2 with q2 | q2
    · exact (Prod.mk.inj (q1.trans q2.symm)).2
    · exact absurd (List.mem_map.mpr ⟨_, q2, by rw [← q1]⟩) h.1
    · exact absurd (List.mem_map.mpr ⟨_, q1, by rw [← q2]⟩) h.1
    · exact ih h.2 q1 q2
/-- found[e] = found.get(e, 0) + c -/
theorem addK_set {d : List IQ} {e c : Int} (h : (d.map (·.1)).Nodup) : addK d e c = setK d e ((getK d e).getD 0 + c) := by
  unfold addK setK
  cases q : getK d e with
  | some v =>
    have m := getK_some q
    by_cases k : (d.any fun x => decide (x.1 = e)) = true
    · rw [if_pos k, if_pos k]
      refine List.map_congr_left fun x hx => ?_
      by_cases z : x.1 = e
      · rw [if_pos z, if_pos z]
        have : x.2 = v := nodup_eq h (e := e) (by rw [← z]; exact hx) m
        rw [this]
        rfl
      · rw [if_neg z, if_neg z]
    · exact absurd (any_key.mpr (List.mem_map.mpr ⟨_, m, rfl⟩)) k
  | none =>
    have n := getK_none q
    have k : ¬ (d.any fun x => decide (x.1 = e)) = true := fun z => n (any_key.mp z)
    rw [if_neg k, if_neg k]
    show d ++ [(e, c)] = d ++ [(e, 0 + c)]
    rw [Int.zero_add]

/-! ### what the pairs come to -/
theorem addK_keys (d : List IQ) (e c : Int) : (addK d e c).map (·.1) = if e ∈ d.map (·.1) then d.map (·.1) else d.map (·.1) ++ [e] := by
  unfold addK
  by_cases h : (d.any fun x => decide (x.1 = e)) = true
  · rw [if_pos h, if_pos (any_key.mp h), List.map_map]
    refine List.map_congr_left fun x _ => ?_
    show (if x.1 = e then (e, x.2 + c) else x).1 = x.1
    split
    · next q => exact q.symm
    · rfl
  · rw [if_neg h, if_neg fun q => h (any_key.mpr q), List.map_append]
    rfl
theorem addK_nodup {d : List IQ} {e c : Int} (h : (d.map (·.1)).Nodup) : ((addK d e c).map (·.1)).Nodup := by
  rw [addK_set h]
  exact setK_nodup h
theorem addK_len {d : List IQ} (e c : Int) (h : (d.map (·.1)).Nodup) : (addK d e c).length ≤ d.length + 1 := by
  rw [addK_set h]
  exact setK_len d e _
/-- a property of the pairs that sums keep -/
theorem addK_all {d : List IQ} {e c : Int} {p : IQ → Prop} (hd : ∀ x ∈ d, p x) (h0 : p (e, c)) (hs : ∀ b, p (e, b) → p (e, b + c)) : ∀ x ∈ addK d e c, p x := fun x hx => by
  unfold addK at hx
  split at hx
  · obtain ⟨y, hy, q⟩ := List.mem_map.mp hx
    split at q
    · next z =>
      have := hd y hy
      obtain ⟨a, b⟩ := y
      have z : a = e := z
      subst z
      rw [← q]
      exact hs b this
    · rw [← q]
      exact hd y hy
  · rcases List.mem_append.mp hx with hx | hx
    · exact hd x hx
    · rw [List.mem_singleton.mp hx]
      exact h0
theorem sum_map_perm {α : Type} (f : α → Int) {a b : List α} (h : a.Perm b) : (a.map f).sum = (b.map f).sum := by
  induction h with
  | nil => rfl
  | cons x _ ih => simp only [List.map_cons, List.sum_cons, ih]
  | swap x y l =>
    simp only [List.map_cons, List.sum_cons]
    omega
  | trans _ _ h1 h2 => rw [h1, h2]
theorem sum_map_add {α : Type} (f : α → Int) (a b : List α) : ((a ++ b).map f).sum = (a.map f).sum + (b.map f).sum := by
  induction a with
  | nil => simp
  | cons x a ih =>
    simp only [List.cons_append, List.map_cons, List.sum_cons, ih]
    omega
/-- a sum over the pairs that is linear in the coefficient -/
def lin (f : Int → Int) (ps : List IQ) : Int := (ps.map fun x => x.2 * f x.1).sum
theorem lin_perm (f : Int → Int) {a b : List IQ} (h : a.Perm b) : lin f a = lin f b := sum_map_perm _ h
theorem lin_app (f : Int → Int) (a b : List IQ) : lin f (a ++ b) = lin f a + lin f b := sum_map_add _ a b
theorem lin_cons (f : Int → Int) (x : IQ) (a : List IQ) : lin f (x :: a) = x.2 * f x.1 + lin f a := by simp [lin]
theorem lin_addK (f : Int → Int) : ∀ {d : List IQ} {e c : Int}, (d.map (·.1)).Nodup → lin f (addK d e c) = lin f d + c * f e
  | d, e, c, h => by
    unfold addK
    by_cases k : (d.any fun x => decide (x.1 = e)) = true
    · rw [if_pos k]
      induction d with
      | nil => simp at k
      | cons x d ih =>
        rw [List.map_cons, List.nodup_cons] at h
        rw [List.map_cons, lin_cons, lin_cons]
        by_cases z : x.1 = e
        · rw [if_pos z]
          have e1 : (d.map fun x => if x.1 = e then (e, x.2 + c) else x) = d := by
            rw [List.map_congr_left (g := id), List.map_id]
            intro y hy
            have : y.1 ≠ e := fun q => h.1 (List.mem_map.mpr ⟨y, hy, by rw [q, z]⟩)
            rw [if_neg this]
            rfl
          rw [e1]
          show (x.2 + c) * f e + _ = _
          rw [Int.add_mul, z]
          omega
        · rw [if_neg z]
          have k' : (d.any fun x => decide (x.1 = e)) = true := by
            rw [List.any_cons, decide_eq_false z, Bool.false_or] at k
            exact k
          rw [ih h.2 k']
          omega
    · rw [if_neg k, lin_app]
      simp [lin]
theorem acc_inv (ps : List IQ) : ∀ d : List IQ, (d.map (·.1)).Nodup → ((ps.foldl (fun d x => addK d x.1 x.2) d).map (·.1)).Nodup ∧ (ps.foldl (fun d x => addK d x.1 x.2) d).length ≤ d.length + ps.length ∧
    (∀ f, lin f (ps.foldl (fun d x => addK d x.1 x.2) d) = lin f d + lin f ps) ∧ ∀ e, e ∈ (ps.foldl (fun d x => addK d x.1 x.2) d).map (·.1) ↔ e ∈ d.map (·.1) ∨ e ∈ ps.map (·.1) := by
  induction ps with
  | nil => exact fun d h => ⟨h, Nat.le_refl _, fun f => by simp [lin], fun e => by simp⟩
  | cons x ps ih =>
    intro d h
    obtain ⟨h1, h2, h3, h4⟩ := ih (addK d x.1 x.2) (addK_nodup h)
    have hl := addK_len x.1 x.2 h
    refine ⟨h1, by rw [List.foldl_cons, List.length_cons]; omega, fun f => ?_, fun e => ?_⟩
    · rw [List.foldl_cons, h3, lin_addK f h, lin_cons]
      omega
    · rw [List.foldl_cons, h4, addK_keys]
      simp only [List.map_cons, List.mem_cons]
      split
      · next q => exact ⟨fun z => z.elim .inl fun z => .inr (.inr z), fun z => z.elim .inl fun z => z.elim (fun z => .inl (z ▸ q)) .inr⟩
      · simp only [List.mem_append, List.mem_singleton]
        exact ⟨fun z => z.elim (fun z => z.elim .inl fun z => .inr (.inl z)) fun z => .inr (.inr z), fun z => z.elim (fun z => .inl (.inl z)) fun z => z.elim (fun z => .inl (.inr z)) .inr⟩
theorem acc_nodup (ps : List IQ) : ((accP ps).map (·.1)).Nodup := (acc_inv ps [] List.nodup_nil).1
theorem acc_len (ps : List IQ) : (accP ps).length ≤ ps.length := by
  have := (acc_inv ps [] List.nodup_nil).2.1
  simpa [accP] using this
theorem acc_lin (f : Int → Int) (ps : List IQ) : lin f (accP ps) = lin f ps := by
  have := (acc_inv ps [] List.nodup_nil).2.2.1 f
  simpa [accP, lin] using this
theorem acc_keys (ps : List IQ) (e : Int) : e ∈ (accP ps).map (·.1) ↔ e ∈ ps.map (·.1) := by
  have := (acc_inv ps [] List.nodup_nil).2.2.2 e
  simpa [accP] using this
theorem acc_all {p : IQ → Prop} (hs : ∀ e b c, p (e, b) → p (e, c) → p (e, b + c)) (ps : List IQ) (h : ∀ x ∈ ps, p x) : ∀ x ∈ accP ps, p x := by
  have : ∀ d : List IQ, (∀ x ∈ d, p x) → ∀ x ∈ ps.foldl (fun d x => addK d x.1 x.2) d, p x := by
    induction ps with
    | nil => exact fun d h => h
    | cons y ps ih =>
      intro d hd
      rw [List.foldl_cons]
      exact ih (fun x hx => h x (List.mem_cons_of_mem _ hx)) _ (addK_all hd (h y List.mem_cons_self) fun b hb => hs _ _ _ hb (h y List.mem_cons_self))
  exact this [] (fun x hx => absurd hx List.not_mem_nil)
/-- what stands at e -/
def at1 (e : Int) : Int → Int := fun k => if k = e then 1 else 0
theorem lin_at {d : List IQ} (h : (d.map (·.1)).Nodup) {e c : Int} (m : (e, c) ∈ d) : lin (at1 e) d = c := by
  induction d with
  | nil => cases m
  | cons x d ih =>
    rw [List.map_cons, List.nodup_cons] at h
    rw [lin_cons]
    rcases List.mem_cons.mp m with q | q
    · have z : lin (at1 e) d = 0 := by
        have : ∀ l : List IQ, (∀ y ∈ l, y.1 ≠ e) → lin (at1 e) l = 0 := fun l => by
          induction l with
          | nil => intro _; rfl
          | cons y l ih =>
            intro hl
            rw [lin_cons, ih fun z hz => hl z (List.mem_cons_of_mem _ hz)]
            show y.2 * (if y.1 = e then 1 else 0) + 0 = 0
            rw [if_neg (hl y List.mem_cons_self)]
            simp
        exact this d fun y hy k => h.1 (List.mem_map.mpr ⟨y, hy, by rw [k, ← q]⟩)
      rw [z, ← q]
      show c * (if e = e then 1 else 0) + 0 = c
      rw [if_pos rfl]
      omega
    · have : x.1 ≠ e := fun k => h.1 (List.mem_map.mpr ⟨_, q, k.symm⟩)
      show x.2 * (if x.1 = e then 1 else 0) + _ = c
      rw [if_neg this, ih h.2 q]
      omega
theorem asc_nodup {ys : List IQ} (h : Asc ys) : (ys.map (·.1)).Nodup := by
  rw [List.Nodup, List.pairwise_map]
  exact h.imp fun q z => by omega
theorem asc_uniq : ∀ {a b : List IQ}, Asc a → Asc b → a.Perm b → a = b
  | [], b, _, _, h => (List.Perm.eq_nil h.symm).symm
  | x :: a, [], _, _, h => absurd h.length_eq (by simp)
  | x :: a, y :: b, ha, hb, h => by
    have hx : x ∈ y :: b := h.mem_iff.mp List.mem_cons_self
    have hy : y ∈ x :: a := h.mem_iff.mpr List.mem_cons_self
    have e : x = y := by
      rcases List.mem_cons.mp hx with q | q
      · exact q
      · rcases List.mem_cons.mp hy with q2 | q2
        · exact q2.symm
        · have h1 := (List.pairwise_cons.mp hb).1 x q
          have h2 := (List.pairwise_cons.mp ha).1 y q2
          omega
    subst e
    rw [asc_uniq (List.pairwise_cons.mp ha).2 (List.pairwise_cons.mp hb).2 h.cons_inv]
/-- lists of the same pairs have one sum -/
theorem canon_uniq {ps qs a b : List IQ} (h : ps.Perm qs) (ha : Canon ps a) (hb : Canon qs b) : a = b := by
  refine asc_uniq ha.2 hb.2 (ha.1.trans (List.Perm.trans ?_ hb.1.symm))
  have sub : ∀ {ps qs : List IQ}, ps.Perm qs → ∀ x, x ∈ accP ps → x ∈ accP qs := fun {ps qs} h x hx => by
    have hk : x.1 ∈ (accP qs).map (·.1) := by
      rw [acc_keys, ← (h.map (·.1)).mem_iff, ← acc_keys]
      exact List.mem_map.mpr ⟨x, hx, rfl⟩
    obtain ⟨y, hy, e⟩ := List.mem_map.mp hk
    have h1 := lin_at (acc_nodup ps) (e := x.1) (c := x.2) hx
    have h2 := lin_at (acc_nodup qs) (e := x.1) (c := y.2) (by rw [← e]; exact hy)
    rw [acc_lin] at h1 h2
    rw [lin_perm _ h] at h1
    have : x = y := Prod.ext e.symm (h1.symm.trans h2)
    rw [this]
    exact hy
  have nd : ∀ ps : List IQ, (accP ps).Nodup := fun ps => (List.pairwise_map.mp (acc_nodup ps)).imp fun q e => q (by rw [e])
  exact (List.perm_ext_iff_of_nodup (nd ps) (nd qs)).mpr fun x => ⟨sub h x, sub h.symm x⟩
theorem canon_lin (f : Int → Int) {ps ys : List IQ} (h : Canon ps ys) : lin f ys = lin f ps := (lin_perm f h.1).trans (acc_lin f ps)
theorem canon_len {ps ys : List IQ} (h : Canon ps ys) : ys.length ≤ ps.length := by
  rw [h.1.length_eq]
  exact acc_len ps
theorem canon_all {p : IQ → Prop} (hs : ∀ e b c, p (e, b) → p (e, c) → p (e, b + c)) {ps ys : List IQ} (h : Canon ps ys) (hp : ∀ x ∈ ps, p x) : ∀ x ∈ ys, p x := fun x hx => acc_all hs ps hp x (h.1.mem_iff.mp hx)

/-! ### products -/
def mulP (p q : List IQ) : List IQ := p.flatMap fun x => q.map fun y => (x.1 + y.1, x.2 * y.2)
theorem mulP_cons (x : IQ) (p q : List IQ) : mulP (x :: p) q = (q.map fun y => (x.1 + y.1, x.2 * y.2)) ++ mulP p q := by simp [mulP]
theorem mulP_consR (x : IQ) (p : List IQ) : ∀ q : List IQ, (mulP q (x :: p)).Perm ((q.map fun y => (y.1 + x.1, y.2 * x.2)) ++ mulP q p)
  | [] => by simp [mulP]
  | y :: q => by
    rw [mulP_cons, mulP_cons, List.map_cons, List.map_cons, List.cons_append, List.cons_append]
    refine List.Perm.cons _ ?_
    have h := mulP_consR x p q
    refine (List.Perm.append_left _ h).trans ?_
    rw [← List.append_assoc, ← List.append_assoc]
    exact List.Perm.append_right _ List.perm_append_comm
theorem mulP_comm : ∀ p q : List IQ, (mulP p q).Perm (mulP q p)
  | [], q => by
    have : mulP q [] = [] := by
      induction q with
      | nil => rfl
      | cons y q ih => rw [mulP_cons, ih]; rfl
    rw [this]
    exact List.Perm.refl _
  | x :: p, q => by
    rw [mulP_cons]
    refine (List.Perm.append_left _ (mulP_comm p q)).trans ?_
    refine List.Perm.trans ?_ (mulP_consR x p q).symm
    rw [show (q.map fun y => (x.1 + y.1, x.2 * y.2)) = q.map fun y => (y.1 + x.1, y.2 * x.2) from List.map_congr_left fun y _ => by rw [Int.add_comm, Int.mul_comm]]
theorem mulP_len : ∀ p q : List IQ, (mulP p q).length = p.length * q.length
  | [], q => by simp [mulP]
  | x :: p, q => by
    rw [mulP_cons, List.length_append, List.length_map, mulP_len p q, List.length_cons, Nat.succ_mul]
    exact Nat.add_comm _ _
/-- the value -/
def pw (k : Nat) : Int → Int := fun e => ((k ^ e.toNat : Nat) : Int)
def evalP (p : List IQ) (k : Nat) : Int := lin (pw k) p
theorem pw_add (k : Nat) {a b : Int} (ha : 0 ≤ a) (hb : 0 ≤ b) : pw k (a + b) = pw k a * pw k b := by
  unfold pw
  rw [Int.toNat_add ha hb, Nat.pow_add, Int.natCast_mul]
theorem mul_lin {k : Nat} {x : IQ} (hx : 0 ≤ x.1) : ∀ {q : List IQ}, (∀ y ∈ q, 0 ≤ y.1) → lin (pw k) (q.map fun y => (x.1 + y.1, x.2 * y.2)) = x.2 * pw k x.1 * lin (pw k) q
  | [], _ => by simp [lin]
  | y :: q, h => by
    rw [List.map_cons, lin_cons, lin_cons, mul_lin hx fun z hz => h z (List.mem_cons_of_mem _ hz), Int.mul_add, pw_add k hx (h y List.mem_cons_self)]
    have : x.2 * y.2 * (pw k x.1 * pw k y.1) = x.2 * pw k x.1 * (y.2 * pw k y.1) := by
      rw [Int.mul_assoc, Int.mul_assoc, Int.mul_left_comm y.2]
    rw [this]
theorem eval_mul {k : Nat} : ∀ {p q : List IQ}, (∀ x ∈ p, 0 ≤ x.1) → (∀ y ∈ q, 0 ≤ y.1) → evalP (mulP p q) k = evalP p k * evalP q k
  | [], q, _, _ => by simp [mulP, evalP, lin]
  | x :: p, q, hp, hq => by
    have ih := eval_mul (k := k) (p := p) (q := q) (fun z hz => hp z (List.mem_cons_of_mem _ hz)) hq
    unfold evalP at ih ⊢
    rw [mulP_cons, lin_app, mul_lin (hp x List.mem_cons_self) hq, ih, lin_cons, Int.add_mul]
end Zk

set_option maxHeartbeats 4000000
/-! K0: rules over data: isinstance, == with an empty tuple or list, sorted(d.items()) of ints. -/
namespace Zk
open PySem PySem.Spec PyProof.Rows L2 GxR

/-! ### the heap but for tables of code -/
/-- what stands and is no table stands -/
def Sm (H H' : Hp) : Prop := ∀ b o, H b = some o → (∀ ps, o ≠ .tbl ps) → H' b = some o
theorem Sm.refl (H : Hp) : Sm H H := fun _ _ e _ => e
theorem Sm.trans {a b c : Hp} (x : Sm a b) (y : Sm b c) : Sm a c := fun p o e n => y p o (x p o e n) n
theorem Same.sm {H H' : Hp} (x : Same H H') : Sm H H' := fun p o e _ => x p o e
/-- the tables at T -/
def Tb (T : List Addr) (H : Hp) : Prop := ∀ P ∈ T, TabG H P
theorem Tb.same {T : List Addr} {H H' : Hp} (t : Tb T H) (s : Same H H') : Tb T H' := fun P hP => let ⟨ps, e, h⟩ := t P hP; ⟨ps, s _ _ e, h⟩
theorem Tb.mono {T T' : List Addr} {H : Hp} (t : Tb T H) (h : ∀ P ∈ T', P ∈ T) : Tb T' H := fun P hP => t P (h P hP)
theorem Tabbed.sm {P : Addr} {H H' : Hp} (t : Tabbed P H H') (g : TabG H P) : Sm H H' := fun b o e n => by
  by_cases hb : b = P
  · obtain ⟨ps, e2, _⟩ := g
    rw [hb, e2] at e
    exact absurd (Option.some.inj e).symm (n ps)
  · rw [t.2 b hb]
    exact e
theorem Tabbed.tb {T : List Addr} {P : Addr} {H H' : Hp} (t : Tabbed P H H') (g : Tb T H) : Tb T H' := fun R hR => by
  by_cases hb : R = P
  · rw [hb]
    exact t.1
  · obtain ⟨ps, e, h⟩ := g R hR
    exact ⟨ps, by rw [t.2 R hb]; exact e, h⟩
mutual
theorem Sd.sm {H H' : Hp} (e : Sm H H') : ∀ {v : V} {d : PyData}, Sd H v d → Sd H' v d
  | _, _, .non => .non
  | _, _, .bl b => .bl b
  | _, _, .int i => .int i
  | _, _, .str x => .str x
  | _, _, .lst h t => .lst (e _ _ h fun _ z => nomatch z) (SdL.sm e t)
  | _, _, .tup h t => .tup (e _ _ h fun _ z => nomatch z) (SdL.sm e t)
  | _, _, .dic h t => .dic (e _ _ h fun _ z => nomatch z) (SdK.sm e t)
theorem SdL.sm {H H' : Hp} (e : Sm H H') : ∀ {vs : List V} {ds : List PyData}, SdL H vs ds → SdL H' vs ds
  | _, _, .nil => .nil
  | _, _, .cons h t => .cons (Sd.sm e h) (SdL.sm e t)
theorem SdK.sm {H H' : Hp} (e : Sm H H') : ∀ {ks : List (Key × V)} {es : List (PyData × PyData)}, SdK H ks es → SdK H' ks es
  | _, _, .nil => .nil
  | _, _, .cons h t => .cons (Sd.sm e h) (SdK.sm e t)
end

/-! ### isinstance -/
def tyD : PyData → String
  | .none => "NoneType"
  | .bool _ => "bool"
  | .int _ => "int"
  | .str _ => "str"
  | .list _ => "list"
  | .tuple _ => "tuple"
  | .dict _ => "dict"
def isNumD : PyData → Bool
  | .int _ => true
  | .bool _ => true
  | _ => false
def isBoolD : PyData → Bool
  | .bool _ => true
  | _ => false
def isStrD : PyData → Bool
  | .str _ => true
  | _ => false
def isListD : PyData → Bool
  | .list _ => true
  | _ => false
def isTupD : PyData → Bool
  | .tuple _ => true
  | _ => false
/-- an integer that is no bool -/
def isIntD : PyData → Bool
  | .int _ => true
  | _ => false
/-- a built-in class's name, and of which data it is the class -/
inductive IsTy : String → (PyData → Bool) → Prop
  | int : IsTy "int" isNumD
  | bool : IsTy "bool" isBoolD
  | str : IsTy "str" isStrD
  | list : IsTy "list" isListD
  | tuple : IsTy "tuple" isTupD
theorem sd_ty {K : PySem.W.Frag} {H : Hp} {v : V} {d : PyData} (h : Sd H v d) : TyX K H v (.type (tyD d)) := by
  cases h with
  | non => exact .base .non
  | bl b => exact .base (.bl b)
  | int i => exact .base (.int i)
  | str x => exact .base (.str x)
  | lst h _ => exact .base (.lst h)
  | tup h _ => exact .base (.tup h)
  | dic h _ => exact .base (.dK h)
theorem sd_kit {K : PySem.W.Frag} {H : Hp} {v : V} {d : PyData} {n : String} {f : PyData → Bool} (h : Sd H v d) (t : IsTy n f) : PySem.W.kitOne K (.type (tyD d)) (.type n) = some (f d) := by
  cases t <;> cases h <;> (refine kit_ty ?_; simp only [tyD, isNumD, isBoolD, isStrD, isListD, isTupD]; decide +kernel)
def rIsD (n : String) (f : PyData → Bool) : List V → Hp → VK → Prop := fun xs H Q => ∃ x d, xs = [x, .ty n] ∧ Sd H x d ∧ Q (.bl (f d)) H
section
variable {X : Cx} {te : TE} {e : Expr}
theorem call_isD {n : String} {f : PyData → Bool} (t : IsTy n f) : CallR X (.builtin "isinstance") (rIsD n f) := by
  intro pins s σ H xs us Q I r h
  obtain ⟨x, d, rfl, sd, q⟩ := h
  exact call_isi pins s σ H _ us Q I r ⟨x, .ty n, _, _, _, rfl, .ty n, sd_ty sd, sd_kit sd t, q⟩
/-- isinstance(e, T), e data -/
theorem pe_isD {nm : Str} {n : String} {f : PyData → Bool} {p p2 pos : Pos} (t : IsTy n f) (he : PE X e te) (hg : Gl X "isinstance") (hm : X.mg "isinstance" = none) (hg2 : Gl X nm) (hm2 : X.mg nm = none) (hv2 : bootBuiltins nm = some (.type n)) (hn2 : nm ≠ "__name__" := by decide) (hd2 : (nm == ("__debug__" : Str)) = false := by decide)
    (hst : starEach (e :: [.Name nm p2]) X.env = (false, eval e X.env) :: starEach [.Name nm p2] X.env := by rfl) (hpl : (backTo pos (starEach [.Name nm p2] X.env)).any (·.1) = false := by rfl) :
    PE X (.Call (.Name "isinstance" p) [e, .Name nm p2] [] pos) (tCB (rIsD n f) (tCons te (tCons (tC (.ty n)) tNil))) :=
  pe_callB (call_isD t) hg hm PyProof.Rows.boot_isinstance (pa_cons he (pa_cons (pe_bltn (v := .ty n) hg2 hm2 hv2 rfl hn2 hd2) pa_nil) (hs := hst)) (he := hst) (hpl := hpl)

/-! ### == with an empty tuple, an empty list -/
/-- x == (), x a tuple -/
def rEqT0 (K : PySem.W.Frag) (k : Bool → Bool) : R2 := fun x y H Q => ∃ a b xs, x = .ref a ∧ y = .ref b ∧ SqT K H a xs ∧ SqT K H b [] ∧ Q (.bl (k xs.isEmpty)) H
def rEqL0 (K : PySem.W.Frag) (k : Bool → Bool) : R2 := fun x y H Q => ∃ a b xs, x = .ref a ∧ y = .ref b ∧ SqL K H a xs ∧ SqL K H b [] ∧ Q (.bl (k xs.isEmpty)) H
theorem op_eqT0 (hu : X.A.units < cLine) : OpR X (compareOp .Eq) (rEqT0 X.K id) := by
  intro pins s σ H x y v u Q I rx ry h
  obtain ⟨a, b, xs, rfl, rfl, ha, hb, q⟩ := h
  cases rx
  cases ry
  obtain ⟨its, r1, p1, _⟩ := I.tuple ha
  obtain ⟨its2, r2, p2, _⟩ := I.tuple hb
  cases r2
  refine SeqAt.eq_tupleAt (e := fun _ => true) p1 p2 hu (fun j _ h2 => absurd h2 (by simp)) ⟨.bl _, H, I, rfl, ?_⟩
  have e : (its.length == 0) = xs.isEmpty := by cases r1 <;> rfl
  simpa [e] using q
theorem op_neT0 (hu : X.A.units < cLine) : OpR X (compareOp .NotEq) (rEqT0 X.K not) := by
  intro pins s σ H x y v u Q I rx ry h
  obtain ⟨a, b, xs, rfl, rfl, ha, hb, q⟩ := h
  cases rx
  cases ry
  obtain ⟨its, r1, p1, _⟩ := I.tuple ha
  obtain ⟨its2, r2, p2, _⟩ := I.tuple hb
  cases r2
  refine SeqAt.RcNeAt.tuples (e := fun _ => true) p1 p2 hu (fun j _ h2 => absurd h2 (by simp)) _ _ _ _ ⟨.bl _, H, I, rfl, ?_⟩
  have e : (its.length == 0) = xs.isEmpty := by cases r1 <;> rfl
  simpa [e] using q
theorem op_eqL0 (hu : X.A.units < cLine) : OpR X (compareOp .Eq) (rEqL0 X.K id) := by
  intro pins s σ H x y v u Q I rx ry h
  obtain ⟨a, b, xs, rfl, rfl, ha, hb, q⟩ := h
  cases rx
  cases ry
  obtain ⟨its, r1, p1, _⟩ := I.list ha
  obtain ⟨its2, r2, p2, _⟩ := I.list hb
  cases r2
  cases r1 with
  | nil => exact SeqAt.eq_listAt (e := fun _ => true) p1.isList p2.isList rfl hu (fun j h1 _ => absurd h1 (by simp)) ⟨.bl _, H, I, rfl, by simpa using q⟩
  | cons _ _ => exact SeqAt.eq_list_lengthsAt p1.isList p2.isList (by simp) hu ⟨.bl _, H, I, rfl, by simpa using q⟩
end
end Zk

set_option maxHeartbeats 4000000
/-! K1: d.items() of a dict of ints, sorted(d.items()). -/
namespace Zk
open PySem PySem.Spec PyProof.Rows L2 GxR
open L2.DX (itemsO itemsO_ok takeT)

abbrev IP := Int × Int
def dI (es : List IP) : List (Key × V) := es.map fun e => (.inl e.1, .int e.2)
/-- tuples (i, j) at ts -/
def PT (H : Hp) : List V → List IP → Prop := Paired fun v e => ∃ t, v = .ref t ∧ H t = some (.tup [.int e.1, .int e.2])
theorem PT.sm {H H' : Hp} (s : Sm H H') : ∀ {ts : List V} {es : List IP}, PT H ts es → PT H' ts es
  | _, _, .nil => .nil
  | _, _, .cons ⟨t, e, h⟩ r => .cons ⟨t, e, s _ _ h fun _ z => nomatch z⟩ (PT.sm s r)
theorem PT.len {H : Hp} {ts : List V} {es : List IP} (h : PT H ts es) : ts.length = es.length := Paired.length h
def pairOf (h : Heap) : Value → IP
  | .ref a => match h.get? a with
    | some o => match o.data with
      | .seq items _ => match items.toList with
        | [.int x _, .int y _] => (x, y)
        | _ => (0, 0)
      | _ => (0, 0)
    | none => (0, 0)
  | _ => (0, 0)
theorem pairOf_of {h : Heap} {v : Value} {x y : Int} (p : Srt.IsPair h v x y) : pairOf h v = (x, y) := by
  obtain ⟨a, o, t, u, n, rfl, ho, hc, hd⟩ := p
  simp only [pairOf, ho, hd]
section
variable {X : Cx}
def rItemsK : V → List V → Hp → VK → Prop := fun x xs H Q => ∃ (a : Addr) (kvs : List (Key × V)), x = .ref a ∧ xs = [] ∧ H a = some (.dK kvs) ∧ ∀ p, H p = none → Q (.ref p) (upd H p (itemsO p a))
theorem raw_of {pins : List (Addr × Obj)} {σ : L2.St} {H : Hp} {s : Shared} {a : Addr} {kvs : List (Key × V)} (I : Inv X pins σ H s) (ha : H a = some (.dK kvs)) :
    (a == sysModules) = false ∧ kvs.length ≤ sizeLine ∧ ∃ es ep vs, DT.Raw s.heap a es ep ∧ KV kvs vs ∧ Pairs (mixKind X.prog X.w) es.toList vs := by
  obtain ⟨z, lo, vs, rel, o, es, ep, ho, hx, hd, _, hp, _⟩ := I.hok a _ ha
  exact ⟨lo, z, es, ep, vs, ⟨o, ho, hx, hd⟩, rel, hp⟩
theorem mt_itemsK : MtR X "dict.items" rItemsK := by
  intro pins s σ H x xs v us Q I rx rxs h
  obtain ⟨a, kvs, rfl, rfl, ha, q⟩ := h
  cases rx
  cases rxs
  obtain ⟨lo, z, es, ep, vs, raw, _⟩ := raw_of I ha
  refine DT.callItems (es := es) (ep := ep) lo raw ?_
  have hf : H s.heap.objs.size = none := I.hok.fresh (Nat.le_refl _)
  exact ⟨.ref s.heap.objs.size, upd H s.heap.objs.size (itemsO s.heap.objs.size a), I.laid (t' := s.toks) (fun b u e => Heap.get?_push_of_some _ e) (Nat.le_refl _) (itemsO_ok (Heap.get?_push_size _ rfl)), rfl, q _ hf⟩
/-- sorted(d.items()), keys and values ints -/
def rSortII : List V → Hp → VK → Prop := fun vs H Q => ∃ (p a : Addr) (es : List IP), vs = [.ref p] ∧ H p = some (itemsO p a) ∧ H a = some (.dK (dI es)) ∧
  ∀ (ys : List IP) (H' : Hp) (l : Addr) (ts : List V), ys.Perm es → ys.Pairwise (fun x y => SrtO.lexB y x = false) → Same H H' → H l = none → H' l = some (.lst ts) → PT H' ts ys → Q (.ref l) H'
theorem kv_dI {P : Program} {w : World} : ∀ {es : List IP} {ent : List DictEntry} {vs : List (Key × Value)}, KV (dI es) vs → Pairs (mixKind P w) ent vs →
    ent.length = es.length ∧ ∀ (j : Nat) (e : IP), es[j]? = some e → ∃ en t u, ent[j]? = some en ∧ en.key = .int e.1 t ∧ en.val = .int e.2 u
  | [], _, _, .nil, .nil => ⟨rfl, fun j e h => by simp at h⟩
  | e :: es, _, _, .cons r t, .cons h1 h2 h3 => by
    obtain ⟨l, q⟩ := kv_dI t h3
    refine ⟨by rw [List.length_cons, List.length_cons, l], fun j e' h => ?_⟩
    cases j with
    | zero =>
      simp only [List.getElem?_cons_zero, Option.some.injEq] at h
      subst h
      obtain ⟨r1, u, r2⟩ := r
      have r1 : (Sum.inl e.1 : Key) = _ := r1
      rw [← r1] at h1
      rcases keyIs_shape (show keyIs (Sum.inl e.1) _ = true from h1) with ⟨i, tk, e1, e2⟩ | ⟨x, tk, e1, _⟩
      · cases e1
        exact ⟨_, tk, u, rfl, e2, by rw [h2, r2]⟩
      · exact nomatch e1
    | succ j =>
      simp only [List.getElem?_cons_succ] at h
      obtain ⟨en, tk, u, a, b, c⟩ := q j e' h
      exact ⟨en, tk, u, by rw [List.getElem?_cons_succ]; exact a, b, c⟩
theorem cr_sortedII (hc : X.calm = true) : CallR X (.builtin "sorted") rSortII := by
  intro pins s σ H xs us Q I r h
  obtain ⟨p, a, es, rfl, hp, ha, q⟩ := h
  obtain rfl := Vals.ref1 r
  have view : s.heap.IsItemsView p a := (show ObjOk X.prog X.w H s.heap p (itemsO p a) from I.hok p _ hp).1
  obtain ⟨lo, z, ent, ep, vs, raw, rel, hpr⟩ := raw_of I ha
  obtain ⟨le, hat⟩ := kv_dI rel hpr
  have les : ent.size = es.length := by rw [← Array.length_toList]; exact le
  have zes : es.length ≤ sizeLine := by simpa [dI] using z
  refine DT.sortedI (es := ent) (ep := ep) (I.ok.hd hc) view raw (by rw [les]; exact zes) fun h' tk as hk hlt hl hG => ?_
  have lak : as.length = es.length := hl.trans les
  have nd : as.Nodup := List.Pairwise.imp (fun h => Nat.ne_of_lt h) hG.rise
  -- the pairs that were made
  have pr : ∀ (j : Nat) (b : Addr), as[j]? = some b → ∃ (e : IP) (t u : Tok), es[j]? = some e ∧ h'.get? b = some { cls := .type "tuple", data := .seq #[Value.int e.1 t, Value.int e.2 u] } := by
    intro j b hj
    obtain ⟨en, he, hg⟩ := hG.pairs j b hj
    have hjl : j < es.length := by
      have := (List.getElem?_eq_some_iff.mp hj).1
      omega
    obtain ⟨en', t, u, e1, e2, e3⟩ := hat j es[j] (List.getElem?_eq_getElem hjl)
    have : en' = en := by
      rw [← Array.getElem?_toList] at he
      exact Option.some.inj (e1.symm.trans he)
    subst this
    exact ⟨es[j], t, u, List.getElem?_eq_getElem hjl, by rw [hg, e2, e3]⟩
  have hob : (h'.push { cls := .type "list", data := .seq (as.map Value.ref).toArray }).get? h'.objs.size = some (seqObj "list" (as.map Value.ref).toArray 0) := Heap.get?_push_size _ rfl
  have ne0 : ∀ b o, h'.get? b = some o → b ≠ h'.objs.size := fun b o e => Nat.ne_of_lt (Heap.lt_size e)
  generalize hh2 : h'.push { cls := .type "list", data := .seq (as.map Value.ref).toArray } = h2 at hob ⊢
  have ka : ∀ b o, h'.get? b = some o → h2.get? b = some o := fun b o e => by rw [← hh2]; exact Heap.get?_push_of_some _ e
  have kb : ∀ b o, s.heap.get? b = some o → h2.get? b = some o := fun b o e => ka b o (hk b o e)
  have isP : ∀ v ∈ as.map Value.ref, ∃ (j : Nat) (b : Addr) (e : IP), v = .ref b ∧ as[j]? = some b ∧ es[j]? = some e ∧ Srt.IsPair h2 v e.1 e.2 := fun v hv => by
    obtain ⟨b, hb, rfl⟩ := List.mem_map.mp hv
    obtain ⟨j, hj⟩ := List.mem_iff_getElem?.mp hb
    obtain ⟨e, t, u, he, hg⟩ := pr j b hj
    exact ⟨j, b, e, rfl, hj, he, b, _, t, u, 0, rfl, ka _ _ hg, rfl, rfl⟩
  have isK : ∀ v ∈ as.map Value.ref, Srt.IsPair h2 v (pairOf h2 v).1 (pairOf h2 v).2 := fun v hv => by
    obtain ⟨_, _, e, _, _, _, hp⟩ := isP v hv
    rw [pairOf_of hp]
    exact hp
  have mapK : (as.map Value.ref).map (pairOf h2) = es := by
    apply List.ext_getElem?
    intro j
    by_cases hj : j < as.length
    · have h1 : as[j]? = some as[j] := List.getElem?_eq_getElem hj
      obtain ⟨e, t, u, he, hg⟩ := pr j _ h1
      rw [List.getElem?_map, List.getElem?_map, h1, he]
      show some (pairOf h2 (.ref as[j])) = _
      rw [pairOf_of ⟨as[j], _, t, u, 0, rfl, ka _ _ hg, rfl, rfl⟩]
    · rw [List.getElem?_eq_none (by simpa using hj), List.getElem?_eq_none (by omega)]
  refine wpAny_call_entry PyProof.Rows.slot_list_sort ⟨_, hob, rfl⟩ PyProof.Rows.entry_list_sort
    (SrtO.list_sort_ord (s := { s with heap := h2, toks := tk }) (SrtO.swo_lex (pairOf h2)) hob (by rw [List.length_map, lak]; exact zes)
      (fun h2' => SrtO.pairs_sortableO (s := { s with heap := h2, toks := tk }) (by omega) isK fun o e c => ?_) fun out o1 o2 => ⟨.none, rfl, ?_⟩) (PyProof.Rows.args_list_sort _)
  · have e : h2.get? h'.objs.size = some o := e
    rw [hob] at e
    cases e
    exact absurd (Value.type.inj c) (by decide)
  · show EP X pins σ Q (.ref h'.objs.size) { s with heap := sortedHeap h2 h'.objs.size (as.map Value.ref) out.toArray, toks := tk }
    have kF : ∀ b o, b ≠ h'.objs.size → h2.get? b = some o → (sortedHeap h2 h'.objs.size (as.map Value.ref) out.toArray).get? b = some o := fun b o hb e => (PyProof.Rows.sortedHeap_old hb (Heap.lt_size e)).trans e
    have kS : ∀ b o, s.heap.get? b = some o → (sortedHeap h2 h'.objs.size (as.map Value.ref) out.toArray).get? b = some o := fun b o e => kF b o (ne0 _ _ (hk b o e)) (kb b o e)
    obtain ⟨eF, heF⟩ := PyProof.Rows.sortedHeap_at (vs := as.map Value.ref) (out := out.toArray) hob
    have I1 : Inv X pins σ H { s with heap := sortedHeap h2 h'.objs.size (as.map Value.ref) out.toArray, toks := tk } := I.kept (t' := tk) kS
    have hn0 : H h'.objs.size = none := I.hok.fresh (Nat.le_of_lt hlt)
    have perm := o2.perm
    have lout : out.length = es.length := by rw [perm.length_eq, List.length_map, lak]
    have ref : ∀ v ∈ out, ∃ (j : Nat) (b : Addr) (e : IP), v = .ref b ∧ as[j]? = some b ∧ es[j]? = some e ∧ Srt.IsPair h2 v e.1 e.2 := fun v hv => isP v (perm.mem_iff.mp hv)
    have I2 : Inv X pins σ (upd H h'.objs.size (.lst (out.map backV))) { s with heap := sortedHeap h2 h'.objs.size (as.map Value.ref) out.toArray, toks := tk } :=
      I1.take (h' := sortedHeap h2 h'.objs.size (as.map Value.ref) out.toArray) (t' := tk) (fun b ob _ e => e) (I.fpOk (Nat.le_of_lt hlt) hn0) ⟨by rw [List.length_map, lout]; exact zes, out, eF, vals_back fun v hv => let ⟨_, b, _, e, _⟩ := ref v hv; ⟨b, e⟩, heF⟩
    obtain ⟨H2, I3, g, qt⟩ := takeT (P := fun b vs => ∃ (j : Nat) (e : IP), as[j]? = some b ∧ es[j]? = some e ∧ vs = [.int e.1, .int e.2]) I as _ I2 nd fun b hb => by
      obtain ⟨j, hj⟩ := List.mem_iff_getElem?.mp hb
      obtain ⟨e, t, u, he, hg⟩ := pr j b hj
      have hbl : s.heap.objs.size ≤ b := Nat.le_of_lt (hG.above b hb)
      refine ⟨hbl, ?_, [.int e.1, .int e.2], ⟨j, e, hj, he, rfl⟩, fun H3 => ⟨(by rw [sizeLine_eq]; show 2 ≤ 16777216; omega), [Value.int e.1 t, Value.int e.2 u], .cons ⟨t, rfl⟩ (.cons ⟨u, rfl⟩ .nil), ⟨_, kF _ _ (ne0 _ _ hg) (ka _ _ hg), rfl, 0, rfl⟩⟩⟩
      rw [upd_ne (ne0 _ _ hg)]
      exact I.hok.fresh hbl
    have gr : ∀ b o, H b = some o → H2 b = some o := fun b o e => g b o (by rw [upd_ne (ne_of_none e hn0)]; exact e)
    have pm : (out.map (pairOf h2)).Perm es := by
      have := perm.map (pairOf h2)
      rw [mapK] at this
      exact this
    refine ⟨.ref h'.objs.size, H2, I3, rfl, q (out.map (pairOf h2)) H2 h'.objs.size (out.map backV) pm (List.pairwise_map.mpr o1) gr hn0 (g _ _ upd_same) ?_⟩
    have all : ∀ l : List Value, (∀ v ∈ l, v ∈ out) → PT H2 (l.map backV) (l.map (pairOf h2)) := fun l => by
      induction l with
      | nil => exact fun _ => .nil
      | cons v l ih =>
        intro hm
        refine .cons ?_ (ih fun u hu => hm u (List.mem_cons_of_mem _ hu))
        obtain ⟨j, b, e, rfl, hj, he, hpp⟩ := ref v (hm v List.mem_cons_self)
        obtain ⟨vs', ⟨j', e', j1, j2, ev⟩, hH⟩ := qt b (List.mem_of_getElem? hj)
        have eij : j = j' := (List.getElem?_inj (List.getElem?_eq_some_iff.mp hj).1 nd).mp (hj.trans j1.symm)
        subst eij
        have ee : e' = e := Option.some.inj (j2.symm.trans he)
        subst ee
        rw [pairOf_of hpp]
        exact ⟨b, rfl, by rw [hH, ev]⟩
    exact all out fun v hv => hv
end
end Zk

set_option maxHeartbeats 4000000
/-! D1: the law's drawing defs. -/
namespace Zk
open PySem PySem.Spec PyProof.Rows L2
def top (i : Nat) : Stmt := PySem.Challenge.pw_narrowplay_k02_whole_texts_of_polynomial.main.body.getD i (.Pass ⟨0, 0, 0, 0⟩)
abbrev sDeck : Stmt := top 21
abbrev sDraw : Stmt := top 22
abbrev sPick : Stmt := top 23
theorem cut_all {xs : List V} (h : xs.length ≤ 63) : cutV xs none (some 63) = xs := by
  have e : HT.sIx xs.length xs.length (some 63) = xs.length := (HT.sIx_nat xs.length xs.length 63).trans (by omega)
  unfold cutV
  rw [HT.sIx_none, e]
  simp
theorem int_item {ns : List Int} {i : Nat} {x : V} (h : (ns.map V.int)[i]? = some x) : ∃ u, x = .int u := by
  rw [List.getElem?_map] at h
  cases e : ns[i]? with
  | none => rw [e] at h; cases h
  | some u => rw [e] at h; exact ⟨u, (Option.some.inj h).symm⟩
theorem merge_deck {lf : Addr} {m d : Int} : mergeK [] (deckL lf m d) = deckL lf m d := by
  have h1 : putK ([] : List (Key × V)) (.inr ("left" : Str)) (.ref lf) = [(.inr ("left" : Str), .ref lf)] := rfl
  have h2 : putK [((Sum.inr ("left" : Str) : Key), V.ref lf)] (.inr ("mixed" : Str)) (.int m) = [((Sum.inr ("left" : Str) : Key), V.ref lf), ((Sum.inr ("mixed" : Str) : Key), V.int m)] := by
    unfold putK
    rw [valV_any, valV_neg k_lm]
    rfl
  have h3 : putK [((Sum.inr ("left" : Str) : Key), V.ref lf), ((Sum.inr ("mixed" : Str) : Key), V.int m)] (.inr ("draws" : Str)) (.int d) = deckL lf m d := by
    unfold putK
    rw [valV_any, valV_neg k_ld, valV_neg k_md]
    rfl
  have e : mergeK [] (deckL lf m d) = putK (putK (putK ([] : List (Key × V)) (.inr ("left" : Str)) (.ref lf)) (.inr ("mixed" : Str)) (.int m)) (.inr ("draws" : Str)) (.int d) := rfl
  rw [e, h1, h2, h3]
/-- _law_deck(script, seed): a new deck -/
def spDeck (K : PySem.W.Frag) : Sp := fun vs H Q _ => ∃ (a : Addr) (ns : List Int) (seed : Int), vs = [.ref a, .int seed] ∧ SqL K H a (ns.map V.int) ∧ ns.length ≤ 63 ∧ 0 ≤ seed ∧ seed < 2 ^ 31 ∧ ∀ p lf H', DeckAt H H' p lf 0 → Q (.ref p) H'
/-- _law_draw(deck, many): below many -/
def spDraw : Sp := fun vs H Q _ => ∃ (H0 : Hp) (dk lf : Addr) (B : Nat) (m : Int), vs = [.ref dk, .int m] ∧ DeckAt H0 H dk lf B ∧ B < 2 ^ 60 ∧ 0 < m ∧ m < 2 ^ 60 ∧ ∀ r H', 0 ≤ r → r < m → Grow dk lf H0 H H0 H' → DeckAt H0 H' dk lf (B + 1) → Q (.int r) H'
/-- _law_pick(deck, some): one of them -/
def spPick : Sp := fun vs H Q _ => ∃ (H0 : Hp) (dk lf l : Addr) (B : Nat) (xs : List V), vs = [.ref dk, .ref l] ∧ DeckAt H0 H dk lf B ∧ B < 2 ^ 60 ∧ H l = some (.lst xs) ∧ l ≠ dk ∧ l ≠ lf ∧ 0 < xs.length ∧ xs.length < 2 ^ 59 ∧
  ∀ v H', v ∈ xs → Grow dk lf H0 H H0 H' → DeckAt H0 H' dk lf (B + 1) → Q v H'
theorem get_draws {H : Hp} {dk lf : Addr} {m d : Int} (h : H dk = some (.dK (deckL lf m d))) : DGet H dk (.str "draws") (some (.int d)) := by
  have z := DGet.k (k := .inr ("draws" : Str)) h
  rw [deck_draws] at z
  exact z
theorem get_mixed {H : Hp} {dk lf : Addr} {m d : Int} (h : H dk = some (.dK (deckL lf m d))) : DGet H dk (.str "mixed") (some (.int m)) := by
  have z := DGet.k (k := .inr ("mixed" : Str)) h
  rw [deck_mixed] at z
  exact z
theorem get_left {H : Hp} {dk lf : Addr} {m d : Int} (h : H dk = some (.dK (deckL lf m d))) : DGet H dk (.str "left") (some (.ref lf)) := by
  have z := DGet.k (k := .inr ("left" : Str)) h
  rw [deck_left] at z
  exact z
theorem dput_draws {H : Hp} {dk lf : Addr} {m d x : Int} (h : H dk = some (.dK (deckL lf m d))) : DPut H dk (.str "draws") (.int x) (upd H dk (.dK (deckL lf m x))) := by
  have z := DPut.k (k := .inr ("draws" : Str)) (v := .int x) h (by show 3 < sizeLine; decide)
  rw [put_draws] at z
  exact z
theorem dput_mixed {H : Hp} {dk lf : Addr} {m d x : Int} (h : H dk = some (.dK (deckL lf m d))) : DPut H dk (.str "mixed") (.int x) (upd H dk (.dK (deckL lf x d))) := by
  have z := DPut.k (k := .inr ("mixed" : Str)) (v := .int x) h (by show 3 < sizeLine; decide)
  rw [put_mixed] at z
  exact z
/-- an if, and then what both of its ways come to -/
theorem seq_if {c : TT} {t1 t2 ts : TS} {D : Ends} {σ : List (Option V)} {H : Hp} (I : List (Option V) → Hp → Prop) (hI : ∀ σ H, I σ H → ts D σ H) (h : (∀ σ H, I σ H → ts D σ H) → tIfS c t1 t2 { D with nx := ts D } σ H) : tSeq (tIfS c t1 t2) ts D σ H := h hI
theorem same_at {H0 H : Hp} {a : Addr} (e : Same H0 H) (h : H0 a = none) (o : HO) : Same H0 (upd H a o) := same_out e h o
theorem last_at {ns : List Int} (h : ns ≠ []) : (ns.map V.int)[(ns.map V.int).length - 1]? = some (.int (ns.getLast h)) := by
  rw [List.length_map, List.getElem?_map, ← List.getLast?_eq_getElem?, List.getLast?_eq_some_getLast h]
  rfl
/-- from H to H' nothing has changed but at dk and lf, and new things -/
def Only2 (dk lf : Addr) (H H' : Hp) : Prop := ∀ b o, b ≠ dk → b ≠ lf → H b = some o → H' b = some o
section
variable {H0 H H' : Hp} {dk lf p : Addr} {o : HO}
theorem Only2.refl : Only2 dk lf H H := fun _ _ _ _ e => e
theorem Only2.at_d (h : Only2 dk lf H H') : Only2 dk lf H (upd H' dk o) := fun b u n1 n2 e => (upd_ne n1).trans (h b u n1 n2 e)
theorem Only2.at_l (h : Only2 dk lf H H') : Only2 dk lf H (upd H' lf o) := fun b u n1 n2 e => (upd_ne n2).trans (h b u n1 n2 e)
theorem Only2.new (h : Only2 dk lf H H') (hp : H' p = none) : Only2 dk lf H (upd H' p o) := fun b u n1 n2 e => same_new hp o _ _ (h b u n1 n2 e)
theorem Only2.same (h : Only2 dk lf H H') (s : Same H0 H) (h2 : H0 dk = none) (h3 : H0 lf = none) : Same H0 H' := fun b u e =>
  h b u (fun z => by rw [z, h2] at e; cases e) (fun z => by rw [z, h3] at e; cases e) (s _ _ e)
theorem Only2.grow (h : Only2 dk lf H H') (_ : Same H0 H) (_ : H0 dk = none) (_ : H0 lf = none) : Grow dk lf H0 H H0 H' := ⟨Same.refl _, h, fun _ _ _ => rfl⟩
end
/-- what the built-ins' names are -/
structure Blt (mg : Str → Option Value) : Prop where
  int : mg "int" = none
  list : mg "list" = none
  max : mg "max" = none
  len : mg "len" = none
  range : mg "range" = none
  tuple : mg "tuple" = none
  repr : mg "repr" = none
section
variable {P : Program} {w : World} {K : PySem.W.Frag} {mg : Str → Option Value} {base : Heap} {f : Addr} {fd : FuncData}
theorem scDeck : FnScope ["script", "seed", "mixed", "cell"] ["script", "seed"] (defScope sDeck) := ⟨rfl, rfl, rfl, by decide +kernel, rfl, by decide +kernel, by decide +kernel⟩
theorem ok_deck (F : Fun K "_law_deck" "_law_deck" sDeck f fd) (T : Blt mg) : FnOk P w K mg base CX0 1 f fd ["script", "seed"] (spDeck K) := by
  refine F.ok scDeck (fun vs H Q E h => ?_) (fun cdv A outer s H vs Q E hr h => ?_)
  · obtain ⟨a, ns, seed, rfl, _⟩ := h
    rfl
  obtain ⟨a, ns, seed, rfl, hS, hl, s0, s1, q⟩ := h
  refine ⟨_, pss_cons (ps_set (i := 2) scDeck.nd rfl (Or.inl rfl) (pv 1))
    (pss_cons (ps_for PassesOwn.never rfl (pi_list (pe_slice sl_list (pv 0) po_none (po_some pe_int))) (pg_name (i := 3) scDeck.nd rfl (Or.inl rfl))
      (pss_one (ps_set (i := 2) scDeck.nd rfl (Or.inl rfl) (pe_op op_mod (pe_callTy call_int1 (by rfl) T.int (by decide +kernel) (pa_cons
        (pe_op op_add (pe_op op_add (pe_op op_mul (pv 2) pe_int) (pe_op op_mod (pe_callTy call_int1 (by rfl) T.int (by decide +kernel) (pa_cons (pv 3) pa_nil)) pe_int)) pe_int) pa_nil)) pe_int))))
    (pss_one (ps_ret (pe_disp (pps_cons pe_str (pe_revL (pe_callTy call_list_of (by rfl) T.list (by decide +kernel) (pa_cons (pe_slice sl_list (pv 0) po_none (po_some pe_int)) pa_nil)))
      (pps_cons pe_str (pv 2) (pps_cons pe_str pe_int pps_nil))) rfl rfl (by intro z; cases z) (by decide))))), ?_⟩
  have hcut : cutV (ns.map V.int) none (some 63) = ns.map V.int := cut_all (by simpa using hl)
  refine ⟨_, rfl, _, rfl, 63, rfl, a, _, rfl, hS, fun p hp => ?_⟩
  rw [hcut]
  refine ⟨p, rfl, ⟨_, SqL.of upd_same⟩, for_list (K := K) (a := p) (xs := ns.map V.int) (fun _ σ' H' => ∃ (m : Int) (v : Option V), σ' = [some (.ref a), some (.int seed), some (.int m), v] ∧ 0 ≤ m ∧ m < 2 ^ 31 ∧ H' = upd H p (.lst (ns.map V.int)))
    ⟨seed, none, rfl, s0, s1, rfl⟩ (fun i σ' H' _ ⟨_, _, _, _, _, e⟩ => by rw [e]; exact SqL.of upd_same) ?_ ?_⟩
  · rintro i x σ' H' hx ⟨m, v, rfl, m0, m1, rfl⟩
    obtain ⟨u, rfl⟩ := int_item hx
    refine ⟨_, rfl, _, _, rfl, rfl, .inr ⟨by decide, by decide⟩, _, rfl, .inl ⟨_, rfl, _, _, rfl, rfl, (by show (0 : Int) < 2147483629; decide), _, _, rfl, rfl, _, _, rfl, rfl, .inl ⟨_, rfl, _, _, rfl, rfl, (by show (0 : Int) < 2147483563; decide), ?_⟩⟩⟩
    refine ⟨_, _, rfl, Int.emod_nonneg _ (by decide), ?_, rfl⟩
    have := Int.emod_lt_of_pos (m * 43987 + u % 2147483629 + 61) (show (0 : Int) < 2147483563 by decide)
    omega
  · rintro σ' H' ⟨m, v, rfl, m0, m1, rfl⟩
    have s1 : Same H (upd H p (.lst (ns.map V.int))) := same_new hp _
    refine fun d hd => ⟨_, rfl, 63, rfl, a, _, rfl, (s1.trans (same_new hd _)).seq hS, fun p2 hp2 => ?_⟩
    rw [hcut]
    refine ⟨p2, _, rfl, .inl (SqL.of upd_same), fun p3 hp3 => ⟨p3, _, rfl, SqL.of upd_same, fun p4 hp4 => ⟨_, rfl, ?_⟩⟩⟩
    have nd2 : d ≠ p2 := ne_of_none upd_same hp2
    have nd3 : d ≠ p3 := ne_of_none (same_new hp2 _ _ _ upd_same) hp3
    have nd4 : d ≠ p4 := ne_of_none (same_new hp3 _ _ _ (same_new hp2 _ _ _ upd_same)) hp4
    refine ⟨?_, deckL p4 m 0, rfl, (by show 3 ≤ 15; decide), ?_⟩
    · rw [upd_ne nd4, upd_ne nd3, upd_ne nd2, upd_same]
    rw [show mergeK [] (deckL p4 m 0) = deckL p4 m 0 from merge_deck]
    have s2 := s1.trans ((same_new hd (.dK [])).trans ((same_new hp2 (.lst (ns.map V.int))).trans ((same_new hp3 (.lst (ns.map V.int))).trans (same_new hp4 (.lst (ns.map V.int).reverse)))))
    have f4 : H p4 = none := (s1.trans ((same_new hd (.dK [])).trans ((same_new hp2 (.lst (ns.map V.int))).trans (same_new hp3 (.lst (ns.map V.int)))))).free hp4
    refine q d p4 _ ⟨same_out s2 (s1.free hd) _, s1.free hd, f4, ns.reverse, m, 0, upd_same, ?_, by simpa using hl, m0, m1, Int.le_refl 0, Int.le_refl 0⟩
    rw [upd_ne nd4.symm, upd_same, List.map_reverse]
theorem scDraw : FnScope ["deck", "many", "cell", "figure"] ["deck", "many"] (defScope sDraw) := ⟨rfl, rfl, rfl, by decide +kernel, rfl, by decide +kernel, by decide +kernel⟩
theorem ok_draw (F : Fun K "_law_draw" "_law_draw" sDraw f fd) (T : Blt mg) : FnOk P w K mg base CX0 1 f fd ["deck", "many"] spDraw := by
  refine F.ok scDraw (fun vs H Q E h => ?_) (fun cdv A outer s H vs Q E hr h => ?_)
  · obtain ⟨H0, dk, lf, B, m, rfl, _⟩ := h
    rfl
  obtain ⟨H0, dk, lf, B, m, rfl, ⟨h1, h2, h3, left, mixed, draws, h4, h5, h6, h7, h8, h9, h10⟩, hB, m0, m1, q⟩ := h
  have hu := hu_of hr
  refine ⟨_, pss_cons (ps_dput hu (pv 0) pe_str (pe_op op_add (pe_dget hu (pv 0) pe_str (fun _ _ => rfl)) pe_int) rfl)
    (pss_cons (ps_if (pt_cmpR (op_neD hr.units) (pe_dget hu (pv 0) pe_str (fun _ _ => rfl)) (pe_lst pa_nil) (nomark _))
      (pss_cons (ps_set (i := 2) scDraw.nd rfl (Or.inl rfl) (pe_bm0 PySem.F.plainAttrs_list PySem.F.slot_list_pop PySem.F.type_list_pop mt_pop (pe_dget hu (pv 0) pe_str (fun _ _ => rfl))))
        (pss_cons (ps_if (pt_cmpR op_ge (pv 2) (pe_op op_pow pe_int pe_int) (nomark _))
          (pss_cons (ps_expr (pe_bm PySem.F.plainAttrs_list PySem.F.slot_list_append PySem.F.type_list_append mt_append (pe_dget hu (pv 0) pe_str (fun _ _ => rfl)) (pa_cons (pe_op op_fdivW (pv 2) (pe_callB (call_max2 rfl) (by rfl) T.max (by decide +kernel) (pa_cons pe_int (pa_cons (pv 1) pa_nil)))) pa_nil)))
            (pss_one (ps_ret (pe_op op_mod (pe_callTy call_int1 (by rfl) T.int (by decide +kernel) (pa_cons (pv 2) pa_nil)) (pv 1))))) pss_nil)
        (pss_one (ps_dput hu (pv 0) pe_str (pe_op op_mod (pe_callTy call_int1 (by rfl) T.int (by decide +kernel) (pa_cons
          (pe_op op_add (pe_op op_add (pe_op op_mul (pe_dget hu (pv 0) pe_str (fun _ _ => rfl)) pe_int) (pe_op op_mod (pe_callTy call_int1 (by rfl) T.int (by decide +kernel) (pa_cons (pv 2) pa_nil)) pe_int)) pe_int) pa_nil)) pe_int) rfl)))) pss_nil)
    (pss_cons (ps_set (i := 3) scDraw.nd rfl (Or.inl rfl) (pe_op op_mod (pe_callTy call_int1 (by rfl) T.int (by decide +kernel) (pa_cons
        (pe_op op_add (pe_dget hu (pv 0) pe_str (fun _ _ => rfl)) (pe_op op_mul pe_int (pe_dget hu (pv 0) pe_str (fun _ _ => rfl)))) pa_nil)) pe_int))
    (pss_cons (ps_set (i := 3) scDraw.nd rfl (Or.inl rfl) (pe_op op_mod (pe_callTy call_int1 (by rfl) T.int (by decide +kernel) (pa_cons
        (pe_op op_add (pe_op op_add (pe_op op_mul (pv 3) (pv 3)) (pe_op op_mul pe_int (pe_dget hu (pv 0) pe_str (fun _ _ => rfl)))) pe_int) pa_nil)) pe_int))
    (pss_cons (ps_set (i := 3) scDraw.nd rfl (Or.inl rfl) (pe_op op_mod (pe_callTy call_int1 (by rfl) T.int (by decide +kernel) (pa_cons
        (pe_op op_add (pe_op op_mul (pv 3) pe_int) pe_int) pa_nil)) pe_int))
    (pss_one (ps_ret (pe_op op_mod (pe_callTy call_int1 (by rfl) T.int (by decide +kernel) (pa_cons (pe_op op_fdiv (pv 3) pe_int) pa_nil)) (pv 1)))))))), ?_⟩
  have nld : lf ≠ dk := ne_of h5 h4 (fun z => nomatch z)
  refine ⟨_, rfl, dk, _, rfl, get_draws h4, _, _, rfl, rfl, _, rfl, dk, _, rfl, dput_draws h4, ?_⟩
  dsimp only
  refine seq_if (fun σ' H' => ∃ (m' : Int) (left' : List Int) (c : Option V), σ' = [some (.ref dk), some (.int m), c, none] ∧ Only2 dk lf H H' ∧ H' dk = some (.dK (deckL lf m' (draws + 1))) ∧ H' lf = some (.lst (left'.map V.int)) ∧ left'.length ≤ 63 ∧ 0 ≤ m' ∧ m' < 2 ^ 31) ?_ ?_
  · rintro σ' H' ⟨m', left', c, rfl, e1, e2, e3, e4, e5, e6⟩
    have b1 : ∀ x : Int, 0 ≤ x % 2147483647 ∧ x % 2147483647 < 2147483647 := fun x => ⟨Int.emod_nonneg _ (by decide), Int.emod_lt_of_pos _ (by decide)⟩
    have b2 : ∀ x : Int, 0 ≤ x % 2147483629 ∧ x % 2147483629 < 2147483629 := fun x => ⟨Int.emod_nonneg _ (by decide), Int.emod_lt_of_pos _ (by decide)⟩
    have dlt : draws + 1 < 2 ^ 64 := by omega
    refine ⟨_, rfl, dk, _, rfl, get_mixed e2, _, rfl, dk, _, rfl, get_draws e2, _, _, rfl, rfl, .inl ⟨by decide, by decide⟩, _, _, rfl, rfl, .inl ⟨_, rfl, _, _, rfl, rfl, (by show (0 : Int) < 2147483647; decide), ?_⟩⟩
    obtain ⟨f0, f1⟩ := b1 (m' + 31337 * (draws + 1))
    generalize (m' + 31337 * (draws + 1)) % 2147483647 = g at f0 f1
    refine ⟨_, rfl, _, rfl, _, _, rfl, rfl, .inl ⟨by omega, by omega⟩, _, rfl, dk, _, rfl, get_draws e2, _, _, rfl, rfl, .inl ⟨by decide, by decide⟩, _, _, rfl, rfl, _, _, rfl, rfl, .inl ⟨_, rfl, _, _, rfl, rfl, (by show (0 : Int) < 2147483629; decide), ?_⟩⟩
    obtain ⟨k0, k1⟩ := b2 (g * g + 48271 * (draws + 1) + 67)
    generalize (g * g + 48271 * (draws + 1) + 67) % 2147483629 = k at k0 k1
    refine ⟨_, rfl, _, _, rfl, rfl, .inl ⟨by omega, by omega⟩, _, _, rfl, rfl, .inl ⟨_, rfl, _, _, rfl, rfl, (by show (0 : Int) < 2147483563; decide), ?_⟩⟩
    refine ⟨_, rfl, _, _, rfl, rfl, ⟨by decide, by decide⟩, .inl ⟨_, rfl, _, rfl, _, _, rfl, rfl, m0, ?_⟩⟩
    exact q _ _ (Int.emod_nonneg _ (by omega)) (Int.emod_lt_of_pos _ m0) (e1.grow h1 h2 h3) ⟨e1.same h1 h2 h3, h2, h3, left', m', draws + 1, e2, e3, e4, e5, e6, by omega, by omega⟩
  intro fin
  have g1 : Only2 dk lf H (upd H dk (.dK (deckL lf mixed (draws + 1)))) := Only2.refl.at_d
  have g5 : upd H dk (.dK (deckL lf mixed (draws + 1))) lf = some (.lst (left.map V.int)) := (upd_ne nld).trans h5
  refine ⟨_, rfl, dk, _, rfl, get_left upd_same, Nat.zero_le _, fun p hp => ?_⟩
  have npd : dk ≠ p := ne_of_none upd_same hp
  have npl : lf ≠ p := ne_of_none g5 hp
  have k1 : upd (upd H dk (.dK (deckL lf mixed (draws + 1)))) p (.lst []) dk = some (.dK (deckL lf mixed (draws + 1))) := (upd_ne npd).trans upd_same
  have k5 : upd (upd H dk (.dK (deckL lf mixed (draws + 1)))) p (.lst []) lf = some (.lst (left.map V.int)) := (upd_ne npl).trans g5
  have kS : Only2 dk lf H (upd (upd H dk (.dK (deckL lf mixed (draws + 1)))) p (.lst [])) := g1.new hp
  refine ⟨_, _, ints_dp k5, ints_dp (ns := []) upd_same, ints_shaped _, ints_shaped [], _, rfl, ?_⟩
  rw [show PyData.eqv (.list (left.map PyData.int)) (.list ([].map PyData.int)) = left.isEmpty from eqv_nil left]
  cases hl : left.isEmpty with
  | true =>
    refine iteF ?_
    exact fin _ _ ⟨mixed, left, none, rfl, kS, k1, k5, h6, h7, h8⟩
  | false =>
    refine iteT ?_
    have ne : left ≠ [] := fun z => by simp [z] at hl
    refine ⟨_, rfl, dk, _, rfl, get_left k1, .inl ⟨rfl, _, SqL.of k5⟩, lf, _, _, rfl, rfl, k5, last_at ne, ?_⟩
    generalize left.getLast ne = cell
    have ndl : (left.map V.int).dropLast = (left.dropLast).map V.int := (List.map_dropLast ..).symm
    have l63 : left.dropLast.length < 63 := by
      have : 0 < left.length := List.length_pos_iff.mpr ne
      rw [List.length_dropLast]
      omega
    rw [ndl]
    have j1 : upd (upd (upd H dk (.dK (deckL lf mixed (draws + 1)))) p (.lst [])) lf (.lst (left.dropLast.map V.int)) dk = some (.dK (deckL lf mixed (draws + 1))) := (upd_ne nld.symm).trans k1
    have jS : Only2 dk lf H (upd (upd (upd H dk (.dK (deckL lf mixed (draws + 1)))) p (.lst [])) lf (.lst (left.dropLast.map V.int))) := kS.at_l
    refine ⟨_, rfl, 10, 18, rfl, rfl, ⟨by decide, by decide, by decide⟩, _, _, rfl, rfl, _, rfl, ?_⟩
    refine ite2 (fun _ => ?_) (fun _ => ?_)
    · have mx : (0 : Int) < (if m > 2 then m else 2) ∧ (if m > 2 then m else 2 : Int) < 2 ^ 60 := by split <;> omega
      refine ⟨_, rfl, dk, _, rfl, get_left j1, .inl ⟨rfl, _, SqL.of upd_same⟩, _, rfl, _, rfl, 2, m, rfl, cell, _, rfl, rfl, wide_div (b := 60) mx.1 (by omega) (by decide) (by decide), lf, _, _, rfl, rfl, upd_same, (by rw [List.length_map]; exact sl_lt (by omega)), ?_⟩
      refine ⟨_, rfl, .inl ⟨_, rfl, _, rfl, _, _, rfl, rfl, m0, ?_⟩⟩
      have jT := jS.at_l (o := .lst (left.dropLast.map V.int ++ [.int (cell / (if m > 2 then m else 2))]))
      refine q _ _ (Int.emod_nonneg _ (by omega)) (Int.emod_lt_of_pos _ m0) (jT.grow h1 h2 h3) ⟨jT.same h1 h2 h3, h2, h3, left.dropLast ++ [cell / (if m > 2 then m else 2)], mixed, draws + 1, (upd_ne nld.symm).trans j1, ?_, by rw [List.length_append]; exact l63, h7, h8, by omega, by omega⟩
      rw [upd_same, List.map_append]
      rfl
    · have b : ∀ x : Int, 0 ≤ x % 2147483587 ∧ x % 2147483587 < 2147483587 := fun x => ⟨Int.emod_nonneg _ (by decide), Int.emod_lt_of_pos _ (by decide)⟩
      refine ⟨_, rfl, dk, _, rfl, get_mixed j1, _, _, rfl, rfl, .inr ⟨by decide, by decide⟩, _, rfl, .inl ⟨_, rfl, _, _, rfl, rfl, (by show (0 : Int) < 2147483629; decide), _, _, rfl, rfl, _, _, rfl, rfl, .inl ⟨_, rfl, _, _, rfl, rfl, (by show (0 : Int) < 2147483587; decide), _, rfl, dk, _, rfl, dput_mixed j1, ?_⟩⟩⟩
      obtain ⟨c0, c1⟩ := b (mixed * 39373 + cell % 2147483629 + 61)
      exact fin _ _ ⟨_, left.dropLast, some (.int cell), rfl, jS.at_d, upd_same, (upd_ne nld).trans upd_same, by omega, c0, by omega⟩
theorem scPick : FnScope ["deck", "some"] ["deck", "some"] (defScope sPick) := ⟨rfl, rfl, rfl, by decide +kernel, rfl, by decide +kernel, by decide +kernel⟩
/-- a def that stands in the text, and how it is called -/
structure Call1 (P : Program) (w : World) (K : PySem.W.Frag) (mg : Str → Option Value) (base : Heap) (x : Str) (k : Nat) (ps : List Str) (sp : Sp) : Prop where
  ex : ∃ f fd, FnOk P w K mg base CX0 k f fd ps sp ∧ Binds K fd ps [] ∧ PySem.W.keepIn K (.ref f) = true ∧ mg x = some (.ref f)
theorem ok_pick (F : Fun K "_law_pick" "_law_pick" sPick f fd) (T : Blt mg) (C : Call1 P w K mg base "_law_draw" 1 ["deck", "many"] spDraw) : FnOk P w K mg base CX0 2 f fd ["deck", "some"] spPick := by
  obtain ⟨g, gd, G, bG, kG, mG⟩ := C.ex
  refine F.ok scPick (fun vs H Q E h => ?_) (fun cdv A outer s H vs Q E hr h => ?_)
  · obtain ⟨H0, dk, lf, l, B, xs, rfl, _⟩ := h
    rfl
  obtain ⟨H0, dk, lf, l, B, xs, rfl, hD, hB, hl, n1, n2, h0, h1, q⟩ := h
  refine ⟨_, pss_one (ps_ret (pe_ix ix_list (pv 1) (pe_call G hr rfl mG kG bG .nil pass0 (pa_cons (pv 0) (pa_cons (pe_callB call_len_seq (by rfl) T.len PySem.boot_len (pa_cons (pv 1) pa_nil)) pa_nil))) (fun _ _ => rfl))), ?_⟩
  refine ⟨_, rfl, _, rfl, _, rfl, l, _, rfl, .inl (SqL.of hl), H0, dk, lf, B, _, rfl, hD, hB, by omega, by omega, fun r H' r0 r1 hG hD' => ?_⟩
  have hi : r.toNat < xs.length := by omega
  have e : r = ((r.toNat : Nat) : Int) := by omega
  have z := atI_nat (List.getElem?_eq_getElem hi)
  rw [← e] at z
  exact ⟨l, xs, r, xs[r.toNat], rfl, rfl, SqL.of (hG.frame _ _ n1 n2 hl), z, q _ H' (List.getElem_mem hi) hG hD'⟩
end
end Zk

set_option maxHeartbeats 4000000
/-! D2: any drawn value. -/
namespace Zk
open PySem PySem.Spec PyProof.Rows L2
def anyCost : Nat → Nat
  | 0 => 2
  | n + 1 => 3 * anyCost n + 3
def anyLen : Nat → Nat
  | 0 => 10000
  | n + 1 => 3 * (anyLen n + 2) + 10000
/-- texts and tuples of a length that calls allow -/
def Lens (d : PyData) : Prop := (∀ y, d = .str y → y.length ≤ 5000) ∧ ∀ ds, d = .tuple ds → ds.length ≤ 500
theorem lens_of {d : PyData} (h1 : ∀ y, d ≠ .str y) (h2 : ∀ ds, d ≠ .tuple ds) : Lens d := ⟨fun y e => absurd e (h1 y), fun ds e => absurd e (h2 ds)⟩
theorem lens_str {x : Str} (h : x.length ≤ 5000) : Lens (.str x) := ⟨fun y e => (by injection e with e; rw [← e]; exact h), fun _ e => nomatch e⟩
theorem lens_tup {ds : List PyData} (h : ds.length ≤ 500) : Lens (.tuple ds) := ⟨fun _ e => (nomatch e), fun es e => (by injection e with e; rw [← e]; exact h)⟩
def AnyFine (n : Nat) (d : PyData) : Prop := Fine (2 * n + 2) (anyLen n) d ∧ Lens d
/-- _law_any(deck, deep), deep at most n -/
def spAny (n : Nat) : Sp := fun vs H Q _ => ∃ (H0 : Hp) (dk lf : Addr) (B m : Nat), vs = [.ref dk, .int (m : Int)] ∧ m ≤ n ∧ DeckAt H0 H dk lf B ∧ B + anyCost n < 2 ^ 59 ∧
  ∀ v d H0' H', Grow dk lf H0 H H0' H' → DeckAt H0' H' dk lf (B + anyCost n) → Sd H0' v d → AnyFine n d → Q v H'
theorem anyCost_pos (n : Nat) : 2 ≤ anyCost n := by
  cases n with
  | zero => exact Nat.le_refl 2
  | succ n => unfold anyCost; omega
theorem anyLen_pos (n : Nat) : 10000 ≤ anyLen n := by
  cases n with
  | zero => exact Nat.le_refl _
  | succ n => unfold anyLen; omega
theorem anyFine_mono {n m : Nat} (h : m ≤ n) {d : PyData} (f : AnyFine m d) : AnyFine n d := by
  have : anyLen m ≤ anyLen n := by
    induction h with
    | refl => exact Nat.le_refl _
    | step h ih =>
      have : ∀ k, anyLen k ≤ anyLen (k + 1) := fun k => by show _ ≤ 3 * (anyLen k + 2) + 10000; omega
      exact Nat.le_trans ih (this _)
  exact ⟨f.1.mono (by omega) this, f.2⟩
def menu1 : List V := [.int 0, .int 1, .int (-1), .int 7, .int (10 ^ 29), .int (-(10 ^ 20)), .int 2, .int 5]
def menu2 : List V := [.str "", .str "a", .str "set", .str "input", .str "x\ny", .str "~"]
def menu3 : List V := [.bl true, .bl false, .non]
theorem menu1_fine {v : V} (h : v ∈ menu1) (n : Nat) : ∃ d, (∀ H, Sd H v d) ∧ AnyFine n d := by
  have p := anyLen_pos n
  have key : ∀ i : Int, i.natAbs.log2 < 1920 → ∃ d, (∀ H, Sd H (.int i) d) ∧ AnyFine n d := fun i hi => ⟨.int i, fun _ => .int i, (fine_int hi).mono (by omega) (by omega), lens_of (fun _ e => nomatch e) fun _ e => nomatch e⟩
  simp only [menu1, List.mem_cons, List.not_mem_nil, or_false] at h
  rcases h with rfl | rfl | rfl | rfl | rfl | rfl | rfl | rfl <;> exact key _ (by decide +kernel)
theorem menu2_fine {v : V} (h : v ∈ menu2) (n : Nat) : ∃ d, (∀ H, Sd H v d) ∧ AnyFine n d := by
  have p := anyLen_pos n
  have key : ∀ x : Str, (x.cps.toList.all fun c => decide (c < 16 ^ 8)) = true → x.length ≤ 9 → ∃ d, (∀ H, Sd H (.str x) d) ∧ AnyFine n d := fun x hx hl =>
    ⟨.str x, fun _ => .str x, (fine_str fun c hc => of_decide_eq_true (List.all_eq_true.mp hx c hc)).mono (by omega) (by omega), lens_str (by omega)⟩
  simp only [menu2, List.mem_cons, List.not_mem_nil, or_false] at h
  rcases h with rfl | rfl | rfl | rfl | rfl | rfl <;> exact key _ (by decide +kernel) (by decide +kernel)
theorem menu3_fine {v : V} (h : v ∈ menu3) (n : Nat) : ∃ d, (∀ H, Sd H v d) ∧ AnyFine n d := by
  have p := anyLen_pos n
  simp only [menu3, List.mem_cons, List.not_mem_nil, or_false] at h
  rcases h with rfl | rfl | rfl
  · exact ⟨.bool true, fun _ => .bl true, (fine_bool true).mono (by omega) (by omega), lens_of (fun _ e => nomatch e) fun _ e => nomatch e⟩
  · exact ⟨.bool false, fun _ => .bl false, (fine_bool false).mono (by omega) (by omega), lens_of (fun _ e => nomatch e) fun _ e => nomatch e⟩
  · exact ⟨.none, fun _ => .non, fine_none.mono (by omega) (by omega), lens_of (fun _ e => nomatch e) fun _ e => nomatch e⟩
/-- a statement, and then what all its ways come to -/
theorem seq_to {t1 ts : TS} {D : Ends} {σ : List (Option V)} {H : Hp} (I : List (Option V) → Hp → Prop) (hI : ∀ σ H, I σ H → ts D σ H) (h : (∀ σ H, I σ H → ts D σ H) → t1 { D with nx := ts D } σ H) : tSeq t1 ts D σ H := h hI
section
variable {P : Program} {w : World} {K : PySem.W.Frag} {mg : Str → Option Value} {base : Heap} {f : Addr} {fd : FuncData}
end
end Zk

set_option maxHeartbeats 4000000
/-! K4: the program's looks at values: is_integer, is_letter, is_pair. -/
namespace Zk
open PySem PySem.Spec PyProof.Rows L2 GxR

/-- a def whose code object is known -/
structure FunC (K : PySem.W.Frag) (x qual : Str) (st : Stmt) (f : Addr) (fd : FuncData) (c : Addr) : Prop where
  ex : ∃ (oc : Value) (od : Option Addr) (kV doc pm : Value) (an : Option Addr) (ct : Value) (osl : Array (Option Value)),
    fd = PySem.W.fnOf x qual (defArgs st) (defBody st) (defScope st) .none kV doc pm an (.ref c) ct ∧ K.lookup f = some ⟨oc, od, .func fd, osl⟩ ∧ PySem.W.codeIn K (.ref c) qual = true
  kp : PySem.W.keepIn K (.ref f) = true
section
variable {P : Program} {w : World} {K : PySem.W.Frag} {mg : Str → Option Value} {base : Heap} {f : Addr} {fd : FuncData} {c : Addr}
theorem FunC.fn {x qual : Str} {st : Stmt} (F : FunC K x qual st f fd c) : Fun K x qual st f fd :=
  let ⟨oc, od, kV, doc, pm, an, ct, osl, e, l, h⟩ := F.ex
  ⟨⟨oc, od, kV, doc, pm, an, .ref c, ct, osl, e, l, h⟩, F.kp⟩
theorem FunC.ok {x qual : Str} {st : Stmt} {N ps : List Str} {k : Nat} {sp : Sp} (F : FunC K x qual st f fd c) (S : FnScope N ps (defScope st)) (len : ∀ vs H Q E, sp vs H Q E → vs.length = ps.length)
    (hbody : ∀ (A : Around) (outer : List Env) (s : Shared) (H : Hp) (vs : List V) (Q : VK) (E : XK), Room k (A.deeper (envOfC qual (defScope st) s.heap.objs.size f (.ref c))) → sp vs H Q E →
      ∃ t, PSs (cxOf CX0 P w K mg base N qual (defScope st) f (.ref c) A outer s H E).nox (defBody st) t ∧ t { nx := fun _ H' => Q .non H', rt := Q } (start N vs) H) : FnOk P w K mg base CX0 (k + 1) f fd ps sp := by
  obtain ⟨oc, od, kV, doc, pm, an, ct, osl, rfl, lk, hcd⟩ := F.ex
  refine fn_of lk hcd S len fun A outer s H vs Q E hr hsp => ?_
  obtain ⟨t, h, q⟩ := hbody A outer s H vs Q E hr hsp
  exact ⟨t, h.nox, q⟩
end
/-- the names of built-ins that are not the program's own -/
structure Blt2 (mg : Str → Option Value) : Prop extends Blt mg where
  isinstance : mg "isinstance" = none
  bool : mg "bool" = none
  str : mg "str" = none
  all : mg "all" = none
  sum : mg "sum" = none
  sorted : mg "sorted" = none
  min : mg "min" = none

/-! ### what they tell of data -/
def isLetC (c : Nat) : Bool := decide (97 ≤ c ∧ c ≤ 122)
def isLetS (x : Str) : Bool := match x.cps.toList with
  | [c] => isLetC c
  | _ => false
def isLetD : PyData → Bool
  | .str x => isLetS x
  | _ => false
def isWordD : PyData → Bool
  | .str x => x.cps.toList.all isLetC
  | _ => false
def isPairD : PyData → Bool
  | .tuple [.int e, .int c] => decide (0 ≤ e) && decide (1 ≤ c)
  | _ => false
abbrev sIsInt : Stmt := top 1
abbrev sIsPair : Stmt := top 9
def spD (g : PyData → Bool) : Sp := fun vs H Q _ => ∃ x d, vs = [x] ∧ Sd H x d ∧ Q (.bl (g d)) H
/-- strings of a length that the line allows -/
def spLet : Sp := fun vs H Q _ => ∃ x d, vs = [x] ∧ Sd H x d ∧ (∀ y, d = .str y → y.length ≤ sizeLine) ∧ Q (.bl (isLetD d)) H
section
variable {P : Program} {w : World} {K : PySem.W.Frag} {mg : Str → Option Value} {base : Heap} {f : Addr} {fd : FuncData}
theorem scIsInt : FnScope ["thing"] ["thing"] (defScope sIsInt) := ⟨rfl, rfl, rfl, by decide +kernel, rfl, by decide +kernel, by decide +kernel⟩
theorem ok_isInt (F : Fun K "is_integer" "is_integer" sIsInt f fd) (T : Blt2 mg) : FnOk P w K mg base CX0 1 f fd ["thing"] (spD isIntD) := by
  refine F.ok scIsInt (fun vs H Q E h => ?_) (fun cdv A outer s H vs Q E hr h => ?_)
  · obtain ⟨x, d, rfl, _⟩ := h
    rfl
  obtain ⟨x, d, rfl, sd, q⟩ := h
  refine ⟨_, pss_one (ps_ret (pe_and (pe_isD .int (pv 0) (by rfl) T.isinstance (by rfl) T.int (by decide +kernel)) (pe_one (pe_not (pe_isD .bool (pv 0) (by rfl) T.isinstance (by rfl) T.bool (by decide +kernel)))))), ?_⟩
  refine ⟨_, rfl, _, d, rfl, sd, _, rfl, ?_⟩
  cases sd <;> simp only [isNumD] <;> first
    | exact q
    | exact ⟨_, rfl, _, _, rfl, Sd.bl _, _, rfl, q⟩
    | exact ⟨_, rfl, _, _, rfl, Sd.int _, _, rfl, q⟩
theorem len_toNat (x : Str) : (x.length : Nat) = x.cps.toList.length := by simp [Str.length]
theorem isLetS_one (c : Nat) : isLetS ⟨#[c]⟩ = isLetC c := rfl
theorem letS_not {x : Str} (h : x.length ≠ 1) : isLetS x = false := by
  unfold isLetS
  split
  · rename_i c e
    exact absurd (by rw [len_toNat, e]; rfl) h
  · rfl
theorem letS_is {x : Str} (h : x.length = 1) : ∃ c, x = ⟨#[c]⟩ := by
  obtain ⟨a⟩ := x
  have h : a.size = 1 := h
  obtain ⟨c, e⟩ := Array.size_eq_one_iff.mp h
  exact ⟨c, by rw [e]⟩
theorem sgl_lt (a b : Nat) : ([a] : List Nat) < [b] ↔ a < b := by
  constructor
  · intro h
    cases h with
    | rel h => exact h
    | cons h => exact nomatch h
  · exact fun h => .rel h
/-- a def that stands in the text -/
theorem Call1.mk' {x : Str} {k : Nat} {ps : List Str} {sp : Sp} (G : FnOk P w K mg base CX0 k f fd ps sp) (b : Binds K fd ps []) (kp : PySem.W.keepIn K (.ref f) = true) (m : mg x = some (.ref f)) : Call1 P w K mg base x k ps sp := ⟨f, fd, G, b, kp, m⟩
theorem pair_len {ds : List PyData} (h : ds.length ≠ 2) : isPairD (.tuple ds) = false := by
  unfold isPairD
  split
  · rename_i e
    cases e
    exact absurd rfl h
  · rfl
theorem scIsPair : FnScope ["thing", "exponent", "coefficient"] ["thing"] (defScope sIsPair) := ⟨rfl, rfl, rfl, by decide +kernel, rfl, by decide +kernel, by decide +kernel⟩
theorem ok_isPair (F : Fun K "is_pair" "is_pair" sIsPair f fd) (T : Blt2 mg) (C : Call1 P w K mg base "is_integer" 1 ["thing"] (spD isIntD)) : FnOk P w K mg base CX0 2 f fd ["thing"] (spD isPairD) := by
  obtain ⟨g, gd, G, bG, kG, mG⟩ := C.ex
  refine F.ok scIsPair (fun vs H Q E h => ?_) (fun cdv A outer s H vs Q E hr h => ?_)
  · obtain ⟨x, d, rfl, _⟩ := h
    rfl
  obtain ⟨x, d, rfl, sd, q⟩ := h
  refine ⟨_, pss_cons (ps_if (PW.pt (pw_or (pt_not (pt_val (pe_isD .tuple (pv 0) (by rfl) T.isinstance (by rfl) T.tuple (by decide +kernel)))) (pw_or1 (pt_cmpR op_ne (pe_callB call_len_seq (by rfl) T.len PySem.boot_len (pa_cons (pv 0) pa_nil)) pe_int (nomark _))))) (pss_one (ps_ret pe_bl)) pss_nil)
    (pss_cons (ps_asg (pv 0) (pg_tup (by rfl) (pgs_cons (pg_name (i := 1) scIsPair.nd rfl (Or.inl rfl)) (pgs_cons (pg_name (i := 2) scIsPair.nd rfl (Or.inl rfl)) pgs_nil))))
    (pss_cons (ps_if (PW.pt (pw_or (pt_not (pt_val (pe_call G hr rfl mG kG bG .nil pass0 (pa_cons (pv 1) pa_nil)))) (pw_or1 (pt_not (pt_val (pe_call G hr rfl mG kG bG .nil pass0 (pa_cons (pv 2) pa_nil))))))) (pss_one (ps_ret pe_bl)) pss_nil)
    (pss_one (ps_ret (pe_and (pe_cmpR op_ge (pv 1) pe_int (nomark _)) (pe_one (pe_cmpR op_ge (pv 2) pe_int (nomark _)))))))), ?_⟩
  refine ⟨_, rfl, _, d, rfl, sd, _, rfl, ?_⟩
  cases sd with
  | tup ha hs =>
    refine iteF ?_
    refine ⟨_, rfl, _, _, rfl, .inr (SqT.of ha), rfl, _, rfl, ?_⟩
    rename_i a xs ds
    refine ite2 (fun c => ?_) (fun c => ?_)
    · have hl : ds.length ≠ 2 := fun z => by
        rw [← hs.len] at z
        rw [z] at c
        exact absurd c (by decide)
      rw [pair_len hl] at q
      exact q
    · have hl : xs.length = 2 := by
        by_cases z : xs.length = 2
        · exact z
        · refine absurd ?_ c
          have : ¬ V.int (xs.length : Nat) = V.int 2 := fun y => by
            injection y with y
            omega
          rw [decide_eq_false this]
          rfl
      match hs, hl with
      | .cons (d := d1) h1 (.cons (d := d2) h2 .nil), _ =>
        refine ⟨_, rfl, _, _, rfl, SqT.of ha, rfl, ?_⟩
        refine ⟨_, _, rfl, _, _, rfl, rfl, ?_⟩
        refine ⟨_, rfl, _, d1, rfl, h1, _, rfl, ?_⟩
        cases h1 with
        | int e =>
          refine iteF ?_
          refine ⟨_, rfl, _, d2, rfl, h2, _, rfl, ?_⟩
          cases h2 with
          | int k =>
            refine iteF ?_
            refine ⟨_, rfl, _, _, rfl, rfl, _, rfl, ?_⟩
            have q : Q (.bl (decide (0 ≤ e) && decide (1 ≤ k))) H := q
            cases z : decide (0 ≤ e) with
            | true =>
              rw [z] at q
              exact iteT ⟨_, rfl, _, _, rfl, rfl, q⟩
            | false =>
              rw [z] at q
              exact iteF q
          | _ => exact iteT q
        | _ => exact iteT (iteT q)
  | _ => exact iteT (iteT q)
end
end Zk

set_option maxHeartbeats 4000000
/-! K5: is_ascending, is_word, is_poly. -/
namespace Zk
open PySem PySem.Spec PyProof.Rows L2 GxR
abbrev sIsAsc : Stmt := top 2
abbrev sIsPoly : Stmt := top 8
/-- each before the next one -/
def ascB (ns : List Int) : Bool := (List.range (ns.length - 1)).all fun i => decide (ns.getD i 0 < ns.getD (i + 1) 0)
def fstD : PyData → Int
  | .tuple (.int e :: _) => e
  | _ => 0
def isPolyD : PyData → Bool
  | .tuple ds => ds.all isPairD && ascB (ds.map fstD)
  | _ => false
/-- what the program's own look comes to: tables may grow -/
def spAsc (T : List Addr) : Sp := fun vs H Q _ => ∃ (a : Addr) (ns : List Int), vs = [.ref a] ∧ H a = some (.lst (ns.map V.int)) ∧ ns.length ≤ 100000 ∧ Tb T H ∧ ∀ H', Sm H H' → Tb T H' → Q (.bl (ascB ns)) H'
/-- what may be passed: texts and tuples of a length that the line allows -/
def spL (T : List Addr) (g : PyData → Bool) : Sp := fun vs H Q _ => ∃ x d, vs = [x] ∧ Sd H x d ∧ (∀ y, d = .str y → y.length ≤ sizeLine) ∧ (∀ ds, d = .tuple ds → ds.length ≤ 100000) ∧ Tb T H ∧ ∀ H', Sm H H' → Tb T H' → Q (.bl (g d)) H'
section
variable {P : Program} {w : World} {K : PySem.W.Frag} {mg : Str → Option Value} {base : Heap} {f c pt : Addr} {fd : FuncData} {Ta : List Addr}
theorem scIsAsc : FnScope ["items", "at"] ["items"] (defScope sIsAsc) := ⟨rfl, rfl, rfl, by decide +kernel, rfl, by decide +kernel, by decide +kernel⟩
theorem ok_isAsc (F : FunC K "is_ascending" "is_ascending" sIsAsc f fd c) (TB : TabB base mg c pt) (hT : pt ∈ Ta) (T : Blt2 mg) : FnOk P w K mg base CX0 2 f fd ["items"] (spAsc Ta) := by
  refine F.ok scIsAsc (fun vs H Q E h => ?_) (fun A outer s H vs Q E hr h => ?_)
  · obtain ⟨a, ns, rfl, _⟩ := h
    rfl
  obtain ⟨a, ns, rfl, ha, hl, tb, q⟩ := h
  refine ⟨_, pss_one (ps_ret (pe_all (k := 0) (own := [("at", 1)]) (g := gName 1) (tt := tYes) hr (by rfl) T.all TB rfl scIsAsc.nd (gxOk_by (N := ["items", "at"]) (sc := defScope sIsAsc) (by decide +kernel)) (pi_range1 (by rfl) T.range (pa_cons (pe_op op_sub (pe_callB call_len_seq (by rfl) T.len PySem.boot_len (pa_cons (pv 0) pa_nil)) pe_int) pa_nil))
    (fun _ _ _ _ _ _ _ _ _ => pg_name (i := 1) scIsAsc.nd rfl (Or.inl rfl)) (fun _ _ _ _ _ _ _ _ _ => pts_nil)
    (fun _ _ _ _ _ _ _ _ _ => pe_cmpR op_lt (pe_ix (r := rIxL K) ix_list (pv 0) (pv 1) (fun _ _ => rfl)) (pe_ix (r := rIxL K) ix_list (pv 0) (pe_op op_add (pv 1) pe_int) (fun _ _ => rfl)) (nomark _)))), ?_⟩
  refine ⟨_, rfl, a, _, rfl, .inl (SqL.of ha), _, _, rfl, rfl, _, rfl, ?_, ?_, tb pt hT, fun H2 hB => ?_⟩
  · show -(2 ^ 62 : Int) ≤ ((ns.map V.int).length : Int) - 1
    rw [List.length_map]
    omega
  · show ((ns.map V.int).length : Int) - 1 < 2 ^ 62
    rw [List.length_map]
    omega
  have ha2 : H2 a = some (.lst (ns.map V.int)) := Tabbed.sm hB (tb pt hT) _ _ ha fun _ z => nomatch z
  have en : ((((ns.map V.int).length : Nat) : Int) - 1).toNat = ns.length - 1 := by
    rw [List.length_map]
    omega
  rw [en]
  have itm : ∀ j, j < ns.length → atI (ns.map V.int) ((j : Nat) : Int) = some (V.int (ns.getD j 0)) := fun j hj => by
    refine atI_nat ?_
    rw [List.getElem?_map, List.getElem?_eq_getElem hj, List.getD_eq_getElem?_getD, List.getElem?_eq_getElem hj]
    rfl
  refine gx_range (fun i H => H = H2 ∧ ∀ j, j < i → ns.getD j 0 < ns.getD (j + 1) 0) ⟨rfl, fun j hj => absurd hj (Nat.not_lt_zero _)⟩ ?_ ?_
  · rintro i H hi ⟨rfl, hp⟩
    refine ⟨rfl, ?_⟩
    dsimp only [tYes]
    refine iteT ?_
    have e0 : (0 : Int) + (i : Nat) = ((i : Nat) : Int) := by omega
    refine ⟨_, rfl, _, rfl, a, _, _, _, rfl, rfl, SqL.of ha2, by rw [e0]; exact itm i (by omega), ?_⟩
    refine ⟨_, rfl, _, rfl, _, _, rfl, rfl, a, _, _, _, rfl, rfl, SqL.of ha2, by rw [e0, show ((i : Nat) : Int) + 1 = ((i + 1 : Nat) : Int) by omega]; exact itm (i + 1) (by omega), ?_⟩
    refine ⟨_, _, rfl, rfl, _, rfl, ?_⟩
    by_cases z : ns.getD i 0 < ns.getD (i + 1) 0
    · refine .inl ⟨decide_eq_true z, rfl, fun j hj => ?_⟩
      by_cases e : j = i
      · rw [e]
        exact z
      · exact hp j (by omega)
    · refine .inr ⟨by rw [decide_eq_false z]; decide, ?_⟩
      have : ascB ns = false := by
        rw [← Bool.not_eq_true]
        intro y
        have := List.all_eq_true.mp y i (List.mem_range.mpr hi)
        exact z (of_decide_eq_true this)
      rw [this] at q
      rw [decide_eq_false z]
      exact q _ (Tabbed.sm hB (tb pt hT)) (Tabbed.tb hB tb)
  · rintro H ⟨rfl, hp⟩
    have : ascB ns = true := List.all_eq_true.mpr fun j hj => decide_eq_true (hp j (List.mem_range.mp hj))
    rw [this] at q
    exact q _ (Tabbed.sm hB (tb pt hT)) (Tabbed.tb hB tb)
theorem pair_of {d : PyData} (h : isPairD d = true) : ∃ e c : Int, d = .tuple [.int e, .int c] ∧ 0 ≤ e ∧ 1 ≤ c := by
  unfold isPairD at h
  split at h
  · rename_i e c
    rw [Bool.and_eq_true] at h
    exact ⟨e, c, rfl, of_decide_eq_true h.1, of_decide_eq_true h.2⟩
  · cases h
theorem sd_pair {H : Hp} {v : V} {e c : Int} (h : Sd H v (.tuple [.int e, .int c])) : ∃ t, v = .ref t ∧ H t = some (.tup [.int e, .int c]) := by
  cases h with
  | tup h1 h2 =>
    match h2 with
    | .cons (.int _) (.cons (.int _) .nil) => exact ⟨_, rfl, h1⟩
theorem scIsPoly : FnScope ["thing", "pair"] ["thing"] (defScope sIsPoly) := ⟨rfl, rfl, rfl, by decide +kernel, rfl, by decide +kernel, by decide +kernel⟩
theorem ok_isPoly (F : FunC K "is_poly" "is_poly" sIsPoly f fd c) (TB : TabB base mg c pt) (hT : pt ∈ Ta) (T : Blt2 mg) (C1 : Call1 P w K mg base "is_pair" 2 ["thing"] (spD isPairD)) (C2 : Call1 P w K mg base "is_ascending" 2 ["items"] (spAsc Ta)) : FnOk P w K mg base CX0 4 f fd ["thing"] (spL Ta isPolyD) := by
  obtain ⟨g, gd, G, bG, kG, mG⟩ := C1.ex
  obtain ⟨g2, gd2, G2, bG2, kG2, mG2⟩ := C2.ex
  refine F.ok scIsPoly (fun vs H Q E h => ?_) (fun A outer s H vs Q E hr h => ?_)
  · obtain ⟨x, d, rfl, _⟩ := h
    rfl
  obtain ⟨x, d, rfl, sd, _, hl, tb, q⟩ := h
  have hr2 : Room 2 _ := hr.mono (by omega)
  refine ⟨_, pss_cons (ps_if (PW.pt (pw_or (pt_not (pt_val (pe_isD .tuple (pv 0) (by rfl) T.isinstance (by rfl) T.tuple (by decide +kernel)))) (pw_or1 (pt_not (pt_val (pe_all (k := 2) (own := [("pair", 1)]) (g := gName 1) (tt := tYes) hr (by rfl) T.all TB rfl scIsPoly.nd (gxOk_by (N := ["thing", "pair"]) (sc := defScope sIsPoly) (by decide +kernel)) (pi_tup (pv 0))
    (fun _ _ _ _ _ _ _ _ _ => pg_name (i := 1) scIsPoly.nd rfl (Or.inl rfl)) (fun _ _ _ _ _ _ _ _ _ => pts_nil)
    (fun _ _ _ _ _ _ _ _ hr' => pe_call G hr' rfl mG kG bG .nil pass0 (pa_cons (pv 1) pa_nil)))))))) (pss_one (ps_ret pe_bl)) pss_nil)
    (pss_one (ps_ret (pe_call G2 hr2 rfl mG2 kG2 bG2 .nil pass0 (pa_cons (pe_lc (own := [("pair", 1)]) (g := gName 1) (tt := tYes) rfl scIsPoly.nd (pi_tup (pv 0)) (blkOk_by (N := ["thing", "pair"]) (sc := defScope sIsPoly) (by decide +kernel))
      (fun _ _ _ _ _ => pg_name (i := 1) scIsPoly.nd rfl (Or.inl rfl)) (fun _ _ _ _ _ => pts_nil) (fun _ _ _ _ _ => pe_ix (r := rIxT K) ix_tup (pv 1) pe_int (fun _ _ => rfl))) pa_nil)))), ?_⟩
  refine ⟨_, rfl, _, d, rfl, sd, _, rfl, ?_⟩
  cases sd with
  | @tup a xs ds ha hs =>
    refine iteF ?_
    refine ⟨_, rfl, _, rfl, ⟨_, SqT.of ha⟩, tb pt hT, fun H2 hB => ?_⟩
    have s2 := Tabbed.sm hB (tb pt hT)
    have t2 := Tabbed.tb hB tb
    have ha2 := s2 _ _ ha fun _ z => nomatch z
    have hs2 := hs.sm s2
    refine gx_tup (fun i H => H = H2 ∧ ∀ j d, j < i → ds[j]? = some d → isPairD d = true) ⟨rfl, fun j d hj => absurd hj (Nat.not_lt_zero _)⟩ (fun i H p => by rw [p.1]; exact SqT.of ha2) ?_ ?_
    · rintro i x H hx ⟨rfl, hp⟩
      obtain ⟨d, hd, sx⟩ := hs2.get hx
      refine ⟨rfl, ?_⟩
      dsimp only [tYes]
      refine iteT ?_
      refine ⟨_, rfl, _, d, rfl, sx, _, rfl, ?_⟩
      by_cases z : isPairD d = true
      · refine .inl ⟨z, rfl, fun j d' hj hd' => ?_⟩
        by_cases e : j = i
        · subst e
          rw [hd] at hd'
          cases hd'
          exact z
        · exact hp j d' (by omega) hd'
      · refine .inr ⟨z, ?_⟩
        have e1 : isPairD d = false := by simpa using z
        have e2 : isPolyD (.tuple ds) = false := by
          show (ds.all isPairD && _) = false
          have : ds.all isPairD = false := by
            rw [← Bool.not_eq_true]
            intro u
            exact z (List.all_eq_true.mp u d (List.mem_of_getElem? hd))
          rw [this]
          rfl
        rw [e2] at q
        rw [e1]
        exact ⟨_, rfl, iteT (q _ s2 t2)⟩
    · rintro H ⟨rfl, hp⟩
      have all : ∀ d ∈ ds, isPairD d = true := fun d hd => by
        obtain ⟨j, hj⟩ := List.mem_iff_getElem?.mp hd
        exact hp j d (by rw [hs.len]; exact (List.getElem?_eq_some_iff.mp hj).1) hj
      refine ⟨_, rfl, iteF ?_⟩
      have hlen := hl _ rfl
      have lxs : xs.length = ds.length := hs.len
      refine ⟨_, rfl, _, rfl, ⟨_, SqT.of ha2⟩, fun D hD => lc_tup (K := K) (fun i H' => H' = upd H D (.lst (((ds.map fstD).take i).map V.int))) rfl (fun i H' _ e => by rw [e]; exact SqT.of (same_new hD _ _ _ ha2)) ?_ ?_⟩
      · rintro i x H' hx rfl
        obtain ⟨d, hd, sx⟩ := hs2.get hx
        obtain ⟨e, k, rfl, _, _⟩ := pair_of (all d (List.mem_of_getElem? hd))
        obtain ⟨t, rfl, ht⟩ := sd_pair sx
        refine ⟨rfl, ?_⟩
        dsimp only [tYes]
        refine iteT ?_
        refine ⟨_, rfl, t, _, _, _, rfl, rfl, SqT.of (same_new hD _ _ _ ht), (show atI [V.int e, V.int k] ((0 : Nat) : Int) = some (V.int e) from atI_nat rfl), ?_⟩
        refine ⟨_, upd_same, ?_, ?_⟩
        · rw [List.length_map, List.length_take]
          exact sl_lt (by have := (List.getElem?_eq_some_iff.mp hd).1; omega)
        · rw [upd_upd]
          have : (ds.map fstD)[i]? = some e := by
            rw [List.getElem?_map, hd]
            rfl
          rw [List.take_add_one, this]
          simp
      · rintro H' rfl
        refine ⟨D, ds.map fstD, rfl, ?_, by rw [List.length_map]; exact hlen, t2.same (same_new hD _), fun H3 s3 t3 => ?_⟩
        · rw [upd_same, List.take_of_length_le (Nat.le_of_eq (by rw [List.length_map, lxs]))]
        · have e2 : isPolyD (.tuple ds) = ascB (ds.map fstD) := by
            show (ds.all isPairD && _) = _
            rw [List.all_eq_true.mpr all]
            rfl
          rw [e2] at q
          exact q _ (s2.trans ((Same.sm (same_new hD _)).trans s3)) t3
  | _ => exact iteT (iteT (q _ (Sm.refl _) tb))
end
end Zk

set_option maxHeartbeats 4000000
set_option exponentiation.threshold 1000
/-! K6: power_of, calls by keywords alone, walks over a list or a tuple. -/
namespace Zk
open PySem PySem.Spec PyProof.Rows L2 GxR
def spPow : Sp := fun vs H Q _ => ∃ k e : Nat, vs = [.int (k : Int), .int (e : Int)] ∧ k ≤ 1000000 ∧ e ≤ 12 ∧ Q (.int (pw k e)) H
theorem pow_small {k a : Nat} (hk : k ≤ 1000000) (ha : a ≤ 16) : ((k ^ a : Nat) : Int).natAbs < 2 ^ 400 := by
  rw [Int.natAbs_natCast]
  have h1 : k ^ a ≤ (2 ^ 20) ^ a := Nat.pow_le_pow_left (by omega) a
  rw [← Nat.pow_mul] at h1
  have h2 : 2 ^ (20 * a) ≤ 2 ^ 320 := Nat.pow_le_pow_right (by decide) (by omega)
  exact Nat.lt_of_le_of_lt (Nat.le_trans h1 h2) (Nat.pow_lt_pow_right (by decide) (by decide))
def intAt (σ : L2.St) (i : Nat) : Nat := match σ[i]? with
  | some (some (.int n)) => n.toNat
  | _ => 0
/-- a call by keywords alone -/
theorem pe_callK0 {X : Cx} {CX : CXT} {k : Nat} {f : Addr} {fd : FuncData} {ps ks : List Str} {sp : Sp} {E : XK} {x : Str} {p pos : Pos} {kws : List Keyword} {tk : TA} {g : List Value → List Value → List Value} {gV : List V → List V → List V}
    (F : FnOk X.prog X.w X.K X.mg X.base CX k f fd ps sp) (hr : Room k X.A) (hg : Gl X x) (hm : X.mg x = some (.ref f)) (hk : PySem.W.keepIn X.K (.ref f) = true) (hb : KBinds X.K fd ps ks g gV) (hx : Passes CX X E)
    (hkw : PK X kws tk) (hall : (backToKw pos (keywordEach kws X.env)).all (·.1.isSome) = true := by rfl) (hks : (backToKw pos (keywordEach kws X.env)).filterMap (·.1) = ks := by rfl)
    (hdb : (x == ("__debug__" : Str)) = false := by decide)
    (hpl : ((backTo pos (starEach [] X.env)).any (·.1) || (backToKw pos (keywordEach kws X.env)).any (·.1.isNone)) = false := by rfl) :
    PE X (.Call (.Name x p) [] kws pos) (tCallK sp gV E tNil tk) := by
  refine ⟨fun pins s σ H Q I h => ?_⟩
  refine wpAny_Call_Name_kw (ld_glob I hg hm ?_ hdb)
  refine PySem.W.callWith_KW0 (h₀ := X.base) I.ok.mod.kin hk hall ?_ hpl
  refine thn (hkw.run pos pins s σ H _ I h) fun ws s2 ⟨zs, H2, I2, rz, q2⟩ => ⟨I2.kIn, ?_⟩
  rw [hks]
  exact run_fnk F hr hb hx I2 (us := []) .nil rz q2
/-- what a walk over a list or a tuple asks -/
def iSeq (K : PySem.W.Frag) (te : TE) : TI := fun σ H R => te σ H fun x H1 => (∃ a xs, x = .ref a ∧ SqL K H1 a xs ∧ R (Itl K a) H1) ∨ (∃ a xs, x = .ref a ∧ SqT K H1 a xs ∧ R (Itt K a) H1)
theorem pi_seq {X : Cx} {tg l : Expr} {tl : TE} (hl : PE X l tl) : PI X tg l (iSeq X.K tl) := by
  refine ⟨fun pins s σ H R I h => ?_⟩
  refine thn (hl.run pins s σ H _ I h) fun v s1 ⟨x, H1, I1, r1, q1⟩ => ?_
  rcases q1 with ⟨a, xs, e, hq, q⟩ | ⟨a, xs, e, hq, q⟩
  · subst e
    cases r1
    obtain ⟨its, rv, p, hz⟩ := I1.list hq
    refine wpAny_pyIter_list p.isList ?_
    refine ⟨s1.heap.objs.size, [s1.heap.objs.size], _, _, H1, rfl, I1.kept (t' := s1.toks) fun b o e => Heap.get?_push_of_some _ e, turn_list a _, ⟨_, Heap.get?_push_size _ rfl, rfl, rfl⟩, fun b hb => ?_, q⟩
    have e : b = s1.heap.objs.size := by simpa using hb
    subst e
    exact I1.fpOk (Nat.le_refl _) (I1.hok.fresh (Nat.le_refl _))
  · subst e
    cases r1
    obtain ⟨its, rv, p, hz⟩ := I1.tuple hq
    refine wpAny_pyIter_tuple (show s1.heap.IsTuple a its.toArray from p) ?_
    refine ⟨s1.heap.objs.size, [s1.heap.objs.size], _, _, H1, rfl, I1.kept (t' := s1.toks) fun b o e => Heap.get?_push_of_some _ e, turn_tuple a _, ⟨_, Heap.get?_push_size _ rfl, rfl, rfl⟩, fun b hb => ?_, q⟩
    have e : b = s1.heap.objs.size := by simpa using hb
    subst e
    exact I1.fpOk (Nat.le_refl _) (I1.hok.fresh (Nat.le_refl _))
section
variable {P : Program} {w : World} {K : PySem.W.Frag} {mg : Str → Option Value} {base : Heap} {f : Addr} {fd : FuncData}
end
end Zk

set_option maxHeartbeats 4000000
set_option exponentiation.threshold 1000
/-! K7: value_at, check_both, gathered, sum_of, product_of. -/
namespace Zk
open PySem PySem.Spec PyProof.Rows L2 GxR
open L2.DX (itemsO itemsO_ok)
abbrev sSum : Stmt := top 10
abbrev sCheck : Stmt := top 11
abbrev sGath : Stmt := top 12
def pairD (x : IQ) : PyData := .tuple [.int x.1, .int x.2]
def polyD (p : List IQ) : PyData := .tuple (p.map pairD)
def PolyAt (H : Hp) (a : Addr) (p : List IQ) : Prop := ∃ ts, H a = some (.tup ts) ∧ PT H ts p
theorem PolyAt.sm {H H' : Hp} {a : Addr} {p : List IQ} (h : PolyAt H a p) (s : Sm H H') : PolyAt H' a p := let ⟨ts, e, t⟩ := h; ⟨ts, s _ _ e (fun _ z => nomatch z), PT.sm s t⟩
theorem PT.sd {H : Hp} : ∀ {ts : List V} {p : List IQ}, PT H ts p → SdL H ts (p.map pairD)
  | _, _, .nil => .nil
  | _, _, .cons ⟨t, e, h⟩ r => by
    subst e
    exact .cons (.tup h (.cons (.int _) (.cons (.int _) .nil))) (PT.sd r)
theorem PolyAt.sd {H : Hp} {a : Addr} {p : List IQ} (h : PolyAt H a p) : Sd H (.ref a) (polyD p) := let ⟨_, e, t⟩ := h; .tup e (PT.sd t)
theorem PT.get {H : Hp} : ∀ {ts : List V} {p : List IQ} {i : Nat} {v : V}, PT H ts p → ts[i]? = some v → ∃ t x, v = .ref t ∧ p[i]? = some x ∧ H t = some (.tup [.int x.1, .int x.2])
  | _, _, _, _, .nil, e => by simp at e
  | _, _, 0, _, .cons ⟨t, e1, h⟩ _, e => by
    simp at e
    subst e
    exact ⟨t, _, e1, rfl, h⟩
  | _, _, i + 1, v, .cons _ r, e => by
    obtain ⟨t, x, a, b, c⟩ := PT.get (i := i) (v := v) r (by simpa using e)
    exact ⟨t, x, a, by simpa using b, c⟩
theorem PT.app {H : Hp} : ∀ {ts us : List V} {p q : List IQ}, PT H ts p → PT H us q → PT H (ts ++ us) (p ++ q)
  | _, _, _, _, .nil, t => t
  | _, _, _, _, .cons h r, t => .cons h (PT.app r t)
/-- a polynomial: exponents at most m, coefficients at most c -/
structure Good (m c : Int) (p : List IQ) : Prop where
  asc : Asc p
  all : ∀ x ∈ p, 0 ≤ x.1 ∧ x.1 ≤ m ∧ 1 ≤ x.2 ∧ x.2 ≤ c
theorem Good.mono {m c m' c' : Int} {p : List IQ} (h : Good m c p) (h1 : m ≤ m') (h2 : c ≤ c') : Good m' c' p := ⟨h.asc, fun x hx => by
  obtain ⟨a, b, d, e⟩ := h.all x hx
  omega⟩
theorem asc_ascB {p : List IQ} (h : Asc p) : ascB ((p.map pairD).map fstD) = true := by
  have e : (p.map pairD).map fstD = p.map (·.1) := by rw [List.map_map]; exact List.map_congr_left fun _ _ => rfl
  rw [e]
  refine List.all_eq_true.mpr fun i hi => decide_eq_true ?_
  have hi := List.mem_range.mp hi
  rw [List.length_map] at hi
  have h1 : i < p.length := by omega
  have h2 : i + 1 < p.length := by omega
  have := List.pairwise_iff_getElem.mp h i (i + 1) h1 h2 (by omega)
  rw [List.getD_eq_getElem?_getD, List.getD_eq_getElem?_getD, List.getElem?_map, List.getElem?_map, List.getElem?_eq_getElem h1, List.getElem?_eq_getElem h2]
  exact this
theorem Good.poly {m c : Int} {p : List IQ} (h : Good m c p) : isPolyD (polyD p) = true := by
  show ((p.map pairD).all isPairD && ascB ((p.map pairD).map fstD)) = true
  rw [asc_ascB h.asc, Bool.and_true]
  refine List.all_eq_true.mpr fun d hd => ?_
  obtain ⟨x, hx, rfl⟩ := List.mem_map.mp hd
  obtain ⟨a, _, b, _⟩ := h.all x hx
  show (decide (0 ≤ x.1) && decide (1 ≤ x.2)) = true
  rw [decide_eq_true a, decide_eq_true b]
  rfl
theorem polyD_str {p : List IQ} : ∀ y, polyD p = .str y → y.length ≤ sizeLine := fun _ e => nomatch e
theorem polyD_len {p : List IQ} (h : p.length ≤ 100000) : ∀ ds, polyD p = .tuple ds → ds.length ≤ 100000 := fun ds e => by
  injection e with e
  rw [← e, List.length_map]
  exact h
def spValue (Ta : List Addr) : Sp := fun vs H Q _ => ∃ (a : Addr) (p : List IQ) (k : Nat), vs = [.ref a, .int (k : Int)] ∧ PolyAt H a p ∧ Good 12 (10 ^ 12) p ∧ p.length ≤ 100 ∧ k ≤ 1000000 ∧ Tb Ta H ∧ ∀ H', Sm H H' → Tb Ta H' → Q (.int (evalP p k)) H'
section
variable {P : Program} {w : World} {K : PySem.W.Frag} {mg : Str → Option Value} {base : Heap} {f : Addr} {fd : FuncData} {Ta : List Addr}
/-- check_both of two polynomials -/
def spCheck (Ta : List Addr) : Sp := fun vs H Q _ => ∃ (a b : Addr) (p r : List IQ) (m c : Int), vs = [.ref a, .ref b] ∧ PolyAt H a p ∧ PolyAt H b r ∧ Good m c p ∧ Good m c r ∧ p.length ≤ 1000 ∧ r.length ≤ 1000 ∧ Tb Ta H ∧ ∀ H', Sm H H' → Tb Ta H' → Q .non H'
theorem scCheck : FnScope ["poly", "other"] ["poly", "other"] (defScope sCheck) := ⟨rfl, rfl, rfl, by decide +kernel, rfl, by decide +kernel, by decide +kernel⟩
theorem ok_check (F : Fun K "check_both" "check_both" sCheck f fd) (C1 : Call1 P w K mg base "is_poly" 4 ["thing"] (spL Ta isPolyD)) : FnOk P w K mg base CX0 5 f fd ["poly", "other"] (spCheck Ta) := by
  obtain ⟨g1, d1, G1, b1, k1, m1⟩ := C1.ex
  refine F.ok scCheck (fun vs H Q E h => ?_) (fun cdv A outer s H vs Q E hr h => ?_)
  · obtain ⟨a, b, p, r, m, c, rfl, _⟩ := h
    rfl
  obtain ⟨a, b, p, r, m, c, rfl, hp, hr', gp, gr, lp, lr, tb, q⟩ := h
  refine ⟨_, pss_cons (ps_if (pt_not (pt_val (pe_call G1 hr rfl m1 k1 b1 .nil pass0 (pa_cons (pv 0) pa_nil)))) (pss_one ps_never) pss_nil)
    (pss_one (ps_if (pt_not (pt_val (pe_call G1 hr rfl m1 k1 b1 .nil pass0 (pa_cons (pv 1) pa_nil)))) (pss_one ps_never) pss_nil)), ?_⟩
  refine ⟨_, rfl, _, polyD p, rfl, hp.sd, polyD_str, polyD_len (by omega), tb, fun H1 s1 t1 => ?_⟩
  rw [gp.poly]
  refine ⟨_, rfl, iteF ?_⟩
  refine ⟨_, rfl, _, polyD r, rfl, (hr'.sm s1).sd, polyD_str, polyD_len (by omega), t1, fun H2 s2 t2 => ?_⟩
  rw [gr.poly]
  exact ⟨_, rfl, iteF (q _ (s1.trans s2) t2)⟩

/-! ### dicts of ints -/
theorem valV_dI {d : List IQ} {e : Int} : valV (dI d) (.inl e) = (getK d e).map V.int := by
  unfold valV getK dI
  rw [List.find?_map, Option.map_map, Option.map_map]
  have : ((fun kv : Key × V => decide (kv.1 = Sum.inl e)) ∘ fun x : IP => ((Sum.inl x.1 : Key), V.int x.2)) = fun x : IQ => decide (x.1 = e) := by
    funext x
    show decide ((Sum.inl x.1 : Key) = Sum.inl e) = _
    by_cases z : x.1 = e
    · rw [z, decide_eq_true rfl, decide_eq_true rfl]
    · rw [decide_eq_false z, decide_eq_false fun q => z (Sum.inl.inj q)]
  rw [this]
  rfl
theorem any_dI {d : List IQ} {e : Int} : ((dI d).any fun kv => decide (kv.1 = Sum.inl e)) = d.any fun x => decide (x.1 = e) := by
  unfold dI
  rw [List.any_map]
  congr 1
  funext x
  show decide ((Sum.inl x.1 : Key) = Sum.inl e) = _
  by_cases z : x.1 = e
  · rw [z, decide_eq_true rfl, decide_eq_true rfl]
  · rw [decide_eq_false z, decide_eq_false fun q => z (Sum.inl.inj q)]
theorem putK_dI {d : List IQ} {e v : Int} : putK (dI d) (.inl e) (.int v) = dI (setK d e v) := by
  unfold putK setK
  rw [any_dI]
  split
  · unfold dI
    rw [List.map_map, List.map_map]
    refine List.map_congr_left fun x _ => ?_
    show (if (Sum.inl x.1 : Key) = Sum.inl e then ((Sum.inl x.1 : Key), V.int v) else (Sum.inl x.1, V.int x.2)) = (Sum.inl (if x.1 = e then (e, v) else x).1, V.int (if x.1 = e then (e, v) else x).2)
    by_cases z : x.1 = e
    · rw [if_pos (by rw [z]), if_pos z, z]
    · rw [if_neg fun q => z (Sum.inl.inj q), if_neg z]
  · unfold dI
    rw [List.map_append]
    rfl
theorem acc_snoc (l : List IQ) (x : IQ) : accP (l ++ [x]) = addK (accP l) x.1 x.2 := by
  unfold accP
  rw [List.foldl_append]
  rfl
theorem lex_asc {d ys : List IQ} (nd : (d.map (·.1)).Nodup) (hp : ys.Perm d) (h : ys.Pairwise fun x y => SrtO.lexB y x = false) : Asc ys := by
  have ndy : (ys.map (·.1)).Nodup := (hp.map (·.1)).nodup_iff.mpr nd
  have nd2 := List.pairwise_map.mp ndy
  refine (h.and nd2).imp fun {x y} q => ?_
  obtain ⟨q1, q2⟩ := q
  have := SrtO.lexB_no.mp q1
  omega
/-- gathered(pairs) -/
def spGath : Sp := fun vs H Q _ => ∃ (a : Addr) (ts : List V) (ps : List IQ), vs = [.ref a] ∧ H a = some (.lst ts) ∧ PT H ts ps ∧ ps.length ≤ 10000 ∧ ∀ H' b ys, Same H H' → PolyAt H' b ys → Canon ps ys → Q (.ref b) H'
theorem scGath : FnScope ["pairs", "totals", "exponent", "coefficient"] ["pairs"] (defScope sGath) := ⟨rfl, rfl, rfl, by decide +kernel, rfl, by decide +kernel, by decide +kernel⟩
theorem ok_gath (F : Fun K "gathered" "gathered" sGath f fd) (T : Blt2 mg) : FnOk P w K mg base CX0 1 f fd ["pairs"] spGath := by
  refine F.ok scGath (fun vs H Q E h => ?_) (fun cdv A outer s H vs Q E hr h => ?_)
  · obtain ⟨a, ts, ps, rfl, _⟩ := h
    rfl
  obtain ⟨a, ts, ps, rfl, ha, ht, hl, q⟩ := h
  have hu := hu_of hr
  refine ⟨_, pss_cons (ps_set (i := 1) scGath.nd rfl (Or.inl rfl) pe_dnewK)
    (pss_cons (ps_for PassesOwn.never rfl (pi_list (pv 0)) (pg_tup (by rfl) (pgs_cons (pg_name (i := 2) scGath.nd rfl (Or.inl rfl)) (pgs_cons (pg_name (i := 3) scGath.nd rfl (Or.inl rfl)) pgs_nil)))
      (pss_one (ps_dput hu (pv 1) (pv 2) (pe_op op_add (pe_dget2 hu (pv 1) (pv 2) pe_int ⟨rfl, rfl, rfl, rfl⟩) (pv 3)) rfl)))
    (pss_one (ps_ret (pe_callTy call_tuple_of (by rfl) T.tuple (by decide +kernel) (pa_cons (pe_callB (cr_sortedII rfl) (by rfl) T.sorted (by decide +kernel) (pa_cons (pe_bm0 PySem.F.plainAttrs_dict PySem.F.slot_dict_items PySem.F.type_dict_items mt_itemsK (pv 1)) pa_nil)) pa_nil))))), ?_⟩
  intro d hd
  have nad : a ≠ d := ne_of_none ha hd
  have lt := PT.len ht
  refine ⟨_, rfl, a, rfl, ⟨_, SqL.of ((upd_ne nad).trans ha)⟩, for_list (K := K) (xs := ts) (fun i σ H' => ∃ v w, σ = [some (.ref a), some (.ref d), v, w] ∧ H' = upd H d (.dK (dI (accP (ps.take i))))) ⟨_, _, rfl, rfl⟩
    (fun i σ H' _ ⟨_, _, _, e⟩ => by rw [e]; exact SqL.of ((upd_ne nad).trans ha)) ?_ ?_⟩
  · rintro i x σ H' hx ⟨v, w, rfl, rfl⟩
    obtain ⟨t, y, rfl, hy, hyt⟩ := PT.get ht hx
    refine ⟨t, _, rfl, SqT.of ((upd_ne (ne_of_none hyt hd)).trans hyt), rfl, _, _, rfl, _, _, rfl, rfl, ?_⟩
    have len : (accP (ps.take i)).length ≤ 10000 := Nat.le_trans (acc_len _) (Nat.le_trans (by rw [List.length_take]; omega) hl)
    have g := DGet.k (k := Sum.inl y.1) (upd_same (H := H) (a := d) (o := .dK (dI (accP (ps.take i)))))
    rw [valV_dI] at g
    refine ⟨_, rfl, d, rfl, .inl ⟨_, .inl upd_same⟩, _, rfl, _, g, ?_⟩
    have eo : ((getK (accP (ps.take i)) y.1).map V.int).getD (V.int 0) = V.int ((getK (accP (ps.take i)) y.1).getD 0) := by
      cases getK (accP (ps.take i)) y.1 <;> rfl
    rw [eo]
    refine ⟨_, rfl, _, _, rfl, rfl, ?_⟩
    refine ⟨_, rfl, _, rfl, d, _, rfl, DPut.k (k := Sum.inl y.1) upd_same (sl_lt (by unfold dI; rw [List.length_map]; omega)), ?_⟩
    refine ⟨_, _, rfl, ?_⟩
    rw [upd_upd, putK_dI, ← addK_set (acc_nodup _), List.take_add_one, hy]
    show _ = upd H d (.dK (dI (accP (ps.take i ++ [y]))))
    rw [acc_snoc]
  · rintro σ H' ⟨v, w, rfl, rfl⟩
    rw [List.take_of_length_le (Nat.le_of_eq lt.symm)]
    refine ⟨_, rfl, .inr (.inr (.inl ⟨rfl, .inl ⟨_, upd_same⟩⟩)), d, _, rfl, rfl, upd_same, fun v1 hv1 => ?_⟩
    have h1 : Same H (upd (upd H d (.dK (dI (accP ps)))) v1 (itemsO v1 d)) := (same_new hd _).trans (same_new hv1 _)
    refine ⟨v1, d, accP ps, rfl, upd_same, same_new hv1 _ _ _ upd_same, fun ys H' l us hp hs sm hl hus ht' => ?_⟩
    refine ⟨l, us, rfl, .inl ⟨SqL.of hus, fun b hb => ?_⟩⟩
    have s2 : Same H (upd H' b (.tup us)) := (h1.trans sm).trans (same_new hb _)
    exact q _ b ys s2 ⟨us, upd_same, PT.sm (Same.sm (same_new hb _)) ht'⟩ ⟨hp, lex_asc (acc_nodup _) hp hs⟩
/-- sum_of, product_of: f says of which pairs -/
def spTwo (Ta : List Addr) (g : List IQ → List IQ → List IQ) : Sp := fun vs H Q _ => ∃ (a b : Addr) (p r : List IQ), vs = [.ref a, .ref b] ∧ PolyAt H a p ∧ PolyAt H b r ∧ Good 1000 (10 ^ 12) p ∧ Good 1000 (10 ^ 12) r ∧ p.length ≤ 50 ∧ r.length ≤ 50 ∧ Tb Ta H ∧ ∀ H' x ys, Sm H H' → Tb Ta H' → PolyAt H' x ys → Canon (g p r) ys → Q (.ref x) H'
theorem scSum : FnScope ["poly", "other"] ["poly", "other"] (defScope sSum) := ⟨rfl, rfl, rfl, by decide +kernel, rfl, by decide +kernel, by decide +kernel⟩
theorem ok_sum (F : Fun K "sum_of" "sum_of" sSum f fd) (T : Blt2 mg) (C1 : Call1 P w K mg base "check_both" 5 ["poly", "other"] (spCheck Ta)) (C2 : Call1 P w K mg base "gathered" 1 ["pairs"] spGath) : FnOk P w K mg base CX0 6 f fd ["poly", "other"] (spTwo Ta fun p r => p ++ r) := by
  obtain ⟨g1, d1, G1, b1, k1, m1⟩ := C1.ex
  obtain ⟨g2, d2, G2, b2, k2, m2⟩ := C2.ex
  refine F.ok scSum (fun vs H Q E h => ?_) (fun cdv A outer s H vs Q E hr h => ?_)
  · obtain ⟨a, b, p, r, rfl, _⟩ := h
    rfl
  obtain ⟨a, b, p, r, rfl, hp, hq, gp, gr, lp, lr, tb, q⟩ := h
  have hr1 : Room 1 _ := hr.mono (by omega)
  refine ⟨_, pss_cons (ps_expr (pe_call G1 hr rfl m1 k1 b1 .nil pass0 (pa_cons (pv 0) (pa_cons (pv 1) pa_nil))))
    (pss_one (ps_ret (pe_call G2 hr1 rfl m2 k2 b2 .nil pass0 (pa_cons (pe_op op_cat (pe_callTy call_list_of (by rfl) T.list (by decide +kernel) (pa_cons (pv 0) pa_nil)) (pe_callTy call_list_of (by rfl) T.list (by decide +kernel) (pa_cons (pv 1) pa_nil))) pa_nil)))), ?_⟩
  refine ⟨_, rfl, _, rfl, a, b, p, r, 1000, 10 ^ 12, rfl, hp, hq, gp, gr, by omega, by omega, tb, fun H1 s1 t1 => ?_⟩
  obtain ⟨ts, ha, ht⟩ := hp.sm s1
  obtain ⟨us, hb, hu⟩ := hq.sm s1
  have l1 := PT.len ht
  have l2 := PT.len hu
  refine ⟨_, rfl, a, ts, rfl, .inr (SqT.of ha), fun l hl => ?_⟩
  have nbl : b ≠ l := ne_of_none hb hl
  refine ⟨_, rfl, b, us, rfl, .inr (SqT.of ((upd_ne nbl).trans hb)), fun l2 hl2 => ?_⟩
  have n2 : l ≠ l2 := ne_of_none upd_same hl2
  have sA : Same H1 (upd (upd H1 l (.lst ts)) l2 (.lst us)) := (same_new hl _).trans (same_new hl2 _)
  refine ⟨l, l2, ts, us, rfl, rfl, (upd_ne n2).trans upd_same, upd_same, Nat.le_of_lt (sl_lt (by omega)), fun c hc => ?_⟩
  have sB := sA.trans (same_new hc (.lst (ts ++ us)))
  refine ⟨c, ts ++ us, p ++ r, rfl, upd_same, PT.app (PT.sm (Same.sm sB) ht) (PT.sm (Same.sm sB) hu), by rw [List.length_append]; omega, fun H' x ys s2 px cx => ?_⟩
  exact q H' x ys (s1.trans (Same.sm (sB.trans s2))) (t1.same (sB.trans s2)) px cx
theorem mulP_snoc (l : List IQ) (x : IQ) (r : List IQ) : mulP (l ++ [x]) r = mulP l r ++ r.map fun y => (x.1 + y.1, x.2 * y.2) := by
  unfold mulP
  rw [List.flatMap_append]
  simp
end
end Zk

set_option maxHeartbeats 4000000
set_option exponentiation.threshold 1000
/-! K8: the law's own looks and reckonings. -/
namespace Zk
open PySem PySem.Spec PyProof.Rows L2 GxR
abbrev sLLow : Stmt := top 24
/-- new things may have been laid -/
def spLs (g : PyData → Bool) : Sp := fun vs H Q _ => ∃ x d, vs = [x] ∧ Sd H x d ∧ (∀ ds, d = .tuple ds → ds.length ≤ 100000) ∧ ∀ H', Same H H' → Q (.bl (g d)) H'
section
variable {P : Program} {w : World} {K : PySem.W.Frag} {mg : Str → Option Value} {base : Heap} {f : Addr} {fd : FuncData}
theorem mem_abc (c : Nat) : decide (c ∈ ("abcdefghijklmnopqrstuvwxyz" : Str).cps.toList) = isLetC c := by
  have e : ("abcdefghijklmnopqrstuvwxyz" : Str).cps.toList = (List.range 26).map (· + 97) := by decide +kernel
  rw [e]
  unfold isLetC
  refine decide_eq_decide.mpr ?_
  rw [List.mem_map]
  exact ⟨fun ⟨a, h, k⟩ => by have := List.mem_range.mp h; omega, fun h => ⟨c - 97, List.mem_range.mpr (by omega), by omega⟩⟩
theorem pairs_all_false {ds : List PyData} {i : Nat} {d : PyData} (hd : ds[i]? = some d) (h : isPairD d = false) : isPolyD (.tuple ds) = false := by
  show (ds.all isPairD && _) = false
  have : ds.all isPairD = false := by
    rw [← Bool.not_eq_true]
    intro u
    have := List.all_eq_true.mp u d (List.mem_of_getElem? hd)
    rw [h] at this
    cases this
  rw [this]
  rfl
end
end Zk

set_option maxHeartbeats 4000000
set_option exponentiation.threshold 1000
/-! K9: _law_is_low, _law_value, _law_added, _law_product. -/
namespace Zk
open PySem PySem.Spec PyProof.Rows L2 GxR
def lowB (p : List IQ) : Bool := decide (p.length ≤ 20) && p.all fun x => decide (x.1 ≤ 12) && decide (x.2 ≤ 10 ^ 12)
def spLow : Sp := fun vs H Q _ => ∃ (a : Addr) (p : List IQ), vs = [.ref a] ∧ PolyAt H a p ∧ p.length ≤ 100000 ∧ ∀ H', Same H H' → Q (.bl (lowB p)) H'
def spLVal : Sp := fun vs H Q _ => ∃ (a : Addr) (p : List IQ) (k : Nat), vs = [.ref a, .int (k : Int)] ∧ PolyAt H a p ∧ Good 12 (10 ^ 12) p ∧ p.length ≤ 100 ∧ k ≤ 1000000 ∧ Q (.int (evalP p k)) H
/-- _law_added(pairs), a list or a tuple -/
def spLAdd (K : PySem.W.Frag) : Sp := fun vs H Q _ => ∃ (a : Addr) (ts : List V) (ps : List IQ), vs = [.ref a] ∧ (H a = some (.lst ts) ∨ H a = some (.tup ts)) ∧ PT H ts ps ∧ ps.length < 64 ∧ ∀ H' b ys, Same H H' → PolyAt H' b ys → Canon ps ys → Q (.ref b) H'
def spLProd : Sp := fun vs H Q _ => ∃ (a b : Addr) (p r : List IQ), vs = [.ref a, .ref b] ∧ PolyAt H a p ∧ PolyAt H b r ∧ Good 1000 (10 ^ 12) p ∧ Good 1000 (10 ^ 12) r ∧ p.length * r.length < 64 ∧ r.length ≤ 50 ∧ ∀ H' x ys, Same H H' → PolyAt H' x ys → Canon (mulP p r) ys → Q (.ref x) H'
section
variable {P : Program} {w : World} {K : PySem.W.Frag} {mg : Str → Option Value} {base : Heap} {f : Addr} {fd : FuncData}
theorem scLLow : FnScope ["poly", "pair"] ["poly"] (defScope sLLow) := ⟨rfl, rfl, rfl, by decide +kernel, rfl, by decide +kernel, by decide +kernel⟩
theorem ok_lLow (F : Fun K "_law_is_low" "_law_is_low" sLLow f fd) (T : Blt2 mg) : FnOk P w K mg base CX0 1 f fd ["poly"] spLow := by
  refine F.ok scLLow (fun vs H Q E h => ?_) (fun cdv A outer s H vs Q E hr h => ?_)
  · obtain ⟨a, p, rfl, _⟩ := h
    rfl
  obtain ⟨a, p, rfl, ⟨ts, ha, ht⟩, hl, q⟩ := h
  refine ⟨_, pss_one (ps_ret (pe_and (pe_cmpR op_le (pe_callB call_len_seq (by rfl) T.len PySem.boot_len (pa_cons (pv 0) pa_nil)) pe_int (nomark _)) (pe_one (pe_cmpR (op_eqL0 hr.units0) (pe_lc (own := [("pair", 1)]) (g := gName 1) (tt := _) rfl scLLow.nd (pi_tup (pv 0))
      (blkOk_by (N := ["poly", "pair"]) (sc := defScope sLLow) (by decide +kernel)) (fun _ _ _ _ _ => pg_name (i := 1) scLLow.nd rfl (Or.inl rfl))
      (fun _ _ _ _ _ => pts_one (PW.pt (pw_or (pt_cmpR op_gt (pe_ix (r := rIxT K) ix_tup (pv 1) pe_int (fun _ _ => rfl)) pe_int (nomark _)) (pw_or1 (pt_cmpR op_gt (pe_ix (r := rIxT K) ix_tup (pv 1) pe_int (fun _ _ => rfl)) (pe_op op_pow pe_int pe_int) (nomark _)))))) (fun _ _ _ _ _ => pv 1))
      (pe_lst pa_nil) (nomark _))))), ?_⟩
  have lt := PT.len ht
  refine ⟨_, rfl, a, ts, rfl, .inr (SqT.of ha), _, _, rfl, rfl, _, rfl, ?_⟩
  have e1 : decide (((ts.length : Nat) : Int) ≤ 20) = decide (p.length ≤ 20) := decide_eq_decide.mpr (by omega)
  rw [e1]
  by_cases h20 : p.length ≤ 20
  · rw [decide_eq_true h20]
    refine iteT ?_
    have i0 : ∀ w : IQ, atI [V.int w.1, V.int w.2] ((0 : Nat) : Int) = some (V.int w.1) := fun w => atI_nat rfl
    have i1 : ∀ w : IQ, atI [V.int w.1, V.int w.2] ((1 : Nat) : Int) = some (V.int w.2) := fun w => atI_nat rfl
    refine ⟨_, rfl, a, rfl, ⟨_, SqT.of ha⟩, fun D hD => lc_tup (K := K) (xs := ts) (fun i H1 => ∃ vs, H1 = upd H D (.lst vs) ∧ vs.length ≤ i ∧ vs.isEmpty = ((p.take i).all fun x => decide (x.1 ≤ 12) && decide (x.2 ≤ 10 ^ 12))) ⟨[], rfl, Nat.le_refl _, rfl⟩
      (fun i H1 _ ⟨_, e, _⟩ => by rw [e]; exact SqT.of (same_new hD _ _ _ ha)) ?_ ?_⟩
    · rintro i v H1 hv ⟨vs, rfl, hlv, hem⟩
      have hi := (List.getElem?_eq_some_iff.mp hv).1
      obtain ⟨t, x, rfl, hx, hxt⟩ := PT.get ht hv
      have hxt' := same_new hD (.lst vs) _ _ hxt
      refine ⟨rfl, ?_⟩
      refine ⟨_, rfl, t, _, _, _, rfl, rfl, SqT.of hxt', i0 x, _, _, rfl, rfl, _, rfl, ?_⟩
      have nx : ((p.take (i + 1)).all fun x => decide (x.1 ≤ 12) && decide (x.2 ≤ 10 ^ 12)) = (vs.isEmpty && (decide (x.1 ≤ 12) && decide (x.2 ≤ 10 ^ 12))) := by
        rw [List.take_add_one, hx, List.all_append, hem]
        simp
      have add : ((decide (x.1 ≤ 12) && decide (x.2 ≤ 10 ^ 12)) = false) → ∃ acc, upd H D (.lst vs) D = some (.lst acc) ∧ acc.length < sizeLine ∧ ∃ vs', upd (upd H D (.lst vs)) D (.lst (acc ++ [V.ref t])) = upd H D (.lst vs') ∧ vs'.length ≤ i + 1 ∧ vs'.isEmpty = ((p.take (i + 1)).all fun x => decide (x.1 ≤ 12) && decide (x.2 ≤ 10 ^ 12)) := fun z =>
        ⟨vs, upd_same, sl_lt (by omega), vs ++ [.ref t], by rw [upd_upd], by rw [List.length_append]; show vs.length + 1 ≤ _; omega, by rw [nx, z, Bool.and_false]; simp⟩
      refine ite2 (fun c => ?_) (fun c => ?_)
      · have c := of_decide_eq_true c
        exact iteT ⟨_, rfl, add (by rw [decide_eq_false (by omega)]; rfl)⟩
      · have c : ¬ (12 : Int) < x.1 := fun z => c (decide_eq_true z)
        refine ⟨_, rfl, t, _, _, _, rfl, rfl, SqT.of hxt', i1 x, 10, 12, rfl, rfl, ⟨by decide, by decide, by decide⟩, _, _, rfl, rfl, _, rfl, ?_⟩
        refine ite2 (fun c2 => ?_) (fun c2 => ?_)
        · have c2 := of_decide_eq_true c2
          have c2 : (10 : Int) ^ 12 < x.2 := c2
          exact ⟨_, rfl, add (by rw [decide_eq_false (show ¬ x.2 ≤ 10 ^ 12 by omega), Bool.and_false])⟩
        · have c2 : ¬ (10 : Int) ^ 12 < x.2 := fun z => c2 (decide_eq_true z)
          refine ⟨vs, rfl, by omega, ?_⟩
          rw [nx, decide_eq_true (show x.1 ≤ 12 by omega), decide_eq_true (show x.2 ≤ 10 ^ 12 by omega), Bool.and_true, Bool.and_true]
    · rintro H1 ⟨vs, rfl, hlv, hem⟩
      refine ⟨Nat.zero_le _, fun l hl => ?_⟩
      have nDl : D ≠ l := ne_of_none upd_same hl
      refine ⟨D, l, vs, rfl, rfl, SqL.of ((upd_ne nDl).trans upd_same), SqL.of upd_same, ?_⟩
      rw [List.take_of_length_le (Nat.le_of_eq lt.symm)] at hem
      have e2 : lowB p = vs.isEmpty := by
        unfold lowB
        rw [decide_eq_true h20, hem]
        rfl
      rw [e2] at q
      exact q _ ((same_new hD _).trans (same_new hl _))
  · rw [decide_eq_false h20]
    have e2 : lowB p = false := by
      unfold lowB
      rw [decide_eq_false h20]
      rfl
    rw [e2] at q
    exact iteF (q _ (Same.refl _))
end
end Zk

set_option maxHeartbeats 4000000
/-! R0: a tuple turned round, t[::-1]. -/
namespace Zk
open PySem PySem.Spec PyProof.Rows L2 HT
section
variable {prog : Program} {w : World} {A : Around} {E : Value → Shared → Prop} {s : Shared}
theorem rev_places (n : Nat) : Builtin.Slice.slicePlaces ((n : Int) - 1) (-1) (-1) = n := by
  unfold Builtin.Slice.slicePlaces
  have h1 : ¬ ((-1 : Int) > 0) := by omega
  simp only [h1, if_false]
  have e : ((n : Int) - 1 - -1 - 1) / - -1 = (n : Int) - 1 := by
    rw [show (- -1 : Int) = 1 by decide, Int.ediv_one]
    omega
  split <;> omega
theorem rev_pick (xs : Array Value) : ((List.range xs.size).filterMap fun (m : Nat) => xs[(((xs.size : Int) - 1) + (m : Int) * (-1)).toNat]?).toArray = xs.toList.reverse.toArray := by
  congr 1
  refine List.ext_getElem? fun i => ?_
  have e : (List.range xs.size).filterMap (fun (m : Nat) => xs[(((xs.size : Int) - 1) + (m : Int) * (-1)).toNat]?) = (List.range xs.size).map fun m => xs.getD (xs.size - 1 - m) .none := by
    have key : ∀ l : List Nat, (∀ m ∈ l, m < xs.size) → l.filterMap (fun (m : Nat) => xs[(((xs.size : Int) - 1) + (m : Int) * (-1)).toNat]?) = l.map fun m => xs.getD (xs.size - 1 - m) .none := by
      intro l
      induction l with
      | nil => intro _; rfl
      | cons m r ih =>
        intro h
        have hm := h m List.mem_cons_self
        rw [List.filterMap_cons, List.map_cons, ih fun y hy => h y (List.mem_cons_of_mem _ hy)]
        have : (((xs.size : Int) - 1) + (m : Int) * (-1)).toNat = xs.size - 1 - m := by omega
        rw [this]
        simp [Array.getD, show xs.size - 1 - m < xs.size by omega]
    exact key _ fun m hm => List.mem_range.mp hm
  rw [e]
  by_cases h : i < xs.size
  · rw [List.getElem?_map, List.getElem?_range h, List.getElem?_reverse (by simpa using h)]
    simp [Array.getD, show xs.size - 1 - i < xs.size by omega]
  · rw [List.getElem?_eq_none (by simpa using h), List.getElem?_eq_none (by simpa using h)]
theorem sliceApplied_rev {sl : Addr} {vl vu vs : Value} {n : Nat} {Q : Int × Int × Nat → Shared → Prop} (hs : s.heap.IsSliceOf sl vl vu vs) (pl : IsPart vl none) (pu : IsPart vu none) (ps : IsPart vs (some (-1)))
    (h : Q ((n : Int) - 1, -1, n) s) : wpAny (model prog w) A (Builtin.Slice.sliceApplied (.ref sl) (pure (n : Int))) Q E s := by
  obtain ⟨os, hos, hcs, hds⟩ := id hs
  unfold Builtin.Slice.sliceApplied Builtin.Slice.sliceFields
  refine wpAny_bind (wpAny_bind (wpAny_field hos hds (x := vl) rfl (wpAny_bind (wpAny_field hos hds (x := vu) rfl (wpAny_bind (wpAny_field hos hds (x := vs) rfl (wpAny_pure ?_)))))))
  refine wpAny_bind (slicePart_ ps ?_)
  show wpAny _ _ (if ((-1 : Int) == 0) = true then _ else _) _ _ s
  rw [if_neg (by decide)]
  refine wpAny_bind (slicePart_ pl (wpAny_bind (slicePart_ pu (wpAny_bind (wpAny_pure ?_)))))
  show wpAny _ _ (match Builtin.Slice.sliceAdjust none none (-1) (n : Int) with | (lo, hi) => pure (lo, (-1 : Int), Builtin.Slice.slicePlaces lo hi (-1))) _ _ s
  show wpAny _ _ (pure ((n : Int) - 1, (-1 : Int), Builtin.Slice.slicePlaces ((n : Int) - 1) (-1) (-1))) _ _ s
  rw [rev_places]
  exact wpAny_pure h
theorem getItem_tuple_rev {t sl : Addr} {items : Array Value} {vl vu vs : Value} {Q : Value → Shared → Prop} (ht : IsTup s.heap t items) (hs : s.heap.IsSliceOf sl vl vu vs) (pl : IsPart vl none) (pu : IsPart vu none) (ps : IsPart vs (some (-1)))
    (h : Q (.ref s.heap.objs.size) { s with heap := s.heap.push { cls := .type "tuple", data := .seq items.toList.reverse.toArray } })
    (hsz : items.size ≤ sizeLine) : wpAny (model prog w) A (getItem (.ref t) (.ref sl)) Q E s := by
  have htake : sizeOk (.seq items.toList.reverse.toArray) := by
    show items.toList.reverse.toArray.size ≤ sizeLine
    rw [List.size_toArray, List.length_reverse, Array.length_toList]
    exact hsz
  obtain ⟨os, hos, hcs, hds⟩ := id hs
  have hTs : s.TypeIs (.ref sl) "slice" := ⟨os, hos, hcs⟩
  unfold getItem
  try with_reducible refine wpAny_holding ?_
  first | refine wpAny_bind (wpAny_pure ?_) | skip
  refine wpAny_bind (wpAny_sequenceKey ht.typeIs (by decide) ?_)
  refine wpAny_bind (wpAny_callSpecial?_slot (name := Str.ofString "__getitem__") ht.typeIs PyProof.Rows.slot_tuple_getitem
    (wpAny_call_entry PyProof.Rows.slot_tuple_getitem ht.typeIs entry_tuple_getitem ?_ (args_tuple_getitem _ _)))
  show wpAny _ _ (Builtin.Tuple.tupleItemsOf (.ref t) >>= _) _ _ s
  refine wpAny_bind (tupleItemsOf_ ht ?_)
  refine wpAny_bind (wpAny_typeOf hTs ?_)
  rw [if_pos (by decide)]
  refine wpAny_bind (sliceApplied_rev hs pl pu ps ?_)
  have hno : ¬ ((((items.size : Int) - 1) == 0 && (-1 : Int) == 1 && items.size == items.size) = true) := by
    rw [show ((-1 : Int) == 1) = false by decide]
    simp
  show wpAny _ _ (if (((items.size : Int) - 1) == 0 && (-1 : Int) == 1 && items.size == items.size) = true then _ else _) _ _ s
  rw [if_neg hno, rev_pick]
  first
    | exact wpAny_bind (m := Builtin.Tuple.tupleExact _) (wpAny_newObj_type (wpAny_pure ⟨_, rfl, wpAny_pure h⟩) htake)
    | exact wpAny_bind (m := Builtin.Tuple.tupleExact _) (wpAny_newObj_type (wpAny_bind (wpAny_pure (wpAny_pure ⟨_, rfl, wpAny_pure h⟩))) htake)
    | exact wpAny_bind (wpAny_bind (m := Builtin.Tuple.tupleExact _) (wpAny_newObj_type (wpAny_pure (wpAny_pure ⟨_, rfl, wpAny_pure h⟩)) htake))
    | exact wpAny_bind (wpAny_bind (m := Builtin.Tuple.tupleExact _) (wpAny_newObj_type (wpAny_pure ⟨_, rfl, wpAny_pure h⟩) htake))
end
section
variable {X : Cx}
def tRevT (K : PySem.W.Frag) (te : TE) : TE := fun σ H Q => te σ H fun x H1 => ∃ a xs, x = .ref a ∧ SqT K H1 a xs ∧ ∀ p, H1 p = none → Q (.ref p) (upd H1 p (.tup xs.reverse))
theorem pe_revT {e : Expr} {te : TE} {k : Nat} {p1 p2 p3 pos : Pos} (he : PE X e te) : PE X (.Subscript e (.Slice none none (some (.UnaryOp .USub (.Constant (.int 1) k p1) p2)) p3) pos) (tRevT X.K te) := by
  refine ⟨fun pins s σ H Q I h => ?_⟩
  refine Subscript_ (thn (he.run pins s σ H _ I h) fun v s1 ⟨x, H1, I1, r1, q1⟩ => ?_)
  obtain ⟨a, xs, ex, hx, q⟩ := q1
  subst ex
  cases r1
  have hst : PO X (some (.UnaryOp .USub (.Constant (.int 1) k p1) p2)) (tPart (tUn (rU fun i => .int (-i)) (tC (.int 1)))) := po_some (pe_un un_neg pe_int)
  refine wpAny_Slice (thn (po_none.run pins s1 σ H1 (fun o H2 => o = none ∧ H2 = H1) I1 ⟨rfl, rfl⟩) fun vl s2 ⟨l, H2, I2, pl, el, e2⟩ => ?_)
  subst el e2
  refine thn (po_none.run pins s2 σ H2 (fun o H3 => o = none ∧ H3 = H2) I2 ⟨rfl, rfl⟩) fun vu s3 ⟨u, H3, I3, pu, eu, e3⟩ => ?_
  subst eu e3
  refine thn (hst.run pins s3 σ H3 (fun o H4 => o = some (-1) ∧ H4 = H3) I3 ⟨1, rfl, -1, rfl, rfl, rfl⟩) fun vs s4 ⟨o, H4, I4, ps, eo, e4⟩ => ?_
  subst eo e4
  have I5 : Inv X pins σ H4 { s4 with heap := s4.heap.push { cls := .type "slice", data := .fields #[vl, vu, vs] } } := I4.kept (t' := s4.toks) fun b ob q => Heap.get?_push_of_some _ q
  obtain ⟨its, r, ht, hz⟩ := I5.tuple hx
  have hlen := r.length
  show wpAny (model X.prog X.w) X.A (subscriptTail e (.Slice none none (some (.UnaryOp .USub (.Constant (.int 1) k p1) p2)) p3) (.ref a) (.ref s4.heap.objs.size)) (EP X pins σ Q) X.xe { s4 with heap := s4.heap.push { cls := .type "slice", data := .fields #[vl, vu, vs] } }
  refine tail_any (ops := [.ref a, .ref s4.heap.objs.size]) ht.typeIs (PyProof.Rows.slot_tuple_getitem.lookup) ?_ (by with_unfolding_all rfl)
  refine getItem_tuple_rev ht (Heap.IsSliceOf.new _ vl vu vs) pl pu ps ?_ (by rw [List.size_toArray]; omega)
  refine ⟨.ref _, _, I5.laid (t' := s4.toks) (o := .tup xs.reverse) (fun b ob q => Heap.get?_push_of_some _ q) (Nat.le_refl _) ?_, rfl, q _ (I5.hok.fresh (Nat.le_refl _))⟩
  exact ⟨by rw [List.length_reverse]; exact hz, _, r.reverse, IsTup.new _ _⟩
end
end Zk

set_option maxHeartbeats 4000000
/-! Ka: a part exchanged; helpers of what is drawn. -/
namespace Zk
open PySem PySem.Spec PyProof.Rows L2 GxR
/-- new things beside the deck, the deck itself as it was -/
theorem deck_same {H0 H H' : Hp} {dk lf : Addr} {B : Nat} (h : DeckAt H0 H dk lf B) (s : Same H H') : ∃ H0', Grow dk lf H0 H H0' H' ∧ DeckAt H0' H' dk lf B ∧ ∀ x, H x = none → H0' x = H' x := by
  obtain ⟨od, ed⟩ := h.at_d
  obtain ⟨ol, el⟩ := h.at_l
  refine ⟨fun x => if (H x).isNone then H' x else H0 x, ⟨fun b o e => ?_, fun b o _ _ e => s _ _ e, fun b o e => ?_⟩, h.move (fun b o e => ?_) ?_ ?_ ((s _ _ ed).trans ed.symm) ((s _ _ el).trans el.symm), fun x e => ?_⟩
  · show (if (H b).isNone then H' b else H0 b) = some o
    rw [h.same _ _ e]
    exact e
  · show (if (H b).isNone then H' b else H0 b) = H0 b
    rw [e]
    rfl
  · have e : (if (H b).isNone then H' b else H0 b) = some o := e
    cases z : H b with
    | none => rwa [z] at e
    | some u =>
      rw [z] at e
      have e : H0 b = some o := e
      have := h.same _ _ e
      rw [z] at this
      cases this
      exact s _ _ z
  · show (if (H dk).isNone then H' dk else H0 dk) = none
    rw [ed]
    exact h.off
  · show (if (H lf).isNone then H' lf else H0 lf) = none
    rw [el]
    exact h.offl
  · show (if (H x).isNone then H' x else H0 x) = H' x
    rw [e]
    rfl
/-- data that stands still -/
theorem DeckAt.sd {H0 H : Hp} {dk lf : Addr} {B : Nat} (h : DeckAt H0 H dk lf B) {v : V} {d : PyData} (s : Sd H0 v d) : Sd H v d := s.same h.same
theorem SdL.set {H : Hp} : ∀ {vs : List V} {ds : List PyData} {i : Nat} {v : V} {d : PyData}, SdL H vs ds → Sd H v d → SdL H (vs.set i v) (ds.set i d)
  | _, _, _, _, _, .nil, _ => .nil
  | _, _, 0, _, _, .cons h t, s => .cons s t
  | _, _, i + 1, _, _, .cons h t, s => .cons h (SdL.set t s)
theorem SdL.take {H : Hp} : ∀ {vs : List V} {ds : List PyData} (i : Nat), SdL H vs ds → SdL H (vs.take i) (ds.take i)
  | _, _, i, .nil => by rw [List.take_nil, List.take_nil]; exact .nil
  | _, _, 0, .cons h t => .nil
  | _, _, i + 1, .cons h t => .cons h (SdL.take i t)
theorem SdL.drop {H : Hp} : ∀ {vs : List V} {ds : List PyData} (i : Nat), SdL H vs ds → SdL H (vs.drop i) (ds.drop i)
  | _, _, i, .nil => by rw [List.drop_nil, List.drop_nil]; exact .nil
  | _, _, 0, .cons h t => .cons h t
  | _, _, i + 1, .cons h t => SdL.drop i t
theorem SdL.rev {H : Hp} : ∀ {vs : List V} {ds : List PyData}, SdL H vs ds → SdL H vs.reverse ds.reverse
  | _, _, .nil => .nil
  | _, _, .cons h t => by rw [List.reverse_cons, List.reverse_cons]; exact (SdL.rev t).app (.cons h .nil)
/-- _law_instead(some, at, item) -/
def spInst : Sp := fun vs H Q _ => ∃ (a : Addr) (xs : List V) (i : Nat) (x : V), vs = [.ref a, .int (i : Int), x] ∧ H a = some (.tup xs) ∧ i < xs.length ∧ xs.length ≤ 1000 ∧ ∀ H' b, Same H H' → H b = none → H' b = some (.tup (xs.set i x)) → Q (.ref b) H'
theorem set_cut {xs : List V} {i : Nat} {x : V} (h : i < xs.length) : xs.set i x = xs.take i ++ [x] ++ xs.drop (i + 1) := by
  rw [List.set_eq_take_append_cons_drop, if_pos h, List.append_assoc]
  rfl
section
variable {P : Program} {w : World} {K : PySem.W.Frag} {mg : Str → Option Value} {base : Heap} {f : Addr} {fd : FuncData}
end
end Zk

set_option maxHeartbeats 4000000
/-! Kb: _law_bent. -/
namespace Zk
open PySem PySem.Spec PyProof.Rows L2 GxR
theorem ofString_small (s : String) : ∀ c ∈ (Str.ofString s).cps.toList, c < 16 ^ 8 := by
  have e : (Str.ofString s).cps.toList = s.toList.map Char.toNat := by
    rw [PySem.Str.ofString_eq_toList]
  rw [e]
  intro c hc
  obtain ⟨x, _, rfl⟩ := List.mem_map.mp hc
  have h := x.valid
  have : x.toNat < 0x110000 := by
    show x.val.toNat < 0x110000
    rcases h with h | ⟨_, h⟩
    · exact Nat.lt_trans h (by decide)
    · exact h
  omega
/-- numbers, and tuples of at most 12 of the level before -/
def Bs : Nat → PyData → Prop
  | 0, d => ∃ i : Int, d = .int i ∧ i.natAbs < 2 ^ 50
  | n + 1, d => ∃ ds, d = .tuple ds ∧ ds.length ≤ 10 ∧ ∀ e ∈ ds, Bs n e
def bl : Nat → Nat
  | 0 => 1921
  | n + 1 => 10 * (bl n + 2) + 2
def rb : Nat → Nat
  | 0 => 132000
  | n + 1 => 2 * bl (n + 1) + rb n + 132000
/-- what may come of a value of that level -/
def RF (n : Nat) (d : PyData) : Prop := Fine (n + 6) (rb n) d ∧ Lens d
theorem log_small {i : Int} (h : i.natAbs < 2 ^ 51) : i.natAbs.log2 < 1920 := by
  by_cases z : i.natAbs = 0
  · rw [z]; decide
  · exact Nat.lt_of_lt_of_le ((Nat.log2_lt z).mpr h) (by decide)
theorem bs_fine : ∀ {n : Nat} {d : PyData}, Bs n d → Fine n (bl n) d
  | 0, d, ⟨i, e, h⟩ => by
    subst e
    exact fine_int (log_small (by omega))
  | n + 1, d, ⟨ds, e, h, k⟩ => by
    subst e
    refine (fine_tup fun d hd => bs_fine (k d hd)).mono (Nat.le_refl _) ?_
    have : ds.length * (bl n + 2) ≤ 10 * (bl n + 2) := Nat.mul_le_mul_right _ h
    show _ ≤ 10 * (bl n + 2) + 2
    omega
theorem bl_pos (n : Nat) : 1921 ≤ bl n := by
  cases n with
  | zero => exact Nat.le_refl _
  | succ n => show _ ≤ 10 * (bl n + 2) + 2; have := bl_pos n; omega
theorem rb_pos (n : Nat) : 132000 ≤ rb n := by
  cases n with
  | zero => exact Nat.le_refl _
  | succ n => show _ ≤ 2 * bl (n + 1) + rb n + 132000; omega
theorem rb_bl (n : Nat) : 2 * bl n ≤ rb n := by
  cases n with
  | zero => decide
  | succ n => show _ ≤ 2 * bl (n + 1) + rb n + 132000; omega
theorem any_rf {n : Nat} {d : PyData} (h : AnyFine 2 d) : RF n d := by
  have : anyLen 2 = 130024 := by decide
  have := rb_pos n
  exact ⟨h.1.mono (by omega) (by omega), h.2⟩
theorem shownAll_set {d : PyData} {b c : Nat} : ∀ {ds : List PyData} {i : Nat}, (∀ e ∈ ds, e.shown.length ≤ b) → d.shown.length ≤ c → piled (PyData.shownAll (ds.set i d)) ≤ ds.length * (b + 2) + c + 2
  | [], _, _, _ => by simp [PyData.shownAll, piled_nil]
  | e :: r, 0, h, k => by
    have h2 := piled_le (ts := PyData.shownAll r) (n := b) fun t ht => by
      obtain ⟨d, hd, e⟩ := shownAll_mem ht
      exact e ▸ h d (List.mem_cons_of_mem _ hd)
    rw [shownAll_len] at h2
    simp only [List.set_cons_zero, PyData.shownAll, piled_cons, List.length_cons, Nat.succ_mul]
    omega
  | e :: r, i + 1, h, k => by
    have h1 := h e List.mem_cons_self
    have h2 := shownAll_set (ds := r) (i := i) (fun u hu => h u (List.mem_cons_of_mem _ hu)) k
    simp only [List.set_cons_succ, PyData.shownAll, piled_cons, List.length_cons, Nat.succ_mul]
    omega
theorem mem_set {ds : List PyData} {i : Nat} {d e : PyData} (h : e ∈ ds.set i d) : e ∈ ds ∨ e = d := List.mem_or_eq_of_mem_set h
theorem fine_set {a b c : Nat} {ds : List PyData} {i : Nat} {d : PyData} (h : ∀ e ∈ ds, Fine a b e) (k : Fine a c d) : Fine (a + 1) (ds.length * (b + 2) + c + 4) (.tuple (ds.set i d)) where
  able := by
    simp only [PyData.showable]
    refine showAll_of fun e he => ?_
    rcases mem_set he with he | rfl
    · exact (h e he).able
    · exact k.able
  deep := by
    have := depthAll_of (n := a) (ds := ds.set i d) fun e he => by
      rcases mem_set he with he | rfl
      · exact (h e he).deep
      · exact k.deep
    simp only [PyData.depth]
    omega
  long := by
    have h1 := tuple_len (PyData.shownAll (ds.set i d))
    have h2 := shownAll_set (ds := ds) (i := i) (b := b) (c := c) (d := d) (fun e he => (h e he).long) k.long
    simp only [PyData.shown]
    omega
/-- a tuple with one part that has been bent -/
theorem rf_set {n i : Nat} {ds : List PyData} {d : PyData} (h : Bs (n + 1) (.tuple ds)) (k : RF n d) : RF (n + 1) (.tuple (ds.set i d)) := by
  obtain ⟨ds', e, hl, hb⟩ := h
  cases e
  refine ⟨(fine_set (i := i) (fun e he => (bs_fine (hb e he)).mono (show n ≤ n + 6 by omega) (Nat.le_refl _)) k.1).mono (by omega) ?_, lens_tup (by rw [List.length_set]; omega)⟩
  have : ds.length * (bl n + 2) ≤ 10 * (bl n + 2) := Nat.mul_le_mul_right _ hl
  show _ ≤ 2 * (10 * (bl n + 2) + 2) + rb n + 132000
  omega
/-- tuples and lists of a few such parts -/
theorem rf_few {n : Nat} {ds es : List PyData} (h : Bs (n + 1) (.tuple ds)) (hs : ∀ e ∈ es, e ∈ ds ∨ Fine 1 9 e) (hl : es.length ≤ 20) : RF (n + 1) (.tuple es) ∧ RF (n + 1) (.list es) := by
  obtain ⟨ds', e, _, hb⟩ := h
  cases e
  have hf : ∀ e ∈ es, Fine (n + 1) (bl n) e := fun e he => by
    rcases hs e he with h | h
    · exact (bs_fine (hb e h)).mono (by omega) (Nat.le_refl _)
    · exact h.mono (by omega) (by have := bl_pos n; omega)
  have hz : es.length * (bl n + 2) + 2 ≤ rb (n + 1) := by
    have : es.length * (bl n + 2) ≤ 20 * (bl n + 2) := Nat.mul_le_mul_right _ hl
    show _ ≤ 2 * (10 * (bl n + 2) + 2) + rb n + 132000
    omega
  exact ⟨⟨(fine_tup hf).mono (by omega) hz, lens_tup (by omega)⟩, ⟨(fine_list hf).mono (by omega) hz, lens_of (fun _ e => nomatch e) fun _ e => nomatch e⟩⟩
theorem rf_self {n : Nat} {d : PyData} (h : Bs n d) (hl : Lens d) : RF n d := ⟨(bs_fine h).mono (by omega) (by have := rb_bl n; omega), hl⟩
theorem bs_lens : ∀ {n : Nat} {d : PyData}, Bs n d → Lens d
  | 0, d, ⟨i, e, _⟩ => by subst e; exact lens_of (fun _ e => nomatch e) fun _ e => nomatch e
  | n + 1, d, ⟨ds, e, h, _⟩ => by subst e; exact lens_tup (by omega)
theorem rf_one {n : Nat} {d : PyData} (h : Bs n d) : RF n (.tuple [d]) ∧ RF n (.list [d]) := by
  have f := bs_fine h
  have k : ∀ e ∈ [d], Fine n (bl n) e := fun e he => by rw [List.mem_singleton.mp he]; exact f
  have p := rb_bl n
  have q := bl_pos n
  exact ⟨⟨(fine_tup k).mono (by omega) (by show 1 * (bl n + 2) + 2 ≤ _; omega), lens_tup (by show 1 ≤ 500; decide)⟩, ⟨(fine_list k).mono (by omega) (by show 1 * (bl n + 2) + 2 ≤ _; omega), lens_of (fun _ e => nomatch e) fun _ e => nomatch e⟩⟩
/-- _law_bent(deck, thing, deep), deep at most k -/
def spBent (k : Nat) : Sp := fun vs H Q _ => ∃ (H0 : Hp) (dk lf : Addr) (B m n : Nat) (v : V) (d : PyData), vs = [.ref dk, v, .int (m : Int)] ∧ m ≤ k ∧ DeckAt H0 H dk lf B ∧ B + 40 * (k + 1) < 2 ^ 59 ∧ Sd H0 v d ∧ Bs n d ∧
  ∀ v' d' H0' H', Grow dk lf H0 H H0' H' → DeckAt H0' H' dk lf (B + 40 * (k + 1)) → Sd H0' v' d' → RF n d' → Q v' H'
theorem sd_tup {H : Hp} {v : V} {ds : List PyData} (h : Sd H v (.tuple ds)) : ∃ a xs, v = .ref a ∧ H a = some (.tup xs) ∧ SdL H xs ds := by
  cases h with
  | @tup a xs _ ha hs => exact ⟨a, xs, rfl, ha, hs⟩
theorem fine_i0 : Fine 1 9 (.int 0) := ⟨by simp [PyData.showable], by simp [PyData.depth], by simp only [PyData.shown]; decide +kernel⟩
theorem any_cost2 : anyCost 2 = 30 := by decide
theorem fine_i1 : Fine 1 9 (.int 1) := ⟨by simp only [PyData.showable]; decide, by simp [PyData.depth], by simp only [PyData.shown]; decide +kernel⟩
/-- .. and then what the way on comes to -/
theorem if_to {c : TT} {t1 t2 ts : TS} {D : Ends} {σ : List (Option V)} {H : Hp} (I : List (Option V) → Hp → Prop) (h1 : ∀ σ H, I σ H → t1 { D with nx := ts D } σ H) (h : (∀ σ H, I σ H → t1 { D with nx := ts D } σ H) → tSeq (tIfS c t1 t2) ts D σ H) : tSeq (tIfS c t1 t2) ts D σ H := h h1
section
variable {P : Program} {w : World} {K : PySem.W.Frag} {mg : Str → Option Value} {base : Heap} {f : Addr} {fd : FuncData}
end
end Zk

set_option maxHeartbeats 4000000
/-! Kc: _law_drawn_poly. (written by genKc.py) -/
namespace Zk
open PySem PySem.Spec PyProof.Rows L2 GxR
abbrev sDPoly : Stmt := top 25
/-- _law_drawn_poly(deck, many, most) -/
def spDPoly : Sp := fun vs H Q _ => ∃ (H0 : Hp) (dk lf : Addr) (B many most : Nat), vs = [.ref dk, .int (many : Int), .int (most : Int)] ∧ many ≤ 8 ∧ most ≤ 12 ∧ DeckAt H0 H dk lf B ∧ B + 40 < 2 ^ 59 ∧
  ∀ a p H0' H', Grow dk lf H0 H H0' H' → DeckAt H0' H' dk lf (B + 40) → PolyAt H0' a p → Good (most : Int) (10 ^ 12) p → p.length ≤ many → Q (.ref a) H'
theorem PT.move {H H' : Hp} : ∀ {ts : List V} {p : List IQ}, (∀ t, V.ref t ∈ ts → H' t = H t) → PT H ts p → PT H' ts p
  | _, _, _, .nil => .nil
  | _, _, h, .cons ⟨t, e1, e2⟩ r => .cons ⟨t, e1, (h t (by rw [e1]; exact List.mem_cons_self)).trans e2⟩ (PT.move (fun u hu => h u (List.mem_cons_of_mem _ hu)) r)
section
variable {P : Program} {w : World} {K : PySem.W.Frag} {mg : Str → Option Value} {base : Heap} {f : Addr} {fd : FuncData}
theorem scDPoly : FnScope ["deck", "many", "most", "found", "turn", "e"] ["deck", "many", "most"] (defScope sDPoly) := ⟨rfl, rfl, rfl, by decide +kernel, rfl, by decide +kernel, by decide +kernel⟩
theorem ok_dpoly (F : Fun K "_law_drawn_poly" "_law_drawn_poly" sDPoly f fd) (T : Blt2 mg) (C1 : Call1 P w K mg base "_law_draw" 1 ["deck", "many"] spDraw) (C2 : Call1 P w K mg base "_law_pick" 2 ["deck", "some"] spPick) : FnOk P w K mg base CX0 3 f fd ["deck", "many", "most"] spDPoly := by
  obtain ⟨f1, d1, G1, b1, k1, m1⟩ := C1.ex
  obtain ⟨f2, d2, G2, b2, k2, m2⟩ := C2.ex
  refine F.ok scDPoly (fun vs H Q E h => ?_) (fun cdv A outer s H vs Q E hr h => ?_)
  · obtain ⟨H0, dk, lf, B, many, most, rfl, _⟩ := h
    rfl
  obtain ⟨H0, dk, lf, B, many, most, rfl, hm, hmo, hK, hB, q⟩ := h
  have hr1 : Room 1 _ := hr.mono (by omega)
  have hr2 : Room 2 _ := hr.mono (by omega)
  have hu := hu_of hr
  refine ⟨_, pss_cons (ps_set (i := 3) scDPoly.nd rfl (Or.inr rfl) pe_dnewK)
    (pss_cons (ps_for PassesOwn.never rfl (pi_range1 (by rfl) T.range (pa_cons (pe_call G1 hr1 rfl m1 k1 b1 .nil pass0 (pa_cons (pv 0) (pa_cons (pe_op op_add (pv 1) pe_int) pa_nil))) pa_nil)) (pg_name (i := 4) scDPoly.nd rfl (Or.inl rfl))
      (pss_one (ps_dput hu (pv 3) (pe_call G1 hr1 rfl m1 k1 b1 .nil pass0 (pa_cons (pv 0) (pa_cons (pe_op op_add (pv 2) pe_int) pa_nil)))
        (pe_call G2 hr2 rfl m2 k2 b2 .nil pass0 (pa_cons (pv 0) (pa_cons (pe_lst (pa_cons pe_int (pa_cons pe_int (pa_cons pe_int (pa_cons pe_int (pa_cons pe_int (pa_cons (pe_op op_add pe_int (pe_call G1 hr1 rfl m1 k1 b1 .nil pass0 (pa_cons (pv 0) (pa_cons pe_int pa_nil))))
          (pa_cons (pe_op op_add pe_int (pe_call G1 hr1 rfl m1 k1 b1 .nil pass0 (pa_cons (pv 0) (pa_cons (pe_op op_pow pe_int pe_int) pa_nil)))) pa_nil)))))))) pa_nil))) rfl)))
    (pss_one (ps_ret (pe_callTy call_tuple_of (by rfl) T.tuple (by decide +kernel) (pa_cons (pe_lc (own := [("e", 5)]) (g := gName 5) (tt := tYes) rfl scDPoly.nd (pi_list (pe_callB (call_sortedDI rfl) (by rfl) T.sorted (by decide +kernel) (pa_cons (pv 3) pa_nil)))
      (blkOk_by (N := ["deck", "many", "most", "found", "turn", "e"]) (sc := defScope sDPoly) (by decide +kernel)) (fun _ _ _ _ _ => pg_name (i := 5) scDPoly.nd rfl (Or.inl rfl)) (fun _ _ _ _ _ => pts_nil)
      (fun _ _ _ _ _ => pe_tup (pa_cons (pv 5) (pa_cons (pe_dget hu (pv 3) (pv 5) (fun _ _ => rfl)) pa_nil)))) pa_nil))))), ?_⟩
  intro dd hd
  have ndd := hK.ned hd
  have nld := hK.nel hd
  have D0 := hK.drop hd (o := .dK [])
  have G0 : Grow dk lf H0 H H0 (upd H dd (.dK [])) := Grow.drop hd
  refine ⟨_, rfl, _, rfl, _, _, rfl, rfl, H0, dk, lf, B, (many : Int) + 1, rfl, D0, by omega, by omega, by omega, fun r H1 r0 r1 g1 D1 => ⟨r, rfl, by omega, by omega, ?_⟩⟩
  have gA := G0.trans hK D0 g1
  have e1 : H1 dd = some (.dK (dI [])) := g1.frame _ _ ndd.symm nld.symm upd_same
  refine for_range (lo := 0) (n := r.toNat) (fun i σ H' => ∃ (H0i : Hp) (d : List IQ) (u : Option V), σ = [some (.ref dk), some (.int (many : Int)), some (.int (most : Int)), some (.ref dd), u, none] ∧ Grow dk lf H0 H H0i H' ∧ DeckAt H0i H' dk lf (B + 1 + 4 * i) ∧ H' dd = some (.dK (dI d)) ∧ H0i dd = none ∧
      (d.map (·.1)).Nodup ∧ (∀ x ∈ d, 0 ≤ x.1 ∧ x.1 ≤ most ∧ 1 ≤ x.2 ∧ x.2 ≤ 10 ^ 12) ∧ d.length ≤ i) ⟨H0, [], none, rfl, gA, D1, e1, hK.free hd, List.nodup_nil, fun x hx => absurd hx List.not_mem_nil, Nat.le_refl _⟩ ?_ ?_
  · rintro i σ H' hi ⟨H0i, d, u, rfl, g, DK, ed, e0, nd, hall, hlen⟩
    have hi8 : i ≤ 8 := by omega
    refine ⟨_, rfl, _, rfl, H0i, dk, lf, B + 1 + 4 * i, 30, rfl, DK, by omega, by decide, by decide, fun x1 Ha xa0 xa1 ga Da => ⟨_, _, rfl, rfl, _, rfl, 10, 12, rfl, rfl, ⟨by decide, by decide, by decide⟩, H0i, dk, lf, B + 1 + 4 * i + 1, 10 ^ 12, rfl, Da, by omega, by decide, by decide, fun x2 Hb xb0 xb1 gb Db => ⟨_, _, rfl, rfl, (by show 7 ≤ sizeLine; decide), fun l hl => ?_⟩⟩⟩
    have hdd : ∀ {Hx Hy : Hp}, Grow dk lf H0i Hx H0i Hy → Hx dd = some (.dK (dI d)) → Hy dd = some (.dK (dI d)) := fun gx e => gx.frame _ _ ndd.symm nld.symm e
    have eb := hdd gb (hdd ga ed)
    have gl := Grow.drop (dk := dk) (lf := lf) (H0 := H0i) hl (o := .lst [.int 1, .int 1, .int 2, .int 3, .int 10, .int (1 + x1), .int (1 + x2)])
    have Dl := Db.drop hl (o := .lst [.int 1, .int 1, .int 2, .int 3, .int 10, .int (1 + x1), .int (1 + x2)])
    refine ⟨H0i, dk, lf, l, B + 1 + 4 * i + 1 + 1, _, rfl, Dl, by omega, upd_same, (Db.ned hl).symm, (Db.nel hl).symm, (by show 0 < 7; decide), (by show 7 < 2 ^ 59; decide), fun v Hc hv gc Dc => ?_⟩
    have ndl : dd ≠ l := ne_of_none eb hl
    have ec := hdd gc ((upd_ne ndl).trans eb)
    have hv' : ∃ c : Int, v = .int c ∧ 1 ≤ c ∧ c ≤ 10 ^ 12 := by
      have : (10 : Int) ^ 12 = 1000000000000 := by decide
      rw [this] at xb1 ⊢
      simp only [List.mem_cons, List.not_mem_nil, or_false] at hv
      rcases hv with rfl | rfl | rfl | rfl | rfl | rfl | rfl <;> exact ⟨_, rfl, by omega, by omega⟩
    obtain ⟨c, rfl, c1, c2⟩ := hv'
    refine ⟨_, rfl, _, rfl, _, rfl, _, _, rfl, rfl, H0i, dk, lf, B + 1 + 4 * i + 1 + 1 + 1, (most : Int) + 1, rfl, Dc, by omega, by omega, by omega, fun y Hd y0 y1 gd Dd => ?_⟩
    have ee := hdd gd ec
    refine ⟨dd, _, rfl, DPut.k (k := Sum.inl y) ee (sl_lt (by unfold dI; rw [List.length_map]; omega)), ?_⟩
    rw [putK_dI]
    have gAll := ((((g.trans hK DK ga).trans hK Da gb).trans hK Db gl).trans hK Dl gc).trans hK Dc gd
    refine ⟨H0i, setK d y c, _, rfl, gAll.upd' hd, (Dd.change e0 ndd nld).mono (by omega), upd_same, e0, setK_nodup nd, fun x hx => ?_, Nat.le_trans (setK_len d y c) (by omega)⟩
    rcases setK_mem hx with rfl | hx
    · exact ⟨y0, by omega, c1, c2⟩
    · exact hall x hx
  · rintro σ H' ⟨H0i, d, u, rfl, g, DK, ed, e0, nd, hall, hlen⟩
    have ld : d.length < 64 := by omega
    have ks : (dI d).map (·.1) = (d.map (·.1)).map Sum.inl := by
      unfold dI
      rw [List.map_map, List.map_map]
      rfl
    refine ⟨_, rfl, _, _, d.map (·.1), rfl, .inl ed, ks, by rw [List.length_map]; exact ld, fun ys v hp hs hv => ?_⟩
    have nod : ys.Nodup := hp.nodup_iff.mpr nd
    have av := ne_of_none ed hv
    have keys : ∀ e ∈ ys, getK d e = some ((getK d e).getD 0) := fun e he => by
      cases z : getK d e with
      | none => exact absurd (hp.mem_iff.mp he) (getK_none z)
      | some _ => rfl
    refine ⟨v, rfl, ⟨_, SqL.of upd_same⟩, fun D hD => lc_list (K := K) (xs := ys.map V.int) (fun i H1 => ∃ ts, H1 D = some (.lst ts) ∧ PT H1 ts ((ys.take i).map fun e => (e, (getK d e).getD 0)) ∧ (∀ b o, upd H' v (.lst (ys.map V.int)) b = some o → H1 b = some o) ∧ ∀ t, V.ref t ∈ ts → H' t = none)
      ⟨[], upd_same, .nil, same_new hD _, fun t ht => absurd ht List.not_mem_nil⟩ (fun i H1 _ ⟨_, _, _, old, _⟩ => SqL.of (old _ _ upd_same)) ?_ ?_⟩
    · rintro i x H1 hx ⟨ts, e1, e2, old, fr⟩
      have hi : i < ys.length := by
        have := (List.getElem?_eq_some_iff.mp hx).1
        rwa [List.length_map] at this
      have hy : ys[i]? = some ys[i] := List.getElem?_eq_getElem hi
      rw [List.getElem?_map, hy] at hx
      obtain rfl : V.int ys[i] = x := Option.some.inj hx
      generalize ys[i] = e at hy
      refine ⟨rfl, ?_⟩
      dsimp only [tYes]
      refine iteT ?_
      have g := DGet.k (k := Sum.inl e) (old _ _ ((upd_ne av).trans ed))
      rw [valV_dI, keys e (List.mem_of_getElem? hy)] at g
      refine ⟨_, rfl, _, rfl, _, rfl, _, _, rfl, g, ?_⟩
      refine ⟨by show 2 ≤ sizeLine; decide, fun w hw => ?_⟩
      have nD : D ≠ w := ne_of_none e1 hw
      have lts := PT.len e2
      rw [List.length_map, List.length_take] at lts
      have hlen := hp.length_eq
      rw [List.length_map] at hlen
      refine ⟨ts, (upd_ne nD).trans e1, sl_lt (by have := ld; omega), ts ++ [.ref w], upd_same, ?_, fun b o hb => ?_, fun t ht => ?_⟩
      · rw [List.take_add_one, hy, List.map_append]
        refine PT.app (Paired.mapP e2 fun v z ⟨t, h1, h2⟩ => ⟨t, h1, ?_⟩) (.cons ⟨w, rfl, by rw [upd_ne nD.symm, upd_same]⟩ .nil)
        rw [upd_ne (ne_of h2 e1 fun z => nomatch z)]
        exact same_new hw _ _ _ h2
      · rw [upd_ne (ne_of_none hb hD)]
        exact same_new hw _ _ _ (old _ _ hb)
      · rcases List.mem_append.mp ht with ht | ht
        · exact fr t ht
        · cases List.mem_singleton.mp ht
          exact Same.free (fun c o hc => old _ _ (same_new hv _ _ _ hc) : Same H' H1) hw
    · rintro H1 ⟨ts, e1, e2, old, fr⟩
      rw [List.length_map, List.take_of_length_le (Nat.le_refl _)] at e2
      refine ⟨D, ts, rfl, .inl ⟨SqL.of e1, fun b hb => ?_⟩⟩
      have asc : Asc (ys.map fun e => (e, (getK d e).getD 0)) := List.pairwise_map.mpr ((hs.and nod).imp fun q => by
        obtain ⟨q1, q2⟩ := q
        omega)
      have perm : (ys.map fun e => (e, (getK d e).getD 0)).Perm d := by
        have e0 : (d.map (·.1)).map (fun e => (e, (getK d e).getD 0)) = d := by
          rw [List.map_map]
          conv => rhs; rw [← List.map_id d]
          refine List.map_congr_left fun x hx => ?_
          show (x.1, (getK d x.1).getD 0) = x
          cases z : getK d x.1 with
          | none => exact absurd (List.mem_map.mpr ⟨x, hx, rfl⟩) (getK_none z)
          | some c => rw [show x = (x.1, x.2) from rfl, nodup_eq nd (getK_some z) hx]; rfl
        have := hp.map fun e => (e, (getK d e).getD 0)
        rw [e0] at this
        exact this
      have sF : Same H' (upd H1 b (.tup ts)) := fun c o hc => same_new hb _ _ _ (old _ _ (same_new hv _ _ _ hc))
      have pF : PolyAt (upd H1 b (.tup ts)) b (ys.map fun e => (e, (getK d e).getD 0)) := ⟨ts, upd_same, PT.sm (Same.sm (same_new hb _)) e2⟩
      obtain ⟨H0a, ga, Da, na⟩ := deck_same DK sF
      have fb : H' b = none := Same.free (fun c o hc => old _ _ (same_new hv _ _ _ hc) : Same H' H1) hb
      have pA : PolyAt H0a b (ys.map fun e => (e, (getK d e).getD 0)) := ⟨ts, by rw [na _ fb, upd_same], PT.move (fun t ht => na _ (fr t ht)) (PT.sm (Same.sm (same_new hb _)) e2)⟩
      refine q b _ H0a _ (g.trans hK DK ga) (Da.mono (by omega)) pA ⟨asc, fun x hx => ?_⟩ ?_
      · exact hall x (perm.mem_iff.mp hx)
      · rw [perm.length_eq]
        omega
end
end Zk

set_option maxHeartbeats 4000000
/-! Kd: _law_spoilt. -/
namespace Zk
open PySem PySem.Spec PyProof.Rows L2 GxR
/-- _law_spoilt(deck, thing), thing at most of level n -/
def spSpo (n : Nat) : Sp := fun vs H Q _ => ∃ (H0 : Hp) (dk lf : Addr) (B m : Nat) (v : V) (d : PyData), vs = [.ref dk, v] ∧ m ≤ n ∧ DeckAt H0 H dk lf B ∧ B + 100 * (n + 1) < 2 ^ 59 ∧ Sd H0 v d ∧ Bs m d ∧
  ∀ v' d' H0' H', Grow dk lf H0 H H0' H' → DeckAt H0' H' dk lf (B + 100 * (n + 1)) → Sd H0' v' d' → RF m d' → Q v' H'
section
variable {P : Program} {w : World} {K : PySem.W.Frag} {mg : Str → Option Value} {base : Heap} {f : Addr} {fd : FuncData}
end
end Zk

set_option maxHeartbeats 4000000
/-! Ke: expressions that make data; _law_near. -/
namespace Zk
open PySem PySem.Spec PyProof.Rows L2 GxR
/-- what stands of H2: of H what stands in H0, and all that is new since -/
def mix (H0 H H2 : Hp) : Hp := fun x => if (H x).isNone then H2 x else H0 x
section
variable {H0 H H2 H3 : Hp} {dk lf : Addr} {B : Nat}
theorem mix_new {x : Addr} (h : H x = none) : mix H0 H H2 x = H2 x := by
  unfold mix
  rw [h]
  rfl
theorem mix_old {x : Addr} {o : HO} (h : H x = some o) : mix H0 H H2 x = H0 x := by
  unfold mix
  rw [h]
  rfl
theorem mix_same (s : Same H2 H3) : Same (mix H0 H H2) (mix H0 H H3) := fun b o e => by
  cases z : H b with
  | none =>
    rw [mix_new z] at e ⊢
    exact s _ _ e
  | some u => rwa [mix_old z] at e ⊢
theorem mix_low (h : Same H0 H) : Same H0 (mix H0 H H2) := fun b o e => by rw [mix_old (h _ _ e)]; exact e
theorem mix_up (h : Same H0 H) (s : Same H H2) : Same (mix H0 H H2) H2 := fun b o e => by
  cases z : H b with
  | none => rwa [mix_new z] at e
  | some u =>
    rw [mix_old z] at e
    exact s _ _ (h _ _ e)
theorem mix_deck (h : DeckAt H0 H dk lf B) (s : Same H H2) : Grow dk lf H0 H (mix H0 H H2) H2 ∧ DeckAt (mix H0 H H2) H2 dk lf B := by
  obtain ⟨od, ed⟩ := h.at_d
  obtain ⟨ol, el⟩ := h.at_l
  exact ⟨⟨mix_low h.same, fun b o _ _ e => s _ _ e, fun b o e => mix_old e⟩, h.move (mix_up h.same s) ((mix_old ed).trans h.off) ((mix_old el).trans h.offl) ((s _ _ ed).trans ed.symm) ((s _ _ el).trans el.symm)⟩
end
/-- the expression makes this data -/
def Ev (H0 H : Hp) (σ : List (Option V)) (t : TE) (d : PyData) : Prop := ∀ H1 Q, Same H H1 → (∀ v H2, Same H1 H2 → Sd (mix H0 H H2) v d → Q v H2) → t σ H1 Q
def EvA (H0 H : Hp) (σ : List (Option V)) (t : TA) (ds : List PyData) : Prop := ∀ H1 Q, Same H H1 → (∀ vs H2, Same H1 H2 → SdL (mix H0 H H2) vs ds → Q vs H2) → t σ H1 Q
section
variable {H0 H : Hp} {σ : List (Option V)} {t u : TE} {ta : TA} {d e : PyData} {ds es : List PyData} {K : PySem.W.Frag}
theorem ev_var {i : Nat} {v : V} (h : Same H0 H) (e : σ[i]? = some (some v)) (s : Sd H0 v d) : Ev H0 H σ (tVar i) d := fun H1 Q sH k => ⟨v, e, k v H1 (Same.refl _) (s.same (mix_low h))⟩
theorem ev_int (i : Int) : Ev H0 H σ (tC (.int i)) (.int i) := fun H1 Q sH k => k _ H1 (Same.refl _) (.int i)
theorem ev_neg (i : Int) : Ev H0 H σ (tUn (rU fun i => V.int (-i)) (tC (.int i))) (.int (-i)) := fun H1 Q sH k => ⟨_, rfl, k _ H1 (Same.refl _) (.int _)⟩
theorem ev_bl (b : Bool) : Ev H0 H σ (tC (.bl b)) (.bool b) := fun H1 Q sH k => k _ H1 (Same.refl _) (.bl b)
theorem ev_str (x : Str) : Ev H0 H σ (tC (.str x)) (.str x) := fun H1 Q sH k => k _ H1 (Same.refl _) (.str x)
theorem ev_non : Ev H0 H σ (tC .non) .none := fun H1 Q sH k => k _ H1 (Same.refl _) .non
theorem eva_nil : EvA H0 H σ tNil [] := fun H1 Q sH k => k _ H1 (Same.refl _) .nil
theorem eva_cons (h : Ev H0 H σ t d) (hr : EvA H0 H σ ta ds) : EvA H0 H σ (tCons t ta) (d :: ds) := fun H1 Q sH k => h H1 _ sH fun v H2 s2 sd => hr H2 _ (sH.trans s2) fun vs H3 s3 sds => k _ H3 (s2.trans s3) (.cons (sd.same (mix_same s3)) sds)
theorem ev_tup (h : EvA H0 H σ ta ds) (hl : ds.length ≤ 1000) : Ev H0 H σ (tTup ta) (.tuple ds) := fun H1 Q sH k => h H1 _ sH fun vs H2 s2 sds => ⟨by rw [sds.len]; exact sl_small (by omega), fun p hp =>
  k _ _ (s2.trans (same_new hp _)) (.tup (by rw [mix_new ((sH.trans s2).free hp), upd_same]) (sds.same (mix_same (same_new hp _))))⟩
theorem ev_lst (h : EvA H0 H σ ta ds) (hl : ds.length ≤ 1000) : Ev H0 H σ (tLst ta) (.list ds) := fun H1 Q sH k => h H1 _ sH fun vs H2 s2 sds => ⟨by rw [sds.len]; exact sl_small (by omega), fun p hp =>
  k _ _ (s2.trans (same_new hp _)) (.lst (by rw [mix_new ((sH.trans s2).free hp), upd_same]) (sds.same (mix_same (same_new hp _))))⟩
theorem ev_cat (h0 : Same H0 H) (h : Ev H0 H σ t (.tuple ds)) (h' : Ev H0 H σ u (.tuple es)) (hl : ds.length ≤ 1000) (hl2 : es.length ≤ 1000) : Ev H0 H σ (tOp (rCatA K) t u) (.tuple (ds ++ es)) := fun H1 Q sH k => h H1 _ sH fun v H2 s2 sd => h' H2 _ (sH.trans s2) fun w H3 s3 sd' => by
  obtain ⟨a, xs, rfl, ha, hs⟩ := sd_tup (sd.same (mix_same s3))
  obtain ⟨b, ys, rfl, hb, ht⟩ := sd_tup sd'
  have up := mix_up (H2 := H3) h0 (sH.trans (s2.trans s3))
  refine ⟨a, b, xs, ys, rfl, rfl, SqT.of (up _ _ ha), SqT.of (up _ _ hb), by rw [hs.len, ht.len]; exact sl_small (by omega), fun z => ?_, fun _ z => ?_, fun _ _ p hp => ?_⟩
  · subst z
    cases hs
    exact k _ _ (s2.trans s3) (.tup hb ht)
  · subst z
    cases ht
    rw [List.append_nil] at k
    exact k _ _ (s2.trans s3) (.tup ha hs)
  · exact k _ _ ((s2.trans s3).trans (same_new hp _)) (.tup (by rw [mix_new ((sH.trans (s2.trans s3)).free hp), upd_same]) ((hs.app ht).same (mix_same (same_new hp _))))
theorem ev_rev (h0 : Same H0 H) (h : Ev H0 H σ t (.tuple ds)) : Ev H0 H σ (tRevT K t) (.tuple ds.reverse) := fun H1 Q sH k => h H1 _ sH fun v H2 s2 sd => by
  obtain ⟨a, xs, rfl, ha, hs⟩ := sd_tup sd
  exact ⟨a, xs, rfl, SqT.of (mix_up h0 (sH.trans s2) _ _ ha), fun p hp => k _ _ (s2.trans (same_new hp _)) (.tup (by rw [mix_new ((sH.trans s2).free hp), upd_same]) (hs.rev.same (mix_same (same_new hp _))))⟩
theorem ev_one (h0 : Same H0 H) (h : Ev H0 H σ t (.tuple ds)) : Ev H0 H σ (tSl (rSlA K) t tNoPart (tPart (tC (.int 1)))) (.tuple (ds.take 1)) := fun H1 Q sH k => h H1 _ sH fun v H2 s2 sd => by
  obtain ⟨a, xs, rfl, ha, hs⟩ := sd_tup sd
  have c3 : HT.sIx xs.length xs.length (some 1) = min 1 xs.length := HT.sIx_nat _ _ 1
  have cut : cutV xs none (some 1) = xs.take 1 := by
    unfold cutV
    rw [HT.sIx_none, c3]
    by_cases z : xs = []
    · rw [z]; rfl
    · have : 0 < xs.length := List.length_pos_iff.mpr z
      rw [show min 1 xs.length - 0 = 1 by omega]
      rfl
  refine ⟨1, rfl, a, xs, rfl, SqT.of (mix_up h0 (sH.trans s2) _ _ ha), fun z => ?_, fun _ p hp => ?_⟩
  · rw [c3] at z
    have tk2 : ds.take 1 = ds := List.take_of_length_le (by rw [← hs.len]; omega)
    rw [tk2] at k
    exact k _ _ s2 (.tup ha hs)
  · exact k _ _ (s2.trans (same_new hp _)) (.tup (by rw [mix_new ((sH.trans s2).free hp), upd_same, cut]) ((hs.take 1).same (mix_same (same_new hp _))))
def rListOf (K : PySem.W.Frag) : List V → Hp → VK → Prop := fun xs H Q => ∃ p ys, xs = [.ref p] ∧ (SqL K H p ys ∨ SqT K H p ys) ∧ ∀ l, H l = none → Q (.ref l) (upd H l (.lst ys))
theorem ev_list (h0 : Same H0 H) (h : Ev H0 H σ t (.tuple ds)) : Ev H0 H σ (tCB (rListOf K) (tCons t tNil)) (.list ds) := fun H1 Q sH k => h H1 _ sH fun v H2 s2 sd => by
  obtain ⟨a, xs, rfl, ha, hs⟩ := sd_tup sd
  exact ⟨a, xs, rfl, .inr (SqT.of (mix_up h0 (sH.trans s2) _ _ ha)), fun p hp => k _ _ (s2.trans (same_new hp _)) (.lst (by rw [mix_new ((sH.trans s2).free hp), upd_same]) (hs.same (mix_same (same_new hp _))))⟩
end
/-- tuples and lists of pairs and the like -/
theorem rf_near {es : List PyData} (h : ∀ e ∈ es, Fine 3 20000 e) (hl : es.length ≤ 20) : RF 2 (.tuple es) ∧ RF 2 (.list es) := by
  have p : rb 2 = 819148 := by decide
  have : es.length * (20000 + 2) ≤ 20 * (20000 + 2) := Nat.mul_le_mul_right _ hl
  exact ⟨⟨(fine_tup h).mono (by omega) (by omega), lens_tup (by omega)⟩, ⟨(fine_list h).mono (by omega) (by omega), lens_of (fun _ e => nomatch e) fun _ e => nomatch e⟩⟩
theorem bs_poly {p : List IQ} (h : Good 12 (10 ^ 12) p) (hl : p.length ≤ 8) : Bs 2 (polyD p) := by
  refine ⟨_, rfl, by rw [List.length_map]; omega, fun e he => ?_⟩
  obtain ⟨x, hx, rfl⟩ := List.mem_map.mp he
  obtain ⟨h1, h2, h3, h4⟩ := h.all x hx
  have : (10 : Int) ^ 12 = 1000000000000 := by decide
  refine ⟨_, rfl, by show 2 ≤ 10; decide, fun e he => ?_⟩
  simp only [List.mem_cons, List.not_mem_nil, or_false] at he
  rcases he with rfl | rfl
  · exact ⟨_, rfl, by omega⟩
  · exact ⟨_, rfl, by omega⟩
end Zk

set_option maxHeartbeats 300000
/-! Kf: _law_near. -/
namespace Zk
open PySem PySem.Spec PyProof.Rows L2 GxR
def spNear : Sp := fun vs H Q _ => ∃ (H0 : Hp) (dk lf a : Addr) (B : Nat) (p : List IQ), vs = [.ref dk, .ref a] ∧ DeckAt H0 H dk lf B ∧ B + 400 < 2 ^ 59 ∧ PolyAt H0 a p ∧ Good 12 (10 ^ 12) p ∧ p.length ≤ 8 ∧
  ∀ v' d' H0' H', Grow dk lf H0 H H0' H' → DeckAt H0' H' dk lf (B + 400) → Sd H0' v' d' → RF 2 d' → Q v' H'
/-- the parts of what is near a polynomial -/
theorem fine_at1 {e : PyData} (h : (∃ i : Int, e = .int i ∧ i.natAbs < 2 ^ 50) ∨ (∃ b, e = .bool b) ∨ e = .none ∨ e = .str "0") : Fine 0 1921 e := by
  rcases h with ⟨i, rfl, h⟩ | ⟨b, rfl⟩ | rfl | rfl
  · exact fine_int (log_small (by omega))
  · exact (fine_bool b).mono (Nat.le_refl _) (by omega)
  · exact fine_none.mono (Nat.le_refl _) (by omega)
  · exact (fine_str (x := "0") (by decide +kernel)).mono (Nat.le_refl _) (by decide +kernel)
theorem fine_at2 {es : List PyData} (h : ∀ e ∈ es, Fine 0 1921 e) (hl : es.length ≤ 3) : Fine 3 20000 (.tuple es) ∧ Fine 3 20000 (.list es) := by
  have : es.length * (1921 + 2) ≤ 3 * (1921 + 2) := Nat.mul_le_mul_right _ hl
  exact ⟨(fine_tup h).mono (by omega) (by omega), (fine_list h).mono (by omega) (by omega)⟩
theorem asg_lst {H0 Hb H : Hp} {σ : List (Option V)} {ta : TA} {ds : List PyData} {g : V → List (Option V) → Hp → (List (Option V) → Hp → Prop) → Prop} {ts : TS} {D : Ends} (e : EvA H0 Hb σ ta ds) (s : Same Hb H)
    (k : ∀ vs H1, Same H H1 → SdL (mix H0 Hb H1) vs ds → vs.length ≤ sizeLine ∧ ∀ p, H1 p = none → g (.ref p) σ (upd H1 p (.lst vs)) fun σ H => ts D σ H) : tSeq (tAsg (tLst ta) g) ts D σ H := e H _ s k
theorem ext_lst {K : PySem.W.Frag} {H0 Hb H : Hp} {σ : List (Option V)} {ta : TA} {ds : List PyData} {i : Nat} {l : Addr} {xs : List V} {ts : TS} {D : Ends} (hi : σ[i]? = some (some (.ref l))) (hl : SqL K H l xs) (e : EvA H0 Hb σ ta ds) (s : Same Hb H)
    (k : ∀ vs H1, Same H H1 → SdL (mix H0 Hb H1) vs ds → vs.length ≤ sizeLine ∧ ∀ p, H1 p = none → rExtend (.ref l) [.ref p] (upd H1 p (.lst vs)) fun _ H => ts D σ H) : tSeq (tDrop (tBM K "list" rExtend (tVar i) (tCons (tLst ta) tNil))) ts D σ H := ⟨_, hi, .inl ⟨rfl, _, hl⟩, e H _ s k⟩
section
variable {P : Program} {w : World} {K : PySem.W.Frag} {mg : Str → Option Value} {base : Heap} {f : Addr} {fd : FuncData}
end
end Zk

set_option maxHeartbeats 1000000
/-! Kg: _law_drawn_string. -/
namespace Zk
open PySem PySem.Spec PyProof.Rows L2 GxR
def Sml (x : Str) : Prop := ∀ c ∈ x.cps.toList, c < 16 ^ 8
theorem sml_app {x y : Str} (h : Sml x) (k : Sml y) : Sml (x ++ y) := fun c hc => by
  rw [Str.cps_append, Array.toList_append] at hc
  rcases List.mem_append.mp hc with hc | hc
  · exact h c hc
  · exact k c hc
theorem sml_join {y : Str} (hy : Sml y) : ∀ {l : List Str}, (∀ x ∈ l, Sml x) → Sml (Str.join y l)
  | [], _ => fun c hc => by simp [Str.join, Str.empty] at hc
  | [x], h => h x List.mem_cons_self
  | x :: z :: r, h => by
    show Sml (x ++ y ++ Str.join y (z :: r))
    exact sml_app (sml_app (h x List.mem_cons_self) hy) (sml_join hy fun u hu => h u (List.mem_cons_of_mem _ hu))
theorem sml_cut {z : Str} {lo hi : Option Int} (h : Sml z) : Sml (cutS z lo hi) := fun c hc => by
  refine h c ?_
  have hc : c ∈ ((z.cps.toList.drop (HT.sIx z.length 0 lo)).take (HT.sIx z.length z.length hi - HT.sIx z.length 0 lo)) := by simpa [cutS] using hc
  exact List.mem_of_mem_drop (List.mem_of_mem_take hc)
def abn : List Str := ["a", "b", "n", "z", "m", "q"]
def spDStr : Sp := fun vs H Q _ => ∃ (H0 : Hp) (dk lf : Addr) (B : Nat), vs = [.ref dk] ∧ DeckAt H0 H dk lf B ∧ B + 30 < 2 ^ 59 ∧ ∀ x H0' H', Grow dk lf H0 H H0' H' → DeckAt H0' H' dk lf (B + 30) → x.length ≤ 100 → Sml x → Q (.str x) H'
theorem Grow.free {dk lf p : Addr} {H0 H H0' H' : Hp} {B : Nat} (g : Grow dk lf H0 H H0' H') (D : DeckAt H0' H' dk lf B) (h : H' p = none) : H p = none := by
  cases e : H p with
  | none => rfl
  | some o =>
    by_cases z1 : p = dk
    · exact absurd z1.symm (D.ned h)
    · by_cases z2 : p = lf
      · exact absurd z2.symm (D.nel h)
      · rw [g.frame _ _ z1 z2 e] at h
        cases h
theorem abn_one {y : Str} (h : y ∈ abn) : y.length = 1 ∧ Sml y := by
  simp only [abn, List.mem_cons, List.not_mem_nil, or_false] at h
  have key : ∀ y : Str, (y.cps.toList.all fun c => decide (c < 16 ^ 8)) = true → Sml y := fun y hy c hc => of_decide_eq_true (List.all_eq_true.mp hy c hc)
  rcases h with rfl | rfl | rfl | rfl | rfl | rfl <;> exact ⟨by decide +kernel, key _ (by decide +kernel)⟩
theorem sml_nil : Sml (Str.ofString "") := fun c hc => by
  have e : (Str.ofString "").cps.toList = [] := by decide +kernel
  rw [e] at hc
  exact absurd hc List.not_mem_nil
def put9 : List Str := ["", "", "", "A", "1", " ", "_", "\n", "{"]
theorem put_one {y : Str} (h : y ∈ put9) : y.length ≤ 1 ∧ Sml y := by
  simp only [put9, List.mem_cons, List.not_mem_nil, or_false] at h
  have key : ∀ y : Str, (y.cps.toList.all fun c => decide (c < 16 ^ 8)) = true → Sml y := fun y hy c hc => of_decide_eq_true (List.all_eq_true.mp hy c hc)
  rcases h with rfl | rfl | rfl | rfl | rfl | rfl | rfl | rfl | rfl <;> exact ⟨by decide +kernel, key _ (by decide +kernel)⟩
theorem sum_ones : ∀ {ys : List Str}, (∀ y ∈ ys, y ∈ abn) → (ys.map (·.length)).sum = ys.length
  | [], _ => rfl
  | y :: r, h => by
    rw [List.map_cons, List.sum_cons, sum_ones fun u hu => h u (List.mem_cons_of_mem _ hu), (abn_one (h y List.mem_cons_self)).1, List.length_cons]
    omega
section
variable {P : Program} {w : World} {K : PySem.W.Frag} {mg : Str → Option Value} {base : Heap} {f : Addr} {fd : FuncData}
end
end Zk

set_option maxHeartbeats 1000000
set_option exponentiation.threshold 1000
/-! K0x: bounds of what the law reckons. -/
namespace Zk
open PySem PySem.Spec PyProof.Rows L2 GxR
theorem lin_le {f : Int → Int} {M : Nat} : ∀ {ps : List IQ}, (∀ x ∈ ps, (x.2 * f x.1).natAbs ≤ M) → (lin f ps).natAbs ≤ ps.length * M
  | [], _ => by simp [lin]
  | x :: r, h => by
    have h1 := h x List.mem_cons_self
    have h2 := lin_le fun y hy => h y (List.mem_cons_of_mem _ hy)
    rw [lin_cons, List.length_cons, Nat.succ_mul]
    omega
theorem eval_small {p : List IQ} {k : Nat} (h : ∀ x ∈ p, 0 ≤ x.1 ∧ x.1 ≤ 12 ∧ x.2.natAbs < 2 ^ 41) (hl : p.length ≤ 100) (hk : k ≤ 1000000) : (evalP p k).natAbs < 2 ^ 450 := by
  have h1 : (evalP p k).natAbs ≤ p.length * 2 ^ 441 := lin_le fun x hx => by
    obtain ⟨h1, h2, h3⟩ := h x hx
    exact Nat.le_of_lt (wide_lt h3 (pow_small (a := x.1.toNat) hk (by omega)))
  have h2 : p.length * 2 ^ 441 ≤ 100 * 2 ^ 441 := Nat.mul_le_mul_right _ hl
  have h3 : 100 * 2 ^ 441 < 2 ^ 450 := by decide
  omega
theorem canon_coef {ps ys : List IQ} {M : Nat} (h : Canon ps ys) (hp : ∀ x ∈ ps, x.2.natAbs ≤ M) : ∀ x ∈ ys, x.2.natAbs ≤ ps.length * M := fun x hx => by
  have e : lin (at1 x.1) ys = x.2 := lin_at (asc_nodup h.2) (show (x.1, x.2) ∈ ys from hx)
  rw [canon_lin _ h] at e
  rw [← e]
  refine lin_le fun y hy => ?_
  have := hp y hy
  unfold at1
  split <;> simp <;> omega
theorem log_mid {i : Int} (h : i.natAbs < 2 ^ 900) : i.natAbs.log2 < 1920 := by
  by_cases z : i.natAbs = 0
  · rw [z]; decide
  · exact Nat.lt_of_lt_of_le ((Nat.log2_lt z).mpr h) (by decide)
theorem fine_pairs {ys : List IQ} (h : ∀ x ∈ ys, x.1.natAbs < 2 ^ 900 ∧ x.2.natAbs < 2 ^ 900) (hl : ys.length ≤ 50) : Fine 2 200000 (polyD ys) := by
  have hp : ∀ e ∈ ys.map pairD, Fine 1 3850 e := fun e he => by
    obtain ⟨x, hx, rfl⟩ := List.mem_map.mp he
    obtain ⟨h1, h2⟩ := h x hx
    refine (fine_tup (a := 0) (b := 1921) fun e he => ?_).mono (Nat.le_refl _) (by show 2 * (1921 + 2) + 2 ≤ 3850; decide)
    simp only [List.mem_cons, List.not_mem_nil, or_false] at he
    rcases he with rfl | rfl
    · exact fine_int (log_mid h1)
    · exact fine_int (log_mid h2)
  refine (fine_tup hp).mono (Nat.le_refl _) ?_
  rw [List.length_map]
  have : ys.length * (3850 + 2) ≤ 50 * (3850 + 2) := Nat.mul_le_mul_right _ hl
  omega
theorem fine_two {d : PyData} (h : Fine 2 200000 d) : Fine 3 500000 (.tuple [d, d]) := (fine_tup (a := 2) (b := 200000) fun e he => by
  simp only [List.mem_cons, List.not_mem_nil, or_false] at he
  rcases he with rfl | rfl <;> exact h).mono (Nat.le_refl _) (by show 2 * (200000 + 2) + 2 ≤ 500000; decide)
theorem fine_ints {i j : Int} (hi : i.natAbs < 2 ^ 900) (hj : j.natAbs < 2 ^ 900) : Fine 3 500000 (.tuple [.int i, .int j]) := (fine_tup (a := 0) (b := 1921) fun e he => by
  simp only [List.mem_cons, List.not_mem_nil, or_false] at he
  rcases he with rfl | rfl
  · exact fine_int (log_mid hi)
  · exact fine_int (log_mid hj)).mono (by omega) (by show 2 * (1921 + 2) + 2 ≤ 500000; decide)
/-- what is known of a sum or a product that is low -/
theorem low_good {ps ys : List IQ} (h : Canon ps ys) (hp : ∀ x ∈ ps, 0 ≤ x.1 ∧ 1 ≤ x.2) (hl : lowB ys = true) : Good 12 (10 ^ 12) ys ∧ ys.length ≤ 20 := by
  unfold lowB at hl
  rw [Bool.and_eq_true] at hl
  have h20 := of_decide_eq_true hl.1
  have all := canon_all (p := fun x => 0 ≤ x.1 ∧ 1 ≤ x.2) (fun e b c h1 h2 => ⟨h1.1, by have := h1.2; have := h2.2; show 1 ≤ b + c; omega⟩) h hp
  refine ⟨⟨h.2, fun x hx => ?_⟩, h20⟩
  obtain ⟨h1, h2⟩ := all x hx
  have h3 := List.all_eq_true.mp hl.2 x hx
  rw [Bool.and_eq_true] at h3
  exact ⟨h1, of_decide_eq_true h3.1, h2, of_decide_eq_true h3.2⟩
theorem mulP_mem {p q : List IQ} {x : IQ} (h : x ∈ mulP p q) : ∃ a ∈ p, ∃ b ∈ q, x = (a.1 + b.1, a.2 * b.2) := by
  unfold mulP at h
  obtain ⟨a, ha, h⟩ := List.mem_flatMap.mp h
  obtain ⟨b, hb, rfl⟩ := List.mem_map.mp h
  exact ⟨a, ha, b, hb, rfl⟩
theorem fine_canon {ps ys : List IQ} (h : Canon ps ys) (hp : ∀ x ∈ ps, 0 ≤ x.1 ∧ x.1 ≤ 24 ∧ 1 ≤ x.2 ∧ x.2.natAbs ≤ 2 ^ 82) (hl : ps.length ≤ 50) : Fine 2 200000 (polyD ys) := by
  have a1 := canon_all (p := fun x => 0 ≤ x.1 ∧ x.1 ≤ 24) (fun e b c h1 h2 => h1) h fun x hx => ⟨(hp x hx).1, (hp x hx).2.1⟩
  have a2 := canon_coef h fun x hx => (hp x hx).2.2.2
  have hm : ps.length * 2 ^ 82 ≤ 50 * 2 ^ 82 := Nat.mul_le_mul_right _ hl
  have h9 : 50 * 2 ^ 82 < 2 ^ 900 := by decide
  have h8 : 24 < 2 ^ 900 := by decide
  refine fine_pairs (fun x hx => ⟨?_, ?_⟩) (Nat.le_trans (canon_len h) hl)
  · have := a1 x hx
    omega
  · have := a2 x hx
    omega
theorem sum_all {p r : List IQ} (hp : Good 12 (10 ^ 12) p) (hr : Good 12 (10 ^ 12) r) : ∀ x ∈ p ++ r, 0 ≤ x.1 ∧ x.1 ≤ 24 ∧ 1 ≤ x.2 ∧ x.2.natAbs ≤ 2 ^ 82 := fun x hx => by
  have key : ∀ {p : List IQ}, Good 12 (10 ^ 12) p → x ∈ p → 0 ≤ x.1 ∧ x.1 ≤ 24 ∧ 1 ≤ x.2 ∧ x.2.natAbs ≤ 2 ^ 82 := fun g hx => by
    obtain ⟨h1, h2, h3, h4⟩ := g.all x hx
    have : (10 : Int) ^ 12 = 1000000000000 := by decide
    have : 1000000000000 ≤ 2 ^ 82 := by decide
    omega
  rcases List.mem_append.mp hx with h | h
  · exact key hp h
  · exact key hr h
theorem prod_all {p r : List IQ} (hp : Good 12 (10 ^ 12) p) (hr : Good 12 (10 ^ 12) r) : ∀ x ∈ mulP p r, 0 ≤ x.1 ∧ x.1 ≤ 24 ∧ 1 ≤ x.2 ∧ x.2.natAbs ≤ 2 ^ 82 := fun x hx => by
  obtain ⟨a, ha, b, hb, rfl⟩ := mulP_mem hx
  obtain ⟨a1, a2, a3, a4⟩ := hp.all a ha
  obtain ⟨b1, b2, b3, b4⟩ := hr.all b hb
  have e : (10 : Int) ^ 12 = 1000000000000 := by decide
  rw [e] at a4 b4
  refine ⟨by show 0 ≤ a.1 + b.1; omega, by show a.1 + b.1 ≤ 24; omega, ?_, ?_⟩
  · show 1 ≤ a.2 * b.2
    have := Int.mul_pos (show 0 < a.2 by omega) (show 0 < b.2 by omega)
    omega
  · have := wide_lt (i := a.2) (j := b.2) (a := 41) (b := 41) (by omega) (by omega)
    exact Nat.le_of_lt this
end Zk

set_option maxHeartbeats 1000000
set_option exponentiation.threshold 1000
/-! Kh: the law. -/
namespace Zk
open PySem PySem.Spec PyProof.Rows L2 GxR
/-- _ = law(script) -/
def spLaw (K : PySem.W.Frag) (Ta : List Addr) : Sp := fun vs H Q _ => ∃ (a : Addr) (ns : List Int), vs = [.ref a] ∧ SqL K H a (ns.map V.int) ∧ ns.length ≤ 63 ∧ Tb Ta H ∧ ∀ H', Q (.bl true) H'
/-- a def called by keywords alone -/
structure CallK (P : Program) (w : World) (K : PySem.W.Frag) (mg : Str → Option Value) (base : Heap) (x : Str) (k : Nat) (ps ks : List Str) (sp : Sp) (g : List Value → List Value → List Value) (gV : List V → List V → List V) : Prop where
  ex : ∃ f fd, FnOk P w K mg base CX0 k f fd ps sp ∧ KBinds K fd ps ks g gV ∧ PySem.W.keepIn K (.ref f) = true ∧ mg x = some (.ref f)
def kg1 : List Value → List Value → List Value | [], [a] => [a] | _, _ => []
def kv1 : List V → List V → List V | [], [a] => [a] | _, _ => []
def kg2 : List Value → List Value → List Value | [], [a, b] => [b, a] | _, _ => []
def kv2 : List V → List V → List V | [], [a, b] => [b, a] | _, _ => []
theorem kr1 {vs : List V} {us : List Value} {zs : List V} {ws : List Value} (h : Vals vs us) (k : Vals zs ws) : Vals (kv1 vs zs) (kg1 us ws) := by
  cases h with
  | cons _ _ => exact .nil
  | nil => cases k with
    | nil => exact .nil
    | cons a r => cases r with
      | nil => exact .cons a .nil
      | cons _ _ => exact .nil
theorem kr2 {vs : List V} {us : List Value} {zs : List V} {ws : List Value} (h : Vals vs us) (k : Vals zs ws) : Vals (kv2 vs zs) (kg2 us ws) := by
  cases h with
  | cons _ _ => exact .nil
  | nil => cases k with
    | nil => exact .nil
    | cons a r => cases r with
      | nil => exact .nil
      | cons b r2 => cases r2 with
        | nil => exact .cons b (.cons a .nil)
        | cons _ _ => exact .nil
def kg3 : List Value → List Value → List Value | [], [a, b] => [a, b] | _, _ => []
def kv3 : List V → List V → List V | [], [a, b] => [a, b] | _, _ => []
theorem kr3 {vs : List V} {us : List Value} {zs : List V} {ws : List Value} (h : Vals vs us) (k : Vals zs ws) : Vals (kv3 vs zs) (kg3 us ws) := by
  cases h with
  | cons _ _ => exact .nil
  | nil => cases k with
    | nil => exact .nil
    | cons a r => cases r with
      | nil => exact .nil
      | cons b r2 => cases r2 with
        | nil => exact .cons a (.cons b .nil)
        | cons _ _ => exact .nil
structure Used (P : Program) (w : World) (K : PySem.W.Frag) (mg : Str → Option Value) (base : Heap) (Ta : List Addr) : Prop where
  deck : Call1 P w K mg base "_law_deck" 1 ["script", "seed"] (spDeck K)
  draw : Call1 P w K mg base "_law_draw" 1 ["deck", "many"] spDraw
  pick : Call1 P w K mg base "_law_pick" 2 ["deck", "some"] spPick
  any : Call1 P w K mg base "_law_any" 6 ["deck", "deep"] (spAny 2)
  dpoly : Call1 P w K mg base "_law_drawn_poly" 3 ["deck", "many", "most"] spDPoly
  near : Call1 P w K mg base "_law_near" 12 ["deck", "poly"] spNear
  dstr : Call1 P w K mg base "_law_drawn_string" 3 ["deck"] spDStr
  lpoly : Call1 P w K mg base "_law_is_poly" 2 ["thing"] (spLs isPolyD)
  low : Call1 P w K mg base "_law_is_low" 1 ["poly"] spLow
  llet : Call1 P w K mg base "_law_is_letter" 1 ["thing"] spLet
  lval : Call1 P w K mg base "_law_value" 1 ["poly", "n"] spLVal
  ladd : Call1 P w K mg base "_law_added" 1 ["pairs"] (spLAdd K)
  lprod : Call1 P w K mg base "_law_product" 2 ["one", "other"] spLProd
  poly : Call1 P w K mg base "is_poly" 4 ["thing"] (spL Ta isPolyD)
  word : Call1 P w K mg base "is_word" 3 ["thing"] (spL Ta isWordD)
  val : Call1 P w K mg base "value_at" 5 ["poly", "number"] (spValue Ta)
  sum : Call1 P w K mg base "sum_of" 6 ["poly", "other"] (spTwo Ta fun p r => p ++ r)
  prod : Call1 P w K mg base "product_of" 6 ["poly", "other"] (spTwo Ta mulP)
  polyK : CallK P w K mg base "is_poly" 4 ["thing"] ["thing"] (spL Ta isPolyD) kg1 kv1
  wordK : CallK P w K mg base "is_word" 3 ["thing"] ["thing"] (spL Ta isWordD) kg1 kv1
  valK : CallK P w K mg base "value_at" 5 ["poly", "number"] ["number", "poly"] (spValue Ta) kg2 kv2
  valK1 : CallK P w K mg base "value_at" 5 ["poly", "number"] ["poly", "number"] (spValue Ta) kg3 kv3
  sumK : CallK P w K mg base "sum_of" 6 ["poly", "other"] ["other", "poly"] (spTwo Ta fun p r => p ++ r) kg2 kv2
  prodK : CallK P w K mg base "product_of" 6 ["poly", "other"] ["other", "poly"] (spTwo Ta mulP) kg2 kv2
  sys : SysB base

/-- without the tables -/
def noT (H : Hp) : Hp := fun x => match H x with
  | some (.tbl _) => none
  | o => o
theorem noT_of {H : Hp} {x : Addr} {o : HO} (e : H x = some o) (n : ∀ ps, o ≠ .tbl ps) : noT H x = some o := by
  unfold noT
  rw [e]
  cases o with
  | tbl ps => exact absurd rfl (n ps)
  | _ => rfl
theorem noT_to {H : Hp} {x : Addr} {o : HO} (e : noT H x = some o) : H x = some o ∧ ∀ ps, o ≠ .tbl ps := by
  unfold noT at e
  split at e
  · cases e
  · rename_i n
    exact ⟨e, fun ps z => n ps (by rw [e, z])⟩
theorem noT_none {H : Hp} {x : Addr} (e : H x = none) : noT H x = none := by
  unfold noT
  rw [e]
theorem noT_sm (H : Hp) : Sm H (noT H) := fun _ _ e n => noT_of e n
theorem deck_sm {H0 H H' : Hp} {dk lf : Addr} {B : Nat} (h : DeckAt H0 H dk lf B) (s : Sm H H') : DeckAt (noT H0) H' dk lf B := by
  obtain ⟨left, mixed, draws, e1, e2, r⟩ := h.ex
  exact ⟨fun b o e => s _ _ (h.same _ _ (noT_to e).1) (noT_to e).2, noT_none h.off, noT_none h.offl, left, mixed, draws, s _ _ e1 (fun _ z => nomatch z), s _ _ e2 (fun _ z => nomatch z), r⟩
theorem tb_grow {H0 H H0' H' : Hp} {dk lf : Addr} {B : Nat} {Ta : List Addr} (h : DeckAt H0 H dk lf B) (g : Grow dk lf H0 H H0' H') (t : Tb Ta H) : Tb Ta H' := fun P hP => by
  obtain ⟨ps, e, k⟩ := t P hP
  obtain ⟨left, mixed, draws, e1, e2, _⟩ := h.ex
  exact ⟨ps, g.frame _ _ (ne_of e e1 fun z => nomatch z) (ne_of e e2 fun z => nomatch z) e, k⟩
theorem polyD_of {H : Hp} {v : V} {d : PyData} (sd : Sd H v d) (h : isPolyD d = true) : ∃ a p, v = .ref a ∧ d = polyD p ∧ PolyAt H a p := by
  cases d with
  | tuple ds =>
    obtain ⟨a, xs, rfl, ha, hs⟩ := sd_tup sd
    have all : ∀ e ∈ ds, isPairD e = true := by
      have h : (ds.all isPairD && ascB (ds.map fstD)) = true := h
      rw [Bool.and_eq_true] at h
      exact fun e he => List.all_eq_true.mp h.1 e he
    have key : ∀ {xs : List V} {ds : List PyData}, SdL H xs ds → (∀ e ∈ ds, isPairD e = true) → ∃ p : List IQ, ds = p.map pairD ∧ PT H xs p := by
      intro xs ds hs
      induction hs using SdL.rec (motive_1 := fun _ _ _ => True) (motive_3 := fun _ _ _ => True) with
      | nil => exact fun _ => ⟨[], rfl, .nil⟩
      | cons h t _ ih =>
        intro all
        obtain ⟨p, rfl, hp⟩ := ih fun e he => all e (List.mem_cons_of_mem _ he)
        obtain ⟨e, c, rfl, _, _⟩ := pair_of (all _ List.mem_cons_self)
        obtain ⟨t, rfl, ht⟩ := sd_pair h
        exact ⟨(e, c) :: p, rfl, .cons ⟨t, rfl, ht⟩ hp⟩
      | _ => trivial
    obtain ⟨p, rfl, hp⟩ := key hs all
    exact ⟨a, p, rfl, rfl, xs, ha, hp⟩
  | _ => cases h
/-- over a text -/
theorem lc_str {z : Str} {g : TG} {tt : TT} {te : TE} {vs : List Nat} {σ : L2.St} {H1 : Hp} {D : Addr} {Qd : Hp → Prop} (Pv : Nat → Hp → Prop) (h0 : Pv 0 (upd H1 D (.lst [])))
    (hs : ∀ i c H, z.cps.toList[i]? = some c → Pv i H → g (.str ⟨#[c]⟩) (wipe σ vs) H fun σ2 H2 => wipe σ2 vs = wipe σ vs ∧ tt σ2 H2 fun b H3 =>
      if b = true then te σ2 H3 fun y H4 => ∃ acc, H4 D = some (.lst acc) ∧ acc.length < sizeLine ∧ Pv (i + 1) (upd H4 D (.lst (acc ++ [y]))) else Pv (i + 1) H3) (hd : ∀ H, Pv z.cps.toList.length H → Qd H) :
    ∃ W : Nat → Nat → Hp → Prop, (∃ m, W 0 m (upd H1 D (.lst []))) ∧ ∀ i m H, W i m H →
      ((Its z).stop i H ∧ Qd H) ∨ ((Its z).go i H ∧ ∃ Nx : Hp → Prop, (∀ H', Nx H' → ∃ m', m' < m ∧ W (i + 1) m' H') ∧ ∀ x H', (Its z).yld i H x H' → g x (wipe σ vs) H' fun σ2 H2 => wipe σ2 vs = wipe σ vs ∧ tt σ2 H2 fun b H3 =>
        if b = true then te σ2 H3 fun y H4 => ∃ acc, H4 D = some (.lst acc) ∧ acc.length < sizeLine ∧ Nx (upd H4 D (.lst (acc ++ [y]))) else Nx H3) := by
  refine ⟨fun i m H => m = z.cps.toList.length - i ∧ i ≤ z.cps.toList.length ∧ Pv i H, ⟨z.cps.toList.length, by simp, Nat.zero_le _, h0⟩, ?_⟩
  rintro i m H ⟨rfl, hi, p⟩
  by_cases hlt : i < z.cps.toList.length
  · refine .inr ⟨by show i < z.cps.size; simpa using hlt, Pv (i + 1), fun H' p' => ⟨z.cps.toList.length - (i + 1), by omega, rfl, hlt, p'⟩, fun x H' y => ?_⟩
    obtain ⟨rfl, c, e, rfl⟩ := y
    exact hs i c _ (by simpa using e) p
  · exact .inl ⟨by show z.cps.size ≤ i; simpa using hlt, hd H (by rwa [show i = z.cps.toList.length by omega] at p)⟩
abbrev nmL : List Str := ["script", "deck", "turn", "poly", "other", "thing", "text", "due", "is_right", "number", "values", "x", "it"]
section
variable {P : Program} {w : World} {K : PySem.W.Frag} {mg : Str → Option Value} {base : Heap} {f : Addr} {fd : FuncData} {Ta : List Addr}
end
end Zk

set_option maxHeartbeats 2000000
/-! Ki: the end of a law's proof, run from the top, with tables of code objects. -/
namespace Zk
open PySem PySem.Spec PyProof.Rows L2
section
variable {P : Program} {w : World} {K : PySem.W.Frag} {mg : Str → Option Value}
theorem law_topT {mb : Str → Option Value} {fa a : Addr} {fd : FuncData} {x : Str} {sp : Sp} {s : Shared} {vs : List Value} {ns : List Int} {cs : List (Addr × Addr)}
    (KX : K.In s.heap) (hm : s.heap.Ns mainGlobals mg) (hb : s.heap.Ns builtinsNs mb) (hbb : ∀ y : Str, y ≠ "__name__" → mb y = bootBuiltins y) (lim : s.heap.NoLimit) (hg : s.gens = #[])
    (hT : ∀ p ∈ cs, s.heap.get? p.2 = some { cls := .none, data := .fields #[] }) (nT : ∀ p ∈ cs, K.lookup p.2 = none) (C : ∀ p ∈ cs, PySem.W.CodeHd s.heap p.1 p.2)
    (hbm : ∃ (bm : Addr) (ob : Obj), mg "__builtins__" = some (.ref bm) ∧ bm ≠ builtinsNs ∧ s.heap.get? bm = some ob ∧ ob.cls = .type "module" ∧ ob.dict = some builtinsNs ∧ ob.data = .plain)
    (ha : s.heap.get? a = some { cls := .type "list", data := .seq vs.toArray }) (hi : IntsAre vs ns) (hl : ns.length ≤ sizeLine)
    (sys : ∃ mm, s.heap.Ns sysModules mm) (F : ∀ base : Heap, K.In base → base.Ns mainGlobals mg → SysB base → (∀ p ∈ cs, GxR.TabB base mg p.1 p.2) → LawAt P w K mg base fa fd [x] sp) (bind : ∀ (s : Shared) (u : Value), BindsTo s fd ⟨[u], []⟩ [(x, u)])
    (hsp : ∀ H : Hp, (∀ p ∈ cs, H p.2 = some (.tbl #[])) → SqL K H a (ns.map V.int) → sp [.ref a] H (fun v _ => v = .bl true) E0) :
    codeAny (model P w) callerA (.call (.ref fa) ⟨[.ref a], []⟩) (fun r s' => r = .ok (.ret (.bool true)) ∧ OldK s.heap s'.heap ∧ s'.os = s.os ∧ AllBare s'.gens) s := by
  have tabAt : ∀ b, b ∈ cs.map (·.2) → s.heap.get? b = some { cls := .none, data := .fields #[] } := fun b h => by
    obtain ⟨p, hp, e⟩ := List.mem_map.mp h
    exact e ▸ hT p hp
  have inT : ∀ p ∈ cs, p.2 ∈ cs.map (·.2) := fun p hp => List.mem_map.mpr ⟨p, hp, rfl⟩
  have noTa : a ∉ cs.map (·.2) := fun h => by
    have z := tabAt a h
    rw [ha] at z
    cases (show Data.seq vs.toArray _ = Data.fields #[] from congrArg Obj.data (Option.some.inj z))
  -- H tracks the tables, and at most the script
  have go : ∀ H : Hp, (∀ p ∈ cs, H p.2 = some (.tbl #[])) → SqL K H a (ns.map V.int) → HOk P w H s.heap → (∀ b u, H b = some u → b ∈ cs.map (·.2) ∨ (b = a ∧ K.lookup a = none ∧ ∃ o xs, u = .frz o (.lst xs))) →
      codeAny (model P w) callerA (.call (.ref fa) ⟨[.ref a], []⟩) (fun r s' => r = .ok (.ret (.bool true)) ∧ OldK s.heap s'.heap ∧ s'.os = s.os ∧ AllBare s'.gens) s := by
    intro H tabs seq hok lone
    have off : ∀ {b : Addr} {o : Obj}, s.heap.get? b = some o → (∀ ws n, o.data ≠ .seq ws n) → o.data ≠ .fields #[] → H b = none := fun {b o} e h1 h2 => by
      cases q : H b with
      | none => rfl
      | some u =>
        rcases lone b u q with h | ⟨rfl, _⟩
        · rw [tabAt b h] at e
          cases e
          exact absurd rfl h2
        · rw [ha] at e
          cases e
          exact absurd rfl (h1 _ _)
    have stay : ∀ {b : Addr} {m : Str → Option Value}, s.heap.Ns b m → (hidT s.heap H).Ns b m := by
      rintro b m ⟨o, es, ep, ho, hd, r⟩
      refine ⟨o, es, ep, hidT_get ho (off ho (fun ws n z => ?_) fun z => ?_), hd, r⟩
      · rw [hd] at z; cases z
      · rw [hd] at z; cases z
    have kin : K.In (hidT s.heap H) := fun b o hk => by
      refine hidT_get (KX b o hk) ?_
      cases q : H b with
      | none => rfl
      | some u =>
        rcases lone b u q with h | ⟨e, n, _⟩
        · obtain ⟨p, hp, e⟩ := List.mem_map.mp h
          rw [← e, nT p hp] at hk
          cases hk
        · rw [e, n] at hk
          cases hk
    have sysB : SysB (hidT s.heap H) := by
      obtain ⟨mm, hmm⟩ := sys
      obtain ⟨ob, _, _, ho, _⟩ := stay hmm
      exact ⟨ob, ho⟩
    have mod : Mod K mg (hidT s.heap H) := ⟨kin, stay hm, ⟨mb, stay hb, hbb⟩, by obtain ⟨mc, h1, h2⟩ := lim; exact ⟨mc, stay h1, h2⟩⟩
    have TB : ∀ p ∈ cs, GxR.TabB (hidT s.heap H) mg p.1 p.2 := fun p hp => by
      have tp := hT p hp
      refine ⟨?_, ?_, fun z => ?_⟩
      · obtain ⟨o, us, fl, tf, gs, tg, nf, tx, tt, e1, c1, d1, r3, rest⟩ := C p hp
        refine ⟨o, us, fl, tf, gs, tg, nf, tx, tt, hidT_get e1 (off e1 (fun ws n z => ?_) fun z => ?_), c1, d1, r3, rest⟩
        · rw [d1] at z; cases z
        · rw [d1] at z
          cases z
          simp at r3
      · obtain ⟨bm, ob, b1, b2, b3, b4, b5, b6⟩ := hbm
        refine ⟨bm, ob, b1, b2, fun q => ?_, fun q => ?_, hidT_get b3 (off b3 (fun ws n z => ?_) fun z => ?_), b4, b5, b6⟩
        · obtain ⟨o, es, ep, ho, hd, _⟩ := hm
          rw [q, ho] at b3
          cases b3
          rw [hd] at b6
          cases b6
        · rw [q, tp] at b3
          cases b3
          cases b6
        · rw [b6] at z; cases z
        · rw [b6] at z; cases z
      · obtain ⟨o, es, ep, ho, hd, _⟩ := hm
        rw [z, tp] at ho
        cases ho
        cases hd
    have none0 : ∀ b : Addr, b ∉ frs [] := fun b => List.not_mem_nil
    have e0 : Env0 P w K mg (hidT s.heap H) callerA [] s H := ⟨rfl, mod, fun _ _ => of_hidT, by rw [hidT_size] <;> exact Nat.le_refl _, trivial, fun b hb => absurd hb (none0 b), hok, .of_eq hg⟩
    refine codeAny_mono (F _ kin (stay hm) sysB TB s H ⟨[.ref a], []⟩ [.ref a] [.ref a] _ rfl e0 (bind _ _) (.cons rfl .nil) (hsp H tabs seq)) ?_
    intro r s' h
    match r, h with
    | .error e, h => exact False.elim h
    | .ok .next, h => exact False.elim h
    | .ok .brk, h => exact False.elim h
    | .ok .cont, h => exact False.elim h
    | .ok (.ret u), ⟨v, H', os, bare, un, hok', rv, e⟩ =>
      have e : v = .bl true := e
      subst e
      obtain rfl : u = Value.bool true := rv
      have kept : ∀ b o, b ∉ cs.map (·.2) → s.heap.get? b = some o → s'.heap.get? b = some o := fun b o nb hb => by
        cases z : H b with
        | none => exact un.keep b o hb z (none0 b) List.not_mem_nil
        | some u =>
          rcases lone b u z with h | ⟨_, _, ob, xs, rfl⟩
          · exact absurd h nb
          · have h1 := (hok b _ z).1
            rw [hb] at h1
            cases h1
            exact (hok' b _ (un.frzs b _ _ z)).1
      have grown : ∀ p ∈ cs, ∃ more : Array Value, s'.heap.get? p.2 = some { cls := .none, data := .fields more } := fun p hp => by
        obtain ⟨more, z⟩ := un.tbls p.2 #[] (tabs p hp)
        exact ⟨_, hok' p.2 _ z⟩
      refine ⟨rfl, ⟨fun b o hb => ?_, fun b o hb => ?_⟩, os, bare⟩
      · by_cases h : b ∈ cs.map (·.2)
        · obtain ⟨p, hp, rfl⟩ := List.mem_map.mp h
          obtain ⟨more, hm⟩ := grown p hp
          rw [hT p hp] at hb
          cases hb
          exact .inr (.inl ⟨((C p hp).tab (hT p hp)).isCodeTable, rfl, #[], more, rfl, by rw [Array.empty_append]; exact hm⟩)
        · exact .inl (kept b o h hb)
      · by_cases h : b ∈ cs.map (·.2)
        · obtain ⟨p, hp, rfl⟩ := List.mem_map.mp h
          obtain ⟨more, hm⟩ := grown p hp
          exact ⟨_, hm⟩
        · exact ⟨o, kept b o h hb⟩
  have len := hi.length
  let tab0 : Hp := fun b => if b ∈ cs.map (·.2) then some (.tbl #[]) else none
  have okT : ∀ b, b ∈ cs.map (·.2) → ObjOk P w tab0 s.heap b (.tbl #[]) := fun b h => tabAt b h
  cases hk : K.lookup a with
  | some o =>
    have z := KX a o hk
    rw [ha] at z
    cases z
    refine go tab0 (fun p hp => if_pos (inT p hp)) (.inr ⟨_, vs.toArray, _, hk, rfl, rfl, rfl, ?_, by simpa using vals_ints hi⟩) (fun b u z => ?_) fun b u z => ?_
    · simpa [len] using hl
    · by_cases h : b ∈ cs.map (·.2)
      · cases (if_pos h).symm.trans z
        exact tabAt b h
      · cases (if_neg h).symm.trans z
    · by_cases h : b ∈ cs.map (·.2)
      · exact .inl h
      · cases (if_neg h).symm.trans z
  | none =>
    let S : HO := .frz { cls := .type "list", data := .seq vs.toArray } (.lst (ns.map V.int))
    refine go (fun b => if b = a then some S else tab0 b) (fun p hp => ?_) (.inl (.inr ⟨{ cls := .type "list", data := .seq vs.toArray }, if_pos rfl⟩)) (fun b u z => ?_) fun b u z => ?_
    · exact (if_neg fun (e : p.2 = a) => noTa (e ▸ inT p hp)).trans (if_pos (inT p hp))
    · by_cases e : b = a
      · cases (if_pos e).symm.trans z
        subst e
        exact ⟨ha, by simpa using hl, vs, _, vals_ints hi, ha⟩
      · have z := (if_neg e).symm.trans z
        by_cases h : b ∈ cs.map (·.2)
        · cases (if_pos h).symm.trans z
          exact tabAt b h
        · cases (if_neg h).symm.trans z
    · by_cases e : b = a
      · exact .inr ⟨e, hk, _, _, (Option.some.inj ((if_pos e).symm.trans z)).symm⟩
      · have z := (if_neg e).symm.trans z
        by_cases h : b ∈ cs.map (·.2)
        · exact .inl h
        · cases (if_neg h).symm.trans z
end
/-- no table of code objects is written out -/
def isTab (o : Obj) : Bool := match o.cls, o.data with
  | .none, .fields _ => true
  | _, _ => false
theorem find_mem {a : Addr} {o : Obj} : ∀ {l : List (Addr × Obj)}, l.lookup a = some o → (a, o) ∈ l
  | [], h => by cases h
  | (b, u) :: r, h => by
    have h : (match a == b with | true => some u | false => r.lookup a) = some o := h
    cases q : (a == b) with
    | true =>
      rw [q] at h
      cases h
      rw [beq_iff_eq.mp q]
      exact List.mem_cons_self
    | false =>
      rw [q] at h
      exact List.mem_cons_of_mem _ (find_mem h)
theorem no_tab {K : PySem.W.Frag} {h : Heap} {b : Addr} (X : K.In h) (hn : (K.all fun p => !isTab p.2) = true) (e : h.get? b = some { cls := .none, data := .fields #[] }) : K.lookup b = none := by
  cases z : K.lookup b with
  | none => rfl
  | some o =>
    have e1 := X _ _ z
    rw [e] at e1
    cases e1
    have := List.all_eq_true.mp hn _ (find_mem z)
    cases this
/-- a def whose table of code objects is empty at the head -/
theorem funC_tab {q : Program} {loose : List Str} {mean : ExcName → Option Value} {K : PySem.W.Frag} {h : Heap} {mg mb : Str → Option Value} {x : Str} {st : Stmt} {f : Addr} {fd : FuncData} (T : Top q loose mean mg mb h) (X : K.In h) (F : Fun K x x st f fd) (m : mg x = some (.ref f))
    (hr : ((recsOf q).any fun d => d.name == x) = true) : ∃ c pt, FunC K x x st f fd c ∧ PySem.W.CodeHd h c pt ∧ h.get? pt = some { cls := .none, data := .fields #[] } := by
  obtain ⟨d, hd, e⟩ := List.any_eq_true.mp hr
  obtain ⟨a, o, fd2, c, pt, h1, h2, h3, h4, h5, h6⟩ := T.tab d hd
  have e : d.name = x := beq_iff_eq.mp e
  rw [e, m] at h1
  cases h1
  obtain ⟨oc, od, kV, doc, pm, an, cdv, ct, osl, rfl, lk, hcd⟩ := F.ex
  have z := X _ _ lk
  rw [h2] at z
  cases z
  cases h3
  have h4 : cdv = .ref c := h4
  subst h4
  exact ⟨c, pt, ⟨⟨oc, od, kV, doc, pm, an, ct, osl, rfl, lk, hcd⟩, F.kp⟩, .of h5 h6, h6.2⟩
/-- what is known at the head's heap -/
def TopAt (l : PySem.W.OpenLaw) (w : World) (K : PySem.W.Frag) (n : Nat) (x : Str) (mg : Str → Option Value) (fa : Addr) (h : Heap) : Prop :=
  ∃ (fd : FuncData) (cs : List (Addr × Addr)) (sp : Sp), (∀ p ∈ cs, h.get? p.2 = some { cls := .none, data := .fields #[] }) ∧ (∀ p ∈ cs, K.lookup p.2 = none) ∧ (∀ p ∈ cs, PySem.W.CodeHd h p.1 p.2) ∧ (∀ (s : Shared) (u : Value), BindsTo s fd ⟨[u], []⟩ [(x, u)]) ∧
    (∀ (H : Hp) (a : Addr) (ns : List Int), ns.length ≤ n → (∀ p ∈ cs, H p.2 = some (.tbl #[])) → SqL K H a (ns.map V.int) → sp [.ref a] H (fun v _ => v = .bl true) E0) ∧
    ∀ base : Heap, K.In base → base.Ns mainGlobals mg → SysB base → (∀ p ∈ cs, GxR.TabB base mg p.1 p.2) → LawAt l.prog w K mg base fa fd [x] sp
theorem walk_topT {l : PySem.W.OpenLaw} {n : Nat} {q : Program} {loose : List Str} {XP : (Str → Option Value) → Heap → Prop} {YP : World → Heap → Prop} {d : DefRec} {K : Params → PySem.W.Frag} {x : Str}
    (hn : l.most = some n) (hn2 : n ≤ sizeLine) (hdf : d.params.defaults = []) (himp : importsNone q = true) (hY : ∀ (w : World) (h : Heap), YP w h → (K w.params).In h)
    (F : ∀ (w : World) (mean : ExcName → Option Value) (mg mb : Str → Option Value) (fa : Addr) (h : Heap), (K w.params).In h → Top q (PySem.W.looseW q loose) mean mg mb h → mg d.name = some (.ref fa) → TopAt l w (K w.params) n x mg fa h) :
    PySem.W.WalkO q loose XP YP l.row.toRowW d [] (fun f vs => PySem.call f vs) := by
  refine Att.attach_callB hn hdf ?_
  intro w _ s mg mb fa _ _ _ _ a vs ns G Y _ _ _ hmg hobj hints hlen hbits hg
  obtain ⟨fd, cs, sp, hT, nT, C, hb, hsp, hF⟩ := F w _ mg mb fa _ (hY w _ Y) G.T hmg
  exact law_topT (hY w _ Y) G.T.g G.T.b G.T.builtins G.T.nolimit hg hT nT C G.T.bmain hobj hints (Nat.le_trans hlen hn2) (let ⟨mm, e, _⟩ := (G.T.seer himp).mods; ⟨mm, e⟩) hF hb fun H hH hS => hsp H a ns hlen hH hS
end Zk

set_option maxHeartbeats 4000000
/-! E0: own error classes over an own class over Exception: made as values (tracked in the abstract heap), their fields read, asked by isinstance. -/
namespace Zk
open PySem PySem.Spec PyProof.Rows L2
open PySem.W (findIn subIn typeIn keepIn excTail)

/-- the class at C: own classes bm' and then Exception's line behind it; its objects have a dict -/
structure OwnE (K : PySem.W.Frag) (C : Addr) : Prop where
  obj : ∃ nm q N bs bm sn sub ab col dd k0 k1 k2 k3 k5, K.lookup C = some (excClassObj nm q C N bs bm true sn sub ab col dd k0 k1 k2 k3 k5 "Exception.__new__") ∧ excTail PySem.ESX.exTail bm = true
  sa : findIn K (.ref C) "__setattr__" = some (some (.builtin "object.__setattr__"))
  ga : findIn K (.ref C) "__getattribute__" = some (some (.builtin "BaseException.__getattribute__"))
  gg : findIn K (.ref C) "__getattr__" = some none
  ca : findIn K (.ref C) "__class__" = some (some (.builtin "object.__class__"))
  exC : subIn K (.ref C) (.type "BaseException") = some true
  tyC : typeIn K (.ref C) = some (.type "type")
  kC : keepIn K (.ref C) = true
/-- what isinstance asks besides, of no one class -/
structure ClsG (K : PySem.W.Frag) : Prop where
  sp : PySem.W.specialIn K (.builtin "object.__class__") "__get__" = some (some (.builtin "getset_descriptor.__get__"))
  tk : PySem.W.takesIn K (.builtin "object.__class__") = some true
section
variable {K : PySem.W.Frag} {C : Addr}
theorem OwnE.cd (T : OwnE K C) : ∃ cd, PySem.W.clsIn K C = some cd ∧ cd.hasDict = true ∧ (∃ bm, cd.mro = .ref C :: bm ∧ excTail PySem.ESX.exTail bm = true) := by
  obtain ⟨nm, q, N, bs, bm, sn, sub, ab, col, dd, k0, k1, k2, k3, k5, h, hb⟩ := T.obj
  refine ⟨{ name := nm, bases := bs, mro := .ref C :: bm, ns := N, qualname := q, hasDict := true, slotNames := sn, subclasses := sub, abstract := ab, collection := col, hasDel := false }, ?_, rfl, bm, rfl, hb⟩
  unfold PySem.W.clsIn
  rw [h]
theorem OwnE.isCls (T : OwnE K C) : (PySem.W.clsIn K C).isSome = true := by
  obtain ⟨cd, h, _⟩ := T.cd
  rw [h]
  rfl
theorem OwnE.mro (T : OwnE K C) {n : String} (hn : (PySem.ESX.exTail).contains (.type n) = true) : PySem.W.mroIn K C (.type n) = some true := by
  obtain ⟨cd, h, _, bm, hm, hb⟩ := T.cd
  unfold PySem.W.mroIn
  rw [h, Option.bind_some, hm, if_neg (show ¬ (List.isEmpty (Value.ref C :: bm) = true) from Bool.false_ne_true), List.contains_cons, PySem.W.excTail_contains n bm hb, hn, Bool.or_true]
theorem OwnE.pass (T : OwnE K C) {cd : ClassData} (h : PySem.W.clsIn K C = some cd) (self : Value) : refuseLoop self "__setattr__" cd.mro = pure () := by
  obtain ⟨cd', h', _, bm, hm, hb⟩ := T.cd
  rw [h] at h'
  cases h'
  exact PySem.W.excTail_pass self (F.store_Exception.passes self) _ (by rw [hm]; exact hb)
end

/-! ### the first store into such an object: its dict is laid -/
section
open Builtin Builtin.ObjectAttr
variable {prog : Program} {w : World} {A : Around} {R : Result → Shared → Prop} {h0 : Heap} {g : Array GenState} {d : Drawn} {t : Nat} {os : OsState} {K : PySem.W.Frag} {x C : Addr} {name : Str}
theorem first_store (T : OwnE K C) {tk : Tok} {v : Value} {flds : Array Value} (X : K.In h0) (hx : h0.get? x = some { cls := .ref C, data := .fields flds }) (ha : findIn K (.ref C) name = some none)
    (hq : ∀ h1 tk' dx, (∀ b o, b ≠ x → h0.get? b = some o → h1.get? b = some o) → h0.objs.size ≤ dx → dx ≠ x → h1.get? x = some { cls := .ref C, dict := some dx, data := .fields flds } →
      h1.Ns1 dx (fun y => if y = name then some v else none) → R (.ok (.ret .none)) ⟨h1, g, d, tk', os⟩) :
    codeAny (model prog w) A (.call (.builtin "object.__setattr__") ⟨[.ref x, .str name tk, v], []⟩) R ⟨h0, g, d, t, os⟩ := by
  obtain ⟨cd, hcd, hdict, _⟩ := T.cd
  have at_x : PySem.W.InstAt h0 x { cls := .ref C, data := .fields flds } C none := ⟨hx, rfl, rfl, trivial⟩
  have apart : x ≠ h0.objs.size := Nat.ne_of_lt (Heap.lt_size hx)
  have S := F.store_object
  have isObj : PySem.W.Looks (model prog w) h0 (isInstance (.ref x) (.type "object")) true := at_x.type.andThen (PySem.W.looks_mroIn X (T.mro (by decide +kernel)))
  have line : PySem.W.Looks (model prog w) h0 (mroOf (.ref C)) cd.mro := (PySem.W.looks_clsIn X hcd).andThen .now
  have data : PySem.W.Looks (model prog w) h0 (classData C) cd := PySem.W.looks_clsIn X hcd
  have free : PySem.W.Looks (model prog w) h0 (storeTaker? none) none := .now
  refine codeAny_call_builtin S.slot.plain S.entry ?_
  refine @PySem.W.check_slot (model prog w) _ _ ⟨h0, g, d, t, os⟩ "object.__setattr__" "object" "__setattr__" (.ref x) [.str name tk, v] [] _ S.kind S.split isObj (S.args (.ref x) (.str name tk) v) ?_
  rw [PySem.W.osa_eq, refuse_eq]
  refine wpAny_bind (wpAny_bind (at_x.type.at (wpAny_bind (line.at ?_))))
  rw [T.pass hcd (.ref x)]
  refine wpAny_pure (wpAny_bind (at_x.type.at (wpAny_bind ?_)))
  refine (PySem.W.looks_findIn X ha).at (wpAny_bind (free.at ?_))
  show wpAny _ _ (storeInOwnDict (.ref x) (.ref C) (.str name tk) name v false) _ _ _
  obtain ⟨_, _, _, _, _, hd, _, _, _, _, _⟩ := cd
  cases (show hd = true from hdict)
  unfold storeInOwnDict ownDictForStores
  repeat (first | with_reducible refine HandSPX.store_in_new ?_ ?_ | with_reducible refine wpAny_loadPart_at hx ?_ | with_reducible refine data.at ?_ | wp_step)
  · exact ⟨_, #[], _, (Heap.get?_update_ne _ _ _ _ apart.symm).trans (Heap.get?_push_at rfl rfl), rfl, fun _ he => absurd he (by simp), fun _ => rfl⟩
  · intro h1 tk' hn hs
    have old : ∀ {b o}, h0.get? b = some o → (h0.push { cls := .type "dict", data := .dict #[] }).get? b = some o := fun e => Heap.get?_push_of_some _ e
    exact hq h1 tk' h0.objs.size (fun b o hb ho => (hs.2 b (Nat.ne_of_lt (Heap.lt_size ho))).trans ((Heap.get?_update_ne _ _ _ _ hb).trans (old ho))) (Nat.le_refl _) apart.symm
      ((hs.2 x apart).trans (Heap.get?_update_self _ (old hx) rfl)) hn
end

section
variable {X : Cx} {pins : List (Addr × Obj)} {σ : List (Option V)} {H : Hp} {s : Shared} {a C : Addr} {f : Str} {y : V} {u : Value}
/-- self.f = y, the first field of a new error -/
theorem est_new (T : OwnE X.K C) (I : Inv X pins σ H s) (e : H a = some (exo a C none)) (hno : findIn X.K (.ref C) f = some none) (ry : RelV y u) {Q : Unit → Shared → Prop} {E : Value → Shared → Prop} {A : Around}
    (h : ∀ dx s', H dx = none → dx ≠ a → Inv X pins σ (upd (upd H dx (exd dx [(f, y)])) a (exo a C (some dx))) s' → Q () s') : wpAny (model X.prog X.w) A (setAttr (.ref a) f u) Q E s := by
  obtain ⟨t1, ho⟩ := exo_at I.hok e
  obtain ⟨hp, g, d, t, os⟩ := s
  refine PySem.W.set_plain I.kIn (od := none) ⟨ho, rfl, rfl, trivial⟩ T.sa (first_store T I.kIn ho hno ?_)
  intro h1 tk' dx keep big apart hx hn
  have fresh : H dx = none := I.hok.fresh big
  have low : ∀ {b : Addr} {o : Obj}, hp.get? b = some o → b ≠ dx := fun q => Nat.ne_of_lt (Nat.lt_of_lt_of_le (Heap.lt_size q) big)
  have nota : ∀ {b : Addr}, H b = none → b ≠ a := fun n z => by
    rw [z, e] at n
    cases n
  have two : ∀ {b : Addr} {o : HO}, o ≠ exo a C none → H b = some o → upd (upd H dx (exd dx [(f, y)])) a (exo a C (some dx)) b = some o := @fun b o n q => by
    have nb : b ≠ a := fun z => by
      rw [z, e] at q
      exact n (Option.some.inj q).symm
    rw [upd_ne nb, upd_ne (ne_of_none q fresh)]
    exact q
  have U : Un X.fs [] H (upd (upd H dx (exd dx [(f, y)])) a (exo a C (some dx))) hp h1 := by
    constructor
    · exact fun b o q n _ _ => keep b o (nota n) q
    · exact fun b o q n _ _ => ⟨o.slots, keep b o (nota n) q⟩
    · exact fun b o q n _ => by rw [upd_ne (nota n), upd_ne (low q)] <;> exact n
    · intro b o q _
      by_cases hb : b = a
      · exact ⟨_, hb ▸ hx⟩
      · exact ⟨o, keep b o hb q⟩
    · exact fun b xs q => two exo_tup.symm q
    · exact fun b o v q => two exo_frz.symm q
    · exact fun b ps q => ⟨#[], by rw [two exo_tbl.symm q]; simp⟩
  refine h dx _ fresh apart (I.un (t' := tk') U fun b o q => ?_)
  by_cases hb : b = a
  · subst hb
    rw [upd_same] at q
    cases q
    exact exo_ok hx
  rw [upd_ne hb] at q
  by_cases hd : b = dx
  · subst hd
    rw [upd_same] at q
    cases q
    exact exd_ok hn (relO_put (fs := []) ry fun _ => True.intro)
  rw [upd_ne hd] at q
  refine (I.hok b o q).stay (fun c v hc z => keep c v ?_ z) (fun c hc => two exo_own.symm hc) fun c xs hc => two exo_tup.symm hc
  rcases hc with hc | hc
  · exact hc ▸ hb
  · exact fun z => by
      rw [z, e] at hc
      exact exo_own (Option.some.inj hc)
/-- Exception.__init__ of a new error -/
theorem einit (T : OwnE X.K C) (I : Inv X pins σ H s) (e : H a = some (exo a C none)) {us : List Value} (hl : us.length ≤ sizeLine) {Q : Value → Shared → Prop} (h : ∀ s', Inv X pins σ H s' → Q .none s') :
    wpAny (model X.prog X.w) X.A (call (.builtin "Exception.__init__") (.ref a :: us)) Q X.xe s := by
  obtain ⟨_, _, _, _, bm, _, _, _, _, _, _, _, _, _, _, hC, hbm⟩ := T.obj
  obtain ⟨t1, ho⟩ := exo_at I.hok e
  obtain ⟨hp, g, d, t, os⟩ := s
  refine wpAny_call (HandSPX.init_base F.excBase_Exception (fun n => PySem.W.excTail_contains n bm hbm) (I.kIn _ _ hC) ho hl fun h1 t2 keep hx => ?_)
  have J := I.write (t' := t) (x := a) (e := a) (o := exo a C none) (by rw [e]; exact True.intro) (.inl rfl) keep ⟨_, hx⟩ (exo_ok hx)
  have same : upd H a (exo a C none) = H := funext fun b => by
    by_cases hb : b = a
    · rw [hb, upd_same, e]
    · exact upd_ne hb
  exact h _ (same ▸ J)
end

/-! ### the rules -/
/-- Base.__init__(self, ..), Base an own class at B over Exception, on a new error -/
def tBase (K : PySem.W.Frag) (ta : TA) : TE := fun σ H Q => ta σ H fun vs H1 => ∃ (a C : Addr) (ws : List V), vs = .ref a :: ws ∧ ws.length ≤ 1000 ∧ OwnE K C ∧ H1 a = some (exo a C none) ∧ Q .non H1
/-- self.f = e on a new error -/
def tFirst (K : PySem.W.Frag) (f : Str) (to te : TE) : TS := fun D σ H => te σ H fun y H1 => to σ H1 fun x H2 => ∃ a C : Addr, x = .ref a ∧ OwnE K C ∧ findIn K (.ref C) f = some none ∧ H2 a = some (exo a C none) ∧
  ∀ dx, H2 dx = none → dx ≠ a → D.nx σ (upd (upd H2 dx (exd dx [(f, y)])) a (exo a C (some dx)))
/-- C(e, ..) as a value, C's own __init__ keeping sp -/
def tMkE (C : Addr) (sp : Sp) (gV : List V → List V → List V) (ta tk : TA) : TE := fun σ H Q => ta σ H fun vs H1 => tk σ H1 fun zs H2 => vs.length + zs.length ≤ 1000 ∧
  ∀ a, H2 a = none → sp (.ref a :: gV vs zs) (upd H2 a (exo a C none)) (fun v H3 => v = .non ∧ Q (.ref a) H3) E0
section
variable {X : Cx} {o e : Expr} {es : List Expr} {to te : TE} {ta : TA} {f : Str} {p p' p1 p2 pos : Pos} {B C : Addr} {x : Str}
theorem pe_base {pl : Sem Bool} (hg : Gl X x) (hm : X.mg x = some (.ref B)) (hs : PySem.W.specialIn X.K (.ref B) "__getattribute__" = some (some (.builtin "type.__getattribute__")))
    (hr : PySem.W.readsIn X.K B (.type "type") = true) (hv : PySem.W.findCls X.K (.ref B) (.type "type") "__init__" = some (.val (.builtin "Exception.__init__"))) (ha : PA X (e :: es) ta)
    (hc : eval (.Call (.Attribute (.Name x p1) "__init__" p2) (e :: es) [] pos) X.env = (do
      let ov ← eval (.Name x p1) X.env
      standAt p2.atName
      let (f, first) ← holding [ov] (getMethod ov "__init__" pl)
      callWith pos f first (backTo pos (starEach (e :: es) X.env)) (backToKw pos (keywordEach [] X.env))) := by rfl)
    (hd : (x == ("__debug__" : Str)) = false := by decide) (he : starEach (e :: es) X.env = (false, eval e X.env) :: starEach es X.env := by rfl) (hpl : (backTo pos (starEach es X.env)).any (·.1) = false := by rfl) :
    PE X (.Call (.Attribute (.Name x p1) "__init__" p2) (e :: es) [] pos) (tBase X.K ta) := by
  refine ⟨fun pins s σ H Q I h => PySem.W.methodCall_KW (ld_glob I hg hm ?_ hd) hc⟩
  refine PySem.W.method_cls I.kIn hs (PySem.W.cls_value I.kIn hr hv (by decide +kernel) ?_)
  show wpAny _ _ (callWith pos (Value.builtin "Exception.__init__") [] (backTo pos (starEach (e :: es) X.env)) []) _ _ _
  refine PyProof.Rows.callWith_method1 (thn (ha.run pos pins _ σ H _ (I.tok _) h) ?_) he hpl
  rintro us s1 ⟨vs, H1, I1, r1, a, C, ws, rfl, hl, T, ea, q⟩
  cases r1 with
  | @cons _ u0 _ ur ra rw' =>
    obtain rfl : u0 = Value.ref a := ra
    refine einit T I1 ea ?_ fun s' J => ⟨.non, H1, J, rfl, q⟩
    have := Paired.length rw'
    rw [sizeLine_eq]
    omega
theorem ps_first (ho : PE X o to) (he : PE X e te) (hs : swapsWith e (some (.Attribute o f p')) pos.line X.env = pure false := by rfl) : PS X (.Assign [.Attribute o f p'] e pos) (tFirst X.K f to te) := by
  refine ⟨fun pins s σ H D I h => plainObj_wpAny_Assign_Attribute (thn (he.run pins s σ H _ I h) ?_) hs⟩
  rintro v s1 ⟨y, H1, I1, r1, q1⟩
  refine thn (ho.run pins s1 σ H1 _ I1 q1) ?_
  rintro u s2 ⟨x, H2, I2, r2, a, C, rfl, T, hno, ea, q⟩
  obtain rfl : u = Value.ref a := r2
  exact est_new T I2 ea hno r1 fun dx s' n ne J => ⟨σ, _, J, q dx n ne⟩
end
end Zk

set_option maxHeartbeats 4000000
/-! E1: making such an error, its arguments by position or by name. -/
namespace Zk
open PySem L2
section
variable {M : Model} {A : Around} {E : Value → Shared → Prop} {h : Heap} {g : Array GenState} {d : Drawn} {t : Nat} {os : OsState}
variable {nm q : Str} {C N : Addr} {bs bm bmB : List Value} {hdct : Bool} {sn : List Str} {sub : List Value} {ab : Bool} {col : Option Bool} {dd : Option Addr} {k0 k1 k2 k3 k5 : Option Value} {B newId initId : String}
/-- __new__ may be called with any arguments, named ones too -/
theorem new_asked (F : ExcBaseFacts B newId initId bmB) (hT : ∀ X : String, bm.contains (.type X) = bmB.contains (.type X)) {us : List Value} {kw : List (Str × Value)} {Q : Unit → Shared → Prop}
    (hC : h.get? C = some (excClassObj nm q C N bs bm hdct sn sub ab col dd k0 k1 k2 k3 k5 newId)) (hq : Q () ⟨h, g, d, t, os⟩) :
    wpAny M A (checkBuiltinCall newId ⟨.ref C :: us, kw⟩) Q E ⟨h, g, d, t, os⟩ := by
  have of_B : (Value.ref C :: bm).contains (.type B) = true := by rw [List.contains_cons, hT, F.hasB, Bool.or_true]
  have star := F.noStar
  simp only [checkBuiltinCall, F.newKind, F.newSplit, F.newRow]
  repeat (first
    | refine wpAny_loadPart_at hC ?_
    | (refine wpAny_isSubtype_exc hC ?_; rw [of_B])
    | refine wpAny_staticBase_exc hC ?_
    | refine wpAny_madeBy_exc hC ?_
    | simp only [bne_self_eq_false, Bool.false_eq_true, if_false]
    | wp_step)
  exact hq
variable {prog : Program} {w : World} {R : Result → Shared → Prop}
/-- what __new__ lays: the arguments by position, then the error -/
theorem new_laid (F : ExcBaseFacts B newId initId bmB) (hT : ∀ X : String, bm.contains (.type X) = bmB.contains (.type X)) {us : List Value} {kw : List (Str × Value)}
    (hC : h.get? C = some (excClassObj nm q C N bs bm hdct sn sub ab col dd k0 k1 k2 k3 k5 newId)) (hus : us.length ≤ sizeLine)
    (hq : R (.ok (.ret (.ref (h.objs.size + 1)))) ⟨(h.push (W.kdv_tup us)).push (HandSPX.excO C h.objs.size), g, d, t, os⟩) :
    codeAny (model prog w) A (.builtin newId ⟨.ref C :: us, kw⟩) R ⟨h, g, d, t, os⟩ := by
  have ends := F.ends
  have of_B : (Value.ref C :: bm).contains (.type B) = true := by rw [List.contains_cons, hT, F.hasB, Bool.or_true]
  have no_A : (Value.ref C :: bm).contains (.type "AttributeError") = false := by
    rw [List.contains_cons, hT, F.noAttr]
    rfl
  have no_N : (Value.ref C :: bm).contains (.type "NameError") = false := by
    rw [List.contains_cons, hT, F.noName]
    rfl
  refine codeAny_builtinAt F.entry ?_
  unfold Builtin.«BaseException.__new__»
  refine wpAt_bind ?_
  show wpAt _ _ _ (stack >>= _) _ _ _
  refine wpAt_bind (wpAt_stack fun _ _ => wpAt_of_wpAny ?_)
  wp_walk
  refine wpAt_of_wpAny ?_
  rw [F.owner]
  repeat (first
    | with_reducible refine wpAny_madeHere_exc F.canon hC ?_
    | with_reducible refine wpAny_loadPart_at hC ?_
    | (with_reducible refine wpAny_isSubtype_exc hC ?_; first | rw [of_B] | rw [no_A] | rw [no_N])
    | wp_step)
  show R _ _
  rw [Heap.size_push]
  exact hq
theorem type_asked {us : List Value} {kw : List (Str × Value)} {Q : Unit → Shared → Prop} (hC : h.get? C = some (excClassObj nm q C N bs bm hdct sn sub ab col dd k0 k1 k2 k3 k5 newId)) (hq : Q () ⟨h, g, d, t, os⟩) :
    wpAny M A (checkBuiltinCall "type.__call__" ⟨.ref C :: us, kw⟩) Q E ⟨h, g, d, t, os⟩ := by
  have sub := tc_sub
  have ty : (⟨h, g, d, t, os⟩ : Shared).TypeIs (.ref C) "type" := ⟨_, hC, rfl⟩
  simp only [checkBuiltinCall, tc_kind, tc_split]
  repeat (any_goals (first
    | assumption
    | with_reducible refine wpAny_loadPart_at hC ?_
    | with_reducible refine wpAny_onRaise ?_
    | with_reducible refine wpAny_map ?_
    | wp_step))
/-- the class called: __new__, then the def at fI with the same arguments behind the new error -/
theorem called (F : ExcBaseFacts B newId initId bmB) (hT : ∀ X : String, bm.contains (.type X) = bmB.contains (.type X)) {us : List Value} {kw : List (Str × Value)} {fI : Addr}
    (hC : h.get? C = some (excClassObj nm q C N bs bm hdct sn sub ab col dd k0 k1 k2 k3 k5 newId)) (hus : us.length ≤ sizeLine)
    (hi : W.Looks (model prog w) h (typeLookup (.ref C) "__init__") (some (.ref fI))) (hb : ∀ self, W.Looks (model prog w) h (bindSpecial (.ref fI) self) (.ref fI, [self]))
    (hq : codeAny (model prog w) (A.under (.builtin "type.__call__" ⟨.ref C :: us, kw⟩)) (.call (.ref fI) ⟨.ref (h.objs.size + 1) :: us, kw⟩) (W.InitBack (h.objs.size + 1) R)
      ⟨(h.push (W.kdv_tup us)).push (HandSPX.excO C h.objs.size), g, d, t, os⟩) :
    codeAny (model prog w) A (.call (.ref C) ⟨us, kw⟩) R ⟨h, g, d, t, os⟩ := by
  have f1 := tc_lookup
  have f2 := tc_bind (.ref C)
  have ty : (⟨h, g, d, t, os⟩ : Shared).TypeIs (.ref C) "type" := ⟨_, hC, rfl⟩
  refine codeAny_of_tree ?_
  show wpAny _ _ (callAny (.ref C) _) _ _ _
  repeat (any_goals (first
    | assumption
    | with_reducible refine wpAny_loadPart_at hC ?_
    | wp_step))
  refine ⟨rfl, ?_⟩
  refine codeAny_call_builtin_at (Code.quiet_builtin _ (by decide +kernel)) entry_typeCall (type_asked hC ?_)
  repeat (first
    | with_reducible refine wpAny_loadPart_at hC ?_
    | with_reducible refine wpAny_madeBy_exc hC ?_
    | wp_step)
  refine codeAny_call_builtin_code (Code.quiet_builtin _ F.quiet) (new_asked F hT hC (new_laid F hT hC hus ?_))
  show wpAny _ _ _ _ _ ⟨(h.push (W.kdv_tup us)).push (HandSPX.excO C h.objs.size), g, d, t, os⟩
  have old : ∀ b o, h.get? b = some o → ((h.push (W.kdv_tup us)).push (HandSPX.excO C h.objs.size)).get? b = some o := fun b o e => Heap.get?_push_of_some _ (Heap.get?_push_of_some _ e)
  have new : ((h.push (W.kdv_tup us)).push (HandSPX.excO C h.objs.size)).get? (h.objs.size + 1) = some (HandSPX.excO C h.objs.size) := by heap_get
  have self : (Value.ref C :: bm).contains (.ref C) = true := by simp
  have hC1 := old _ _ hC
  have hi1 := hi.keeps old
  have hb1 := (hb (.ref (h.objs.size + 1))).keeps old
  unfold isInstance
  repeat (first
    | with_reducible refine wpAny_loadPart_at new ?_
    | (with_reducible refine wpAny_isSubtype_exc hC1 ?_; rw [self])
    | wp_step)
  show wpAny _ _ (typeLookup (.ref C) _) _ _ _
  refine hi1.at (wpAny_holding (wpAny_bind (hb1.at ?_)))
  refine wpAny_bind (wpAny_call (codeAny_mono hq fun r s' z => ?_))
  match r, z with
  | .error e, z => exact z
  | .ok .next, z => exact z.elim
  | .ok .brk, z => exact z.elim
  | .ok .cont, z => exact z.elim
  | .ok (.ret v), ⟨e, z⟩ =>
    subst e
    first
      | exact wpAny_pure (wpAny_pure z)
      | (wp_walk; exact z)
end
end Zk

set_option maxHeartbeats 4000000
/-! E2: the rules for own errors: made as values, their fields read, isinstance asked, raised. -/
namespace Zk
open PySem PySem.Spec PyProof.Rows L2
open PySem.W (findIn subIn typeIn keepIn excTail)

/-- an error of the class at C that stands at a, with its one field f that holds v -/
def ErrAt (H : Hp) (C : Addr) (f : Str) (v : V) (a : Addr) : Prop := ∃ d, H a = some (exo a C (some d)) ∧ H d = some (exd d [(f, v)])
theorem ErrAt.same {H H' : Hp} (e : Same H H') {C : Addr} {f : Str} {v : V} {a : Addr} (h : ErrAt H C f v a) : ErrAt H' C f v a := by
  obtain ⟨d, h1, h2⟩ := h
  exact ⟨d, e _ _ h1, e _ _ h2⟩

section
variable {X : Cx} {o e : Expr} {es : List Expr} {to te : TE} {ta : TA} {f : Str} {p p' p1 p2 pos : Pos} {B C fI : Addr} {x : Str} {pins : List (Addr × Obj)} {σ : List (Option V)} {H : Hp} {s : Shared}
/-- how the arguments of a call by position, or by name, come to __init__'s parameters -/
def KwOk (K : PySem.W.Frag) (fd : FuncData) (ps ks : List Str) (n m : Nat) : Prop :=
  ∀ (s : Shared) (a : Addr) (us ws : List Value), K.In s.heap → us.length = n → ws.length = m → BindsTo s fd ⟨.ref a :: us, ks.zip ws⟩ (ps.zip (.ref a :: (us ++ ws)))
/-- the new object, and then its own __init__ -/
theorem run_mke {k n m : Nat} {fd : FuncData} {ps ks : List Str} {sp : Sp} {R : Result → Shared → Prop} {us ws : List Value} {vs zs : List V} {Q : VK}
    (T : OwnE X.K C) (iC : findIn X.K (.ref C) "__init__" = some (some (.ref fI))) (tI : typeIn X.K (.ref fI) = some (.type "function")) (F1 : FnOk X.prog X.w X.K X.mg X.base CX0 k fI fd ps sp) (hr : Room (k + 1) X.A)
    (hb : KwOk X.K fd ps ks n m) (r : Vals vs us) (rz : Vals zs ws) (hn : us.length = n) (hm : ws.length = m) (hz : us.length ≤ 1000) (I : Inv X pins σ H s)
    (h : ∀ a, H a = none → sp (.ref a :: (vs ++ zs)) (upd H a (exo a C none)) Q E0) (back : ∀ u v H' s' a, H a = none → L2.RelV v u → Q v H' → u = Value.none ∧ (s'.os = s.os → AllBare s'.gens → HOk X.prog X.w H' s'.heap →
      ∀ hp2 : Heap, (∀ b o, s.heap.get? b = some o → hp2.get? b = some o) → s.heap.objs.size ≤ a → Un (frs X.stack) [] (upd H a (exo a C none)) H' hp2 s'.heap → R (.ok (.ret (.ref a))) s')) :
    codeAny (model X.prog X.w) X.A (.call (.ref C) ⟨us, ks.zip ws⟩) R s := by
  obtain ⟨nm, q, N, bs, bm, sn, sub, ab, col, dd, k0, k1, k2, k3, k5, hC, hbm⟩ := T.obj
  obtain ⟨hp, g, dr, tk, os⟩ := s
  have big : hp.objs.size ≤ hp.objs.size + 1 := Nat.le_succ _
  have none1 : H (hp.objs.size + 1) = none := I.hok.fresh big
  have old : ∀ b o, hp.get? b = some o → ((hp.push (PySem.W.kdv_tup us)).push (HandSPX.excO C hp.objs.size)).get? b = some o := fun b o e => Heap.get?_push_of_some _ (Heap.get?_push_of_some _ e)
  have new : ((hp.push (PySem.W.kdv_tup us)).push (HandSPX.excO C hp.objs.size)).get? (hp.objs.size + 1) = some (HandSPX.excO C hp.objs.size) := by heap_get
  have J : Inv X pins σ (upd H (hp.objs.size + 1) (exo (hp.objs.size + 1) C none)) ⟨(hp.push (PySem.W.kdv_tup us)).push (HandSPX.excO C hp.objs.size), g, dr, tk, os⟩ := I.laid (t' := tk) old big (exo_ok new)
  have rr : Vals (V.ref (hp.objs.size + 1) :: (vs ++ zs)) (Value.ref (hp.objs.size + 1) :: (us ++ ws)) := .cons rfl (r.append rz)
  have line : us.length ≤ sizeLine := by
    rw [sizeLine_eq]
    omega
  refine called F.excBase_Exception (fun n => PySem.W.excTail_contains n bm hbm) (I.kIn _ _ hC) line (PySem.W.looks_findIn I.kIn iC) (fun self => PySem.W.bind_fn I.kIn self tI) ?_
  refine codeAny_mono (F1.run _ X.stack _ _ ⟨.ref (hp.objs.size + 1) :: us, ks.zip ws⟩ _ _ Q E0 (hr.make C us (ks.zip ws)) (J.env0.make C us (ks.zip ws)) (hb _ _ us ws J.kIn hn hm) rr (h _ none1)) ?_
  intro r s' z
  match r, z with
  | .error er, z => exact z.elim
  | .ok .next, z => exact z.elim
  | .ok .brk, z => exact z.elim
  | .ok .cont, z => exact z.elim
  | .ok (.ret u), ⟨v, H2, os2, bare2, un2, hok2, rv, q2⟩ =>
    obtain ⟨e1, fin⟩ := back u v H2 s' (hp.objs.size + 1) none1 rv q2
    exact ⟨e1, fin os2 bare2 hok2 _ old big un2⟩
/-- .. held as a value -/
theorem run_mkv {k n m : Nat} {fd : FuncData} {ps ks : List Str} {sp : Sp} {us ws : List Value} {vs zs : List V} {Q : VK}
    (T : OwnE X.K C) (iC : findIn X.K (.ref C) "__init__" = some (some (.ref fI))) (tI : typeIn X.K (.ref fI) = some (.type "function")) (F1 : FnOk X.prog X.w X.K X.mg X.base CX0 k fI fd ps sp) (hr : Room (k + 1) X.A)
    (hb : KwOk X.K fd ps ks n m) (r : Vals vs us) (rz : Vals zs ws) (hn : us.length = n) (hm : ws.length = m) (hz : us.length ≤ 1000) (I : Inv X pins σ H s)
    (h : ∀ a, H a = none → sp (.ref a :: (vs ++ zs)) (upd H a (exo a C none)) (fun v H3 => v = .non ∧ Q (.ref a) H3) E0) :
    wpAny (model X.prog X.w) X.A (call (.ref C) us (ks.zip ws)) (EP X pins σ Q) X.xe s := by
  obtain ⟨nm, q, N, bs, bm, sn, sub, ab, col, dd, k0, k1, k2, k3, k5, hC, hbm⟩ := T.obj
  obtain ⟨hp, g, dr, tk, os⟩ := s
  have big : hp.objs.size ≤ hp.objs.size + 1 := Nat.le_succ _
  have none1 : H (hp.objs.size + 1) = none := I.hok.fresh big
  have old : ∀ b o, hp.get? b = some o → ((hp.push (PySem.W.kdv_tup us)).push (HandSPX.excO C hp.objs.size)).get? b = some o := fun b o e => Heap.get?_push_of_some _ (Heap.get?_push_of_some _ e)
  have new : ((hp.push (PySem.W.kdv_tup us)).push (HandSPX.excO C hp.objs.size)).get? (hp.objs.size + 1) = some (HandSPX.excO C hp.objs.size) := by heap_get
  have J : Inv X pins σ (upd H (hp.objs.size + 1) (exo (hp.objs.size + 1) C none)) ⟨(hp.push (PySem.W.kdv_tup us)).push (HandSPX.excO C hp.objs.size), g, dr, tk, os⟩ := I.laid (t' := tk) old big (exo_ok new)
  have rr : Vals (V.ref (hp.objs.size + 1) :: (vs ++ zs)) (Value.ref (hp.objs.size + 1) :: (us ++ ws)) := .cons rfl (r.append rz)
  have line : us.length ≤ sizeLine := by
    rw [sizeLine_eq]
    omega
  refine wpAny_call (called F.excBase_Exception (fun n => PySem.W.excTail_contains n bm hbm) (I.kIn _ _ hC) line (PySem.W.looks_findIn I.kIn iC) (fun self => PySem.W.bind_fn I.kIn self tI) ?_)
  refine codeAny_mono (F1.run _ X.stack _ _ ⟨.ref (hp.objs.size + 1) :: us, ks.zip ws⟩ _ _ _ E0 (hr.make C us (ks.zip ws)) (J.env0.make C us (ks.zip ws)) (hb _ _ us ws J.kIn hn hm) rr (h _ none1)) ?_
  intro r s' z
  match r, z with
  | .error er, z => exact z.elim
  | .ok .next, z => exact z.elim
  | .ok .brk, z => exact z.elim
  | .ok .cont, z => exact z.elim
  | .ok (.ret u), z =>
    obtain ⟨v, H2, J2, rv, e, q2⟩ := J.after z
    subst e
    exact ⟨rv, .ref (hp.objs.size + 1), H2, J2, rfl, q2⟩
/-- C(e, ..) -/
theorem pe_mkv {k n : Nat} {fd : FuncData} {ps : List Str} {sp : Sp} (T : OwnE X.K C) (iC : findIn X.K (.ref C) "__init__" = some (some (.ref fI))) (tI : typeIn X.K (.ref fI) = some (.type "function"))
    (F1 : FnOk X.prog X.w X.K X.mg X.base CX0 k fI fd ps sp) (hr : Room (k + 1) X.A) (hb : KwOk X.K fd ps [] n 0) (hg : Gl X x) (hm : X.mg x = some (.ref C)) (ha : PA X (e :: es) ta)
    (hdb : (x == ("__debug__" : Str)) = false := by decide) (he : starEach (e :: es) X.env = (false, eval e X.env) :: starEach es X.env := by rfl) (hpl : (backTo pos (starEach es X.env)).any (·.1) = false := by rfl) :
    PE X (.Call (.Name x p) (e :: es) [] pos) (fun σ H Q => ta σ H fun vs H1 => vs.length = n ∧ n ≤ 1000 ∧ ∀ a, H1 a = none → sp (.ref a :: vs) (upd H1 a (exo a C none)) (fun v H3 => v = .non ∧ Q (.ref a) H3) E0) := by
  refine ⟨fun pins s σ H Q I h => wpAny_Call_Name_kw (ld_glob I hg hm ?_ hdb)⟩
  refine PySem.W.callWith_K (h₀ := X.base) I.ok.mod.kin T.kC (thn (ha.run pos pins s σ H _ I h) ?_) he hpl
  rintro us s1 ⟨vs, H1, I1, r1, rfl, hz, q1⟩
  have := run_mkv (ks := []) (ws := []) (zs := []) T iC tI F1 hr hb r1 .nil r1.length.symm rfl (by rw [← r1.length]; exact hz) I1 (fun a na => by simpa using q1 a na)
  exact ⟨I1.kIn, this⟩
/-- C() -/
theorem pe_mkv0 {k : Nat} {fd : FuncData} {ps : List Str} {sp : Sp} (T : OwnE X.K C) (iC : findIn X.K (.ref C) "__init__" = some (some (.ref fI))) (tI : typeIn X.K (.ref fI) = some (.type "function"))
    (F1 : FnOk X.prog X.w X.K X.mg X.base CX0 k fI fd ps sp) (hr : Room (k + 1) X.A) (hb : KwOk X.K fd ps [] 0 0) (hg : Gl X x) (hm : X.mg x = some (.ref C)) (hdb : (x == ("__debug__" : Str)) = false := by decide) :
    PE X (.Call (.Name x p) [] [] pos) (fun σ H Q => ∀ a, H a = none → sp [.ref a] (upd H a (exo a C none)) (fun v H3 => v = .non ∧ Q (.ref a) H3) E0) := by
  refine ⟨fun pins s σ H Q I h => wpAny_Call_Name_kw (ld_glob I hg hm ?_ hdb)⟩
  refine PySem.W.callWith_K0 I.kIn T.kC ?_
  exact run_mkv (ks := []) (us := []) (ws := []) (vs := []) (zs := []) T iC tI F1 hr hb .nil .nil rfl rfl (Nat.zero_le _) I (fun a na => h a na)
/-- C(k = e, ..) -/
theorem pe_mkvK {k m : Nat} {fd : FuncData} {ps ks : List Str} {sp : Sp} {kws : List Keyword} {tk : TA} (T : OwnE X.K C) (iC : findIn X.K (.ref C) "__init__" = some (some (.ref fI))) (tI : typeIn X.K (.ref fI) = some (.type "function"))
    (F1 : FnOk X.prog X.w X.K X.mg X.base CX0 k fI fd ps sp) (hr : Room (k + 1) X.A) (hb : KwOk X.K fd ps ks 0 m) (hg : Gl X x) (hm : X.mg x = some (.ref C)) (hkw : PK X kws tk)
    (hall : (backToKw pos (keywordEach kws X.env)).all (·.1.isSome) = true := by rfl) (hks : (backToKw pos (keywordEach kws X.env)).filterMap (·.1) = ks := by rfl) (hdb : (x == ("__debug__" : Str)) = false := by decide)
    (hpl : ((backTo pos (starEach [] X.env)).any (·.1) || (backToKw pos (keywordEach kws X.env)).any (·.1.isNone)) = false := by rfl) :
    PE X (.Call (.Name x p) [] kws pos) (fun σ H Q => tk σ H fun zs H1 => zs.length = m ∧ ∀ a, H1 a = none → sp (.ref a :: zs) (upd H1 a (exo a C none)) (fun v H3 => v = .non ∧ Q (.ref a) H3) E0) := by
  refine ⟨fun pins s σ H Q I h => wpAny_Call_Name_kw (ld_glob I hg hm ?_ hdb)⟩
  refine PySem.W.callWith_KW0 (h₀ := X.base) I.ok.mod.kin T.kC hall (thn (hkw.run pos pins s σ H _ I h) ?_) hpl
  rintro ws s1 ⟨zs, H1, I1, r1, rfl, q1⟩
  refine ⟨I1.kIn, ?_⟩
  rw [hks]
  exact run_mkv (us := []) (vs := []) T iC tI F1 hr hb .nil r1 rfl r1.length.symm (Nat.zero_le _) I1 q1
end
end Zk

set_option maxHeartbeats 4000000
/-! E3: own errors: fields, isinstance, raise. -/
namespace Zk
open PySem PySem.Spec PyProof.Rows L2
open PySem.W (findIn subIn typeIn keepIn excTail)
section
variable {X : Cx} {o e : Expr} {es : List Expr} {to te : TE} {ta : TA} {f : Str} {p p' p1 p2 pos : Pos} {B C fI : Addr} {x : Str} {pins : List (Addr × Obj)} {σ : List (Option V)} {H : Hp} {s : Shared}
/-- how a tracked error stands, for the library's rules -/
theorem err_inst {a d : Addr} {fs : List (Str × V)} (I : Inv X pins σ H s) (h1 : H a = some (exo a C (some d))) (h2 : H d = some (exd d fs)) :
    ∃ (ox od : Obj) (mA : Str → Option Value), PySem.W.InstAt s.heap a ox C (some od) ∧ s.heap.Ns1 d mA ∧ s.heap.get? d = some od ∧ ∀ g, RelO (fs.lookup g) (mA g) := by
  obtain ⟨t1, ho⟩ := exo_at I.hok h1
  obtain ⟨mA, hn, rel⟩ := exd_at I.hok h2
  obtain ⟨od, hd, _⟩ := lookIn_ns hn
  exact ⟨_, od, mA, ⟨ho, rfl, rfl, hd⟩, hn, hd, rel⟩
/-- e.f, e a tracked error -/
def tErrF (K : PySem.W.Frag) (f : Str) (te : TE) : TE := fun σ H Q => te σ H fun x H1 => ∃ (a C d : Addr) (fs : List (Str × V)) (v : V), x = .ref a ∧ OwnE K C ∧ findIn K (.ref C) f = some none ∧ H1 a = some (exo a C (some d)) ∧ H1 d = some (exd d fs) ∧ fs.lookup f = some v ∧ Q v H1
theorem pe_errf (he : PE X e te) (hb : attributeBase e f X.env (eval e X.env) = eval e X.env := by rfl) : PE X (.Attribute e f pos) (tErrF X.K f te) := by
  refine ⟨fun pins s σ H Q I h => attr_of hb (thn (he.run pins s σ H _ I h) ?_)⟩
  rintro u s1 ⟨x, H1, I1, rx, a, C, d, fs, v, rfl, T, hno, h1, h2, hl, q⟩
  obtain rfl : u = Value.ref a := rx
  obtain ⟨t1, ho⟩ := exo_at I1.hok h1
  obtain ⟨mA, hn, rel⟩ := exd_at I1.hok h2
  obtain ⟨od, hd, hlk⟩ := lookIn_ns hn
  obtain ⟨w, hw, rw_⟩ := RelO.some_of (v := v) (o := mA f) (by rw [← hl]; exact rel f)
  have J : PySem.W.InstAt s1.heap a _ C (some od) := ⟨ho, rfl, rfl, hd⟩
  obtain ⟨cd, hcd, hdict, _⟩ := T.cd
  have hdc : PySem.W.hasDictIn X.K C = true := by
    unfold PySem.W.hasDictIn
    rw [hcd]
    exact hdict
  exact HandSPX.exc_get I1.kIn J T.ga T.gg T.exC (PySem.W.findObj_own hdc hno rfl (by rw [hlk, hw])) (handed_of rw_) ⟨v, H1, I1.tok _, rw_, q⟩
/-- isinstance(e, c) of a tracked error, with its dict or without -/
def rIsErr (K : PySem.W.Frag) : List V → Hp → VK → Prop := fun xs H Q => ∃ (a C : Addr) (c : V) (u : Value) (b : Bool), xs = [.ref a, c] ∧ ClsV c u ∧ OwnE K C ∧ ClsG K ∧ (H a = some (exo a C none) ∨ ∃ f v, ErrAt H C f v a) ∧ PySem.W.kitOne K (.ref C) u = some b ∧ Q (.bl b) H
def rIsErrT (K : PySem.W.Frag) : List V → Hp → VK → Prop := fun xs H Q => ∃ (a C tp : Addr) (cs : List V) (us : List Value) (b : Bool), xs = [.ref a, .ref tp] ∧ H tp = some (.tup cs) ∧ Paired ClsV cs us ∧ OwnE K C ∧ ClsG K ∧ (H a = some (exo a C none) ∨ ∃ f v, ErrAt H C f v a) ∧
  PySem.W.kitAny K (.ref C) us = some b ∧ Q (.bl b) H
theorem err_kit {a : Addr} (I : Inv X pins σ H s) (T : OwnE X.K C) (G : ClsG X.K) (h : H a = some (exo a C none) ∨ ∃ f v, ErrAt H C f v a) : ∃ P : Heap → Prop, PySem.W.KitX X.K (.ref a) (.ref C) P ∧ P s.heap := by
  rcases h with h | ⟨f, v, d, h1, h2⟩
  · obtain ⟨t1, ho⟩ := exo_at I.hok h
    exact ⟨_, PySem.W.kitx_exc (od := none) T.isCls T.ga T.gg T.exC T.ca G.sp G.tk (T.mro (by decide +kernel)), ⟨ho, rfl, rfl, trivial⟩⟩
  · obtain ⟨ox, od, mA, J, _⟩ := err_inst I h1 h2
    exact ⟨_, PySem.W.kitx_exc (od := some od) T.isCls T.ga T.gg T.exC T.ca G.sp G.tk (T.mro (by decide +kernel)), J⟩
theorem call_isErr : CallR X (.builtin "isinstance") (rIsErr X.K) := by
  intro pins s σ H xs us Q I r h
  obtain ⟨a, C, c, u, b, rfl, k, T, G, hh, e, q⟩ := h
  obtain ⟨u1, u2, rfl, r1, r2⟩ := vals2 r
  obtain rfl : u1 = Value.ref a := r1
  have e2 := k.eq r2
  subst e2
  obtain ⟨P, Z, hp⟩ := err_kit I T G hh
  exact PySem.W.kia_one Z I.kIn hp e (fun z => nomatch z) fun tk => ⟨.bl b, H, I.tok tk, rfl, q⟩
theorem call_isErrT : CallR X (.builtin "isinstance") (rIsErrT X.K) := by
  intro pins s σ H xs us Q I r h
  obtain ⟨a, C, tp, cs, ws, b, rfl, hT, k, T, G, hh, e, q⟩ := h
  obtain ⟨u1, u2, rfl, r1, r2⟩ := vals2 r
  obtain rfl : u1 = Value.ref a := r1
  obtain rfl : u2 = Value.ref tp := r2
  obtain ⟨P, Z, hp⟩ := err_kit I T G hh
  obtain ⟨_, its, rv, o, h1, h2, n, h3⟩ := I.hok tp _ hT
  have e3 := ClsV.all k rv
  subst e3
  obtain ⟨oc, od, dt, sl⟩ := o
  cases (show oc = _ from h2)
  cases (show dt = _ from h3)
  exact PySem.W.kia_tup Z I.kIn hp h1 e (fun z => nomatch z) fun tk => ⟨.bl b, H, I.tok tk, rfl, q⟩

/-! ### raised -/
theorem err_raises (T : OwnE X.K C) : Raises X (.ref C) := raises_own T.exC T.tyC
/-- what __init__ must leave, for the error to be raised -/
def made (C : Addr) (H1 : Hp) (a : Addr) (Q : XK) : VK := fun v H3 => v = .non ∧ ∃ (d : Addr) (fs : List (Str × V)), H3 a = some (exo a C (some d)) ∧ H3 d = some (exd d fs) ∧ H1 d = none ∧ Q (.ref C) (some d) (upd (del H3 a) d (.xd fs))
theorem run_mkx {k n m : Nat} {fd : FuncData} {ps ks : List Str} {sp : Sp} {us ws : List Value} {vs zs : List V} {Q : XK}
    (T : OwnE X.K C) (iC : findIn X.K (.ref C) "__init__" = some (some (.ref fI))) (tI : typeIn X.K (.ref fI) = some (.type "function")) (F1 : FnOk X.prog X.w X.K X.mg X.base CX0 k fI fd ps sp) (hr : Room (k + 1) X.A)
    (hb : KwOk X.K fd ps ks n m) (r : Vals vs us) (rz : Vals zs ws) (hn : us.length = n) (hm : ws.length = m) (hz : us.length ≤ 1000) (I : Inv X pins σ H s)
    (h : ∀ a, H a = none → sp (.ref a :: (vs ++ zs)) (upd H a (exo a C none)) (made C H a Q) E0) : wpAny (model X.prog X.w) X.A (call (.ref C) us (ks.zip ws)) (MkP X pins σ Q) X.xe s := by
  obtain ⟨nm, q, N, bs, bm, sn, sub, ab, col, dd, k0, k1, k2, k3, k5, hC, hbm⟩ := T.obj
  obtain ⟨hp, g, dr, tk, os⟩ := s
  have big : hp.objs.size ≤ hp.objs.size + 1 := Nat.le_succ _
  have none1 : H (hp.objs.size + 1) = none := I.hok.fresh big
  have old : ∀ b o, hp.get? b = some o → ((hp.push (PySem.W.kdv_tup us)).push (HandSPX.excO C hp.objs.size)).get? b = some o := fun b o e => Heap.get?_push_of_some _ (Heap.get?_push_of_some _ e)
  have new : ((hp.push (PySem.W.kdv_tup us)).push (HandSPX.excO C hp.objs.size)).get? (hp.objs.size + 1) = some (HandSPX.excO C hp.objs.size) := by heap_get
  have J : Inv X pins σ (upd H (hp.objs.size + 1) (exo (hp.objs.size + 1) C none)) ⟨(hp.push (PySem.W.kdv_tup us)).push (HandSPX.excO C hp.objs.size), g, dr, tk, os⟩ := I.laid (t' := tk) old big (exo_ok new)
  have rr : Vals (V.ref (hp.objs.size + 1) :: (vs ++ zs)) (Value.ref (hp.objs.size + 1) :: (us ++ ws)) := .cons rfl (r.append rz)
  have line : us.length ≤ sizeLine := by
    rw [sizeLine_eq]
    omega
  refine wpAny_call (called F.excBase_Exception (fun n => PySem.W.excTail_contains n bm hbm) (I.kIn _ _ hC) line (PySem.W.looks_findIn I.kIn iC) (fun self => PySem.W.bind_fn I.kIn self tI) ?_)
  refine codeAny_mono (F1.run _ X.stack _ _ ⟨.ref (hp.objs.size + 1) :: us, ks.zip ws⟩ _ _ _ E0 (hr.make C us (ks.zip ws)) (J.env0.make C us (ks.zip ws)) (hb _ _ us ws J.kIn hn hm) rr (h _ none1)) ?_
  intro r s' z
  match r, z with
  | .error er, z => exact z.elim
  | .ok .next, z => exact z.elim
  | .ok .brk, z => exact z.elim
  | .ok .cont, z => exact z.elim
  | .ok (.ret u), ⟨v, H2, os2, bare2, un2, hok2, rv, e, d, fs, ea, ed, hd1, q2⟩ =>
    subst e
    obtain ⟨h2, g2, d2, t2, os'⟩ := s'
    exact ⟨rv, mk_end (err_raises T) I big old un2 hok2 os2 bare2 ea ed hd1 q2⟩
/-- raise C(e, ..) -/
theorem pmk_err {k n : Nat} {fd : FuncData} {ps : List Str} {sp : Sp} (T : OwnE X.K C) (iC : findIn X.K (.ref C) "__init__" = some (some (.ref fI))) (tI : typeIn X.K (.ref fI) = some (.type "function"))
    (F1 : FnOk X.prog X.w X.K X.mg X.base CX0 k fI fd ps sp) (hr : Room (k + 1) X.A) (hb : KwOk X.K fd ps [] n 0) (hg : Gl X x) (hm : X.mg x = some (.ref C)) (ha : PA X (e :: es) ta)
    (hdb : (x == ("__debug__" : Str)) = false := by decide) (he : starEach (e :: es) X.env = (false, eval e X.env) :: starEach es X.env := by rfl) (hpl : (backTo pos (starEach es X.env)).any (·.1) = false := by rfl) :
    PMk X (.Call (.Name x p) (e :: es) [] pos) (fun σ H Q => ta σ H fun vs H1 => vs.length = n ∧ n ≤ 1000 ∧ ∀ a, H1 a = none → sp (.ref a :: vs) (upd H1 a (exo a C none)) (made C H1 a Q) E0) := by
  intro pins s σ H Q I h
  refine wpAny_Call_Name_kw (ld_glob I hg hm ?_ hdb)
  refine PySem.W.callWith_K (h₀ := X.base) I.ok.mod.kin T.kC (thn (ha.run pos pins s σ H _ I h) ?_) he hpl
  rintro us s1 ⟨vs, H1, I1, r1, rfl, hz, q1⟩
  have := run_mkx (ks := []) (ws := []) (zs := []) T iC tI F1 hr hb r1 .nil r1.length.symm rfl (by rw [← r1.length]; exact hz) I1 (fun a na => by simpa using q1 a na)
  exact ⟨I1.kIn, this⟩
/-- raise C(k = e, ..) -/
theorem pmk_errK {k m : Nat} {fd : FuncData} {ps ks : List Str} {sp : Sp} {kws : List Keyword} {tk : TA} (T : OwnE X.K C) (iC : findIn X.K (.ref C) "__init__" = some (some (.ref fI))) (tI : typeIn X.K (.ref fI) = some (.type "function"))
    (F1 : FnOk X.prog X.w X.K X.mg X.base CX0 k fI fd ps sp) (hr : Room (k + 1) X.A) (hb : KwOk X.K fd ps ks 0 m) (hg : Gl X x) (hm : X.mg x = some (.ref C)) (hkw : PK X kws tk)
    (hall : (backToKw pos (keywordEach kws X.env)).all (·.1.isSome) = true := by rfl) (hks : (backToKw pos (keywordEach kws X.env)).filterMap (·.1) = ks := by rfl) (hdb : (x == ("__debug__" : Str)) = false := by decide)
    (hpl : ((backTo pos (starEach [] X.env)).any (·.1) || (backToKw pos (keywordEach kws X.env)).any (·.1.isNone)) = false := by rfl) :
    PMk X (.Call (.Name x p) [] kws pos) (fun σ H Q => tk σ H fun zs H1 => zs.length = m ∧ ∀ a, H1 a = none → sp (.ref a :: zs) (upd H1 a (exo a C none)) (made C H1 a Q) E0) := by
  intro pins s σ H Q I h
  refine wpAny_Call_Name_kw (ld_glob I hg hm ?_ hdb)
  refine PySem.W.callWith_KW0 (h₀ := X.base) I.ok.mod.kin T.kC hall (thn (hkw.run pos pins s σ H _ I h) ?_) hpl
  rintro ws s1 ⟨zs, H1, I1, r1, rfl, q1⟩
  refine ⟨I1.kIn, ?_⟩
  rw [hks]
  exact run_mkx (us := []) (vs := []) T iC tI F1 hr hb .nil r1 rfl r1.length.symm (Nat.zero_le _) I1 q1
end
end Zk

set_option maxHeartbeats 4000000
/-! E4: an error without fields raised; several except clauses that name the error. -/
namespace Zk
open PySem PySem.Spec PyProof.Rows L2
open PySem.W (findIn subIn typeIn keepIn excTail)
section
variable {X : Cx} {p pos : Pos} {C fI : Addr} {x : Str} {pins : List (Addr × Obj)} {σ : List (Option V)} {H H1 H2 : Hp} {s : Shared}
theorem mk_bare {hp hp2 h2 : Heap} {g1 g2 : Array GenState} {d1 d2 : Drawn} {t1 t2 : Nat} {os1 os2 : OsState} {a : Addr} {Q : XK} (T : OwnE X.K C) (I1 : Inv X pins σ H1 ⟨hp, g1, d1, t1, os1⟩) (ha : hp.objs.size ≤ a)
    (old : ∀ b o, hp.get? b = some o → hp2.get? b = some o) (un : Un (frs X.stack) [] (upd H1 a (exo a C none)) H2 hp2 h2) (hok : HOk X.prog X.w H2 h2) (ho : os2 = os1) (hb : AllBare g2) (ea : H2 a = some (exo a C none)) (q : Q (.ref C) none (del H2 a)) :
    MkP X pins σ Q (.ref a) ⟨h2, g2, d2, t2, os2⟩ := by
  obtain ⟨t0, hoe⟩ := exo_at hok ea
  have free1 : H1 a = none := I1.hok.fresh ha
  obtain ⟨G, in_, out⟩ := restrict h2 fun b => decide (b ≠ a)
  have at_ : ∀ b, b ≠ a → G.get? b = h2.get? b := fun b hb => in_ b (decide_eq_true hb)
  have gone : G.get? a = none := out a (by simp)
  have low : ∀ {b : Addr} {o : Obj}, hp.get? b = some o → b ≠ a := fun z => Nat.ne_of_lt (Nat.lt_of_lt_of_le (Heap.lt_size z) ha)
  have off : ∀ {b : Addr} {r : Option HO}, b ≠ a → H1 b = r → upd H1 a (exo a C none) b = r := fun n e => (upd_ne n).trans e
  have offS : ∀ {b : Addr} {o : HO}, H1 b = some o → b ≠ a := fun e => ne_of_none e free1
  have U : Un (frs X.stack) [] H1 (del H2 a) hp G := by
    constructor
    · exact fun b o z n hf hx => (at_ b (low z)).trans (un.keep b o (old b o z) (off (low z) n) hf hx)
    · intro b o z n hf hx
      obtain ⟨sl, e⟩ := un.slot b o (old b o z) (off (low z) n) hf hx
      exact ⟨sl, (at_ b (low z)).trans e⟩
    · exact fun b o z n hx => (del_ne (low z)).trans (un.free b o (old b o z) (off (low z) n) hx)
    · intro b o z hx
      obtain ⟨o', e⟩ := un.there b o (old b o z) hx
      exact ⟨o', (at_ b (low z)).trans e⟩
    · exact fun b xs z => (del_ne (offS z)).trans (un.tups b xs (off (offS z) z))
    · exact fun b o v z => (del_ne (offS z)).trans (un.frzs b o v (off (offS z) z))
    · intro b ps z
      obtain ⟨m, e⟩ := un.tbls b ps (off (offS z) z)
      exact ⟨m, (del_ne (offS z)).trans e⟩
  have ok3 : HOk X.prog X.w (del H2 a) G := by
    intro b o z
    have hba : b ≠ a := fun e => by
      rw [e, del_same] at z
      cases z
    rw [del_ne hba] at z
    have noa : ∀ {c : Addr} {u : HO}, u ≠ exo a C none → H2 c = some u → c ≠ a := fun n hc e => by
      rw [e, ea] at hc
      exact n (Option.some.inj hc).symm
    refine (hok b o z).stay (fun c v hc y => (at_ c ?_).trans y) (fun c hc => (del_ne (noa exo_own.symm hc)).trans hc) fun c xs hc => (del_ne (noa exo_tup.symm hc)).trans hc
    rcases hc with hc | hc
    · exact hc ▸ hba
    · exact noa exo_own.symm hc
  have J : Inv X pins σ (del H2 a) ⟨G, g2, d2, t2, os2⟩ := I1.call' (ch := []) ho U ok3 hb fun _ z => absurd z List.not_mem_nil
  refine ⟨a, _, _, ⟨G, g2, d2, t2, os2⟩, del H2 a, .ref C, none, rfl, J, fun b o z => ?_, gone, hoe, ⟨rfl, rfl⟩, rfl, rfl, del_same, rfl, hb, err_raises T, q⟩
  by_cases hba : b = a
  · rw [hba, gone] at z
    cases z
  · exact (at_ b hba).symm.trans z
/-- raise C() -/
theorem pmk_err0 {k : Nat} {fd : FuncData} {ps : List Str} {sp : Sp} (T : OwnE X.K C) (iC : findIn X.K (.ref C) "__init__" = some (some (.ref fI))) (tI : typeIn X.K (.ref fI) = some (.type "function"))
    (F1 : FnOk X.prog X.w X.K X.mg X.base CX0 k fI fd ps sp) (hr : Room (k + 1) X.A) (hb : KwOk X.K fd ps [] 0 0) (hg : Gl X x) (hm : X.mg x = some (.ref C)) (hdb : (x == ("__debug__" : Str)) = false := by decide) :
    PMk X (.Call (.Name x p) [] [] pos) (fun σ H Q => ∀ a, H a = none → sp [.ref a] (upd H a (exo a C none)) (fun v H3 => v = .non ∧ H3 a = some (exo a C none) ∧ Q (.ref C) none (del H3 a)) E0) := by
  intro pins s σ H Q I h
  refine wpAny_Call_Name_kw (ld_glob I hg hm ?_ hdb)
  refine PySem.W.callWith_K0 I.kIn T.kC ?_
  obtain ⟨nm, q, N, bs, bm, sn, sub, ab, col, dd, k0, k1, k2, k3, k5, hC, hbm⟩ := T.obj
  obtain ⟨hp, g, dr, tk, os⟩ := s
  have big : hp.objs.size ≤ hp.objs.size + 1 := Nat.le_succ _
  have none1 : H (hp.objs.size + 1) = none := I.hok.fresh big
  have old : ∀ b o, hp.get? b = some o → ((hp.push (PySem.W.kdv_tup [])).push (HandSPX.excO C hp.objs.size)).get? b = some o := fun b o e => Heap.get?_push_of_some _ (Heap.get?_push_of_some _ e)
  have new : ((hp.push (PySem.W.kdv_tup [])).push (HandSPX.excO C hp.objs.size)).get? (hp.objs.size + 1) = some (HandSPX.excO C hp.objs.size) := by heap_get
  have J : Inv X pins σ (upd H (hp.objs.size + 1) (exo (hp.objs.size + 1) C none)) ⟨(hp.push (PySem.W.kdv_tup [])).push (HandSPX.excO C hp.objs.size), g, dr, tk, os⟩ := I.laid (t' := tk) old big (exo_ok new)
  refine wpAny_call (called (us := []) (kw := []) F.excBase_Exception (fun n => PySem.W.excTail_contains n bm hbm) (I.kIn _ _ hC) (Nat.zero_le _) (PySem.W.looks_findIn I.kIn iC) (fun self => PySem.W.bind_fn I.kIn self tI) ?_)
  refine codeAny_mono (F1.run _ X.stack _ _ ⟨[.ref (hp.objs.size + 1)], []⟩ _ [.ref (hp.objs.size + 1)] _ E0 (hr.make C [] []) (J.env0.make C [] []) (hb _ _ [] [] J.kIn rfl rfl) (.cons rfl .nil) (h _ none1)) ?_
  intro r s' z
  match r, z with
  | .error er, z => exact z.elim
  | .ok .next, z => exact z.elim
  | .ok .brk, z => exact z.elim
  | .ok .cont, z => exact z.elim
  | .ok (.ret u), ⟨v, H2, os2, bare2, un2, hok2, rv, e, ea, q2⟩ =>
    subst e
    obtain ⟨h2, g2, d2, t2, os'⟩ := s'
    exact ⟨rv, mk_bare T I big old un2 hok2 os2 bare2 ea q2⟩
end

/-! ### try with several clauses 'except C as n' -/
/-- what the clauses wish of an exception of the body, one after the other; slot i is the name's -/
def wAll (K : PySem.W.Frag) (i : Nat) (Wout : WX) (D : Ends) : List (Value × (Addr → Value → Option Addr → TS)) → WX
  | [] => Wout
  | (c, ts) :: r => fun cls d σ H => ∃ b, PySem.W.exmOne K cls c = some b ∧
      (b = true → ∀ a, H a = none → ts a cls d { nx := fun σ' H' => D.nx (σ'.set i none) H', rt := D.rt, bk := fun σ' H' => D.bk (σ'.set i none) H', ct := fun σ' H' => D.ct (σ'.set i none) H' } (σ.set i (some (.ref a))) H) ∧
      (b = false → wAll K i Wout D r cls d σ H)
inductive ClausesOk (X : Cx) (n : Str) : List ExceptHandler → List (Value × (Addr → Value → Option Addr → TS)) → Prop
  | nil : ClausesOk X n [] []
  | cons {x : Str} {c : Value} {ts : Addr → Value → Option Addr → TS} {b₀ : Stmt} {suite : List Stmt} {np p2 : Pos} {hds : List ExceptHandler} {l : List (Value × (Addr → Value → Option Addr → TS))} (hc : Names X x c)
      (hsu : ∀ (a : Addr) (oe : Obj) (cls : Value) (d : Option Addr) (pn : List (Addr × Obj)), Zc cls d oe → (∃ vs, oe.data = .fields vs) → PSs (X.suite a ((a, oe) :: pn)) (b₀ :: suite) (ts a cls d)) (r : ClausesOk X n hds l) :
      ClausesOk X n (.ExceptHandler (some (.Name x np)) (some n) (b₀ :: suite) p2 :: hds) ((c, ts) :: l)
section
variable {X : Cx} {n : Str} {i : Nat} {body : List Stmt} {h₀ : ExceptHandler} {hds : List ExceptHandler} {l : List (Value × (Addr → Value → Option Addr → TS))} {pos : Pos} {tb : WX → TS} {Wout : WX}
theorem ps_try_all (hs : X.stack = X.env :: X.outer) (hf : X.env.frame = some X.env.locals) (hN : X.N.Nodup) (hi : X.N[i]? = some n) (hln : X.env.kindOf n = some .local) (tk : Takes X Wout)
    (hb : ∀ (W : WX) (pn : List (Addr × Obj)) (xe : Value → Shared → Prop), Takes (X.tr pn xe) W → PassesOwn (model X.prog X.w) X.A X.env xe → PSs (X.tr pn xe) body (tb W))
    (hh : ClausesOk X n (h₀ :: hds) l) : PS X (.Try body (h₀ :: hds) [] [] pos) (fun D σ H => tb (wAll X.K i Wout D l) D σ H) := by
  refine ⟨fun pins s σ H D I h => wpAny_Try_except ?_⟩
  have ok := I.ok
  have frames : X.A.frames = some (X.env :: X.outer) := by rw [ok.frames, hs]
  let xe' : Value → Shared → Prop := fun e s1 => wpAny (model X.prog X.w) X.A (noteFrame e X.env) (fun _ s2 => wpAny (model X.prog X.w) X.A (setFlight e none) (fun _ s3 => wpAny (model X.prog X.w) X.A (handleBy e X.env (h₀ :: hds)) (SP X pins D) X.xe s3) X.xe s2) X.xe s1
  have caught : Takes (X.tr (X.pn ++ pins) xe') (wAll X.K i Wout D l) := by
    rintro u s' ⟨a, B, sI, pins', σ', H', cls, d, rfl, J', nb, up, sky, na, os, ag, wish⟩
    have J : Inv X pins σ' H' sI := J'.ofTry ok
    rw [show (X.tr (X.pn ++ pins) xe').stack = X.env :: X.outer from hs] at sky
    show wpAny (model X.prog X.w) X.A (noteFrame (.ref a) X.env) _ _ _
    refine Sky.land Zc.steady frames hf sky fun h3 fl3 up3 => ?_
    have J3 : Inv X pins σ' H' { s' with heap := h3 } := J.landed nb fl3.1 (up.trans up3) os ag
    obtain ⟨oe3, vs3, he3, hz3, hd3⟩ := fl3.there
    have apart : a ∉ frs (X.env :: X.outer) := fun hm => by
      obtain ⟨_, o', e', hnf⟩ := fl3.2.2.1.mem hm
      rw [he3] at e'
      cases e'
      exact hnf _ hd3
    have nL : a ≠ X.env.locals := fun z => apart (List.mem_filterMap.mpr ⟨X.env, List.mem_cons_self, by rw [hf, z]⟩)
    have nF : a ∉ X.fs := fun hm => by
      obtain ⟨e, he, q⟩ := List.mem_filterMap.mp hm
      exact apart (List.mem_filterMap.mpr ⟨e, List.mem_cons_of_mem _ he, q⟩)
    have S3 := J3.suite he3 hd3 na nL nF
    have LT : PySem.W.Looks (model X.prog X.w) h3 (typeOf (.ref a)) cls := fun A Q E s k q => wpAny_typeOf_ref (k _ _ he3) (by rw [hz3.1]; exact q)
    have go : ∀ {hds' : List ExceptHandler} {l' : List (Value × (Addr → Value → Option Addr → TS))}, ClausesOk X n hds' l' → wAll X.K i Wout D l' cls d σ' H' →
        wpAny (model X.prog X.w) X.A (handleBy (.ref a) X.env hds') (SP X pins D) X.xe { s' with heap := h3 } := by
      intro hds' l' hk
      induction hk with
      | nil =>
        intro w
        refine wpAny_handleBy_nil ?_
        obtain ⟨_, _, _, oe, vs, T, oT, ts', he, hz, hd, h1, _⟩ := id fl3
        unfold PySem.passOn
        refine wpAny_bind (wpAny_field he hd h1 ?_)
        rw [if_neg (show ¬ ((Value.ref T == Value.none) = true) from by simp)]
        have out : wpAny (model X.prog X.w) X.A (setFlight (.ref a) X.env.frame) (fun _ s4 => wpAny (model X.prog X.w) X.A (throw (.ref a) : Sem Flow) (SP X pins D) X.xe s4) X.xe { s' with heap := h3 } := by
          rw [hf]
          refine HandSPX.setFlight_upZ fl3 fun h4 hh4 up4 => wpAny_throw (tk _ _ ⟨a, B, sI, pins, σ', H', cls, d, rfl, J, nb, (up.trans up3).trans up4, .inr (.inr ?_), na, os, ag, w⟩)
          rw [hs]
          exact hh4
        first
          | exact wpAny_bind (wpAny_pure (wpAny_bind out))
          | exact wpAny_bind out
      | @cons x c ts b₀ suite np p2 hds2 l2 hc hsu _ ih =>
        rintro ⟨b, hb1, yes, no⟩
        refine wpAny_handleBy_cons (codeAny_handlers_test ?_) (by intro q; cases q)
        have LM := PySem.W.exm_one (M := model X.prog X.w) J3.kIn LT hb1
        have name : ∀ {Q : Value → Shared → Prop} {E : Value → Shared → Prop}, Q c { s' with heap := h3 } → wpAny (model X.prog X.w) (X.A.mark (some (.ref a))) (eval (.Name x np) X.env) Q E { s' with heap := h3 } := fun q => by
          obtain ⟨hg, hdbg, hm | ⟨hm, hv, hnn⟩⟩ := hc
          · exact ld_glob (X := X.suite a ((a, oe3) :: (X.pn ++ pins))) S3 hg hm q hdbg
          · exact ld_blt (X := X.suite a ((a, oe3) :: (X.pn ++ pins))) S3 hg hm hv q hnn hdbg
        refine name (LM.here ?_)
        cases b with
        | false => exact ih (no rfl)
        | true =>
          refine codeAny_handlers_suite_as (HandSPX.lands_againZ fl3 fun h4 fl4 up4 => ?_)
          have J4 : Inv X pins σ' H' { s' with heap := h4 } := J.landed nb fl4.1 ((up.trans up3).trans up4) os ag
          obtain ⟨oe4, vs4, he4, hz4, hd4⟩ := fl4.there
          refine store_ok (X := X.suite a ((a, oe4) :: (X.pn ++ pins))) (v := .ref a) (J4.suite he4 hd4 na nL nF) hN hi (.inl hln) rfl (fun s5 S5 => ?_) (.inr hln)
          refine wpAny_mono ((hsu a oe4 cls d (X.pn ++ pins) hz4 ⟨_, hd4⟩).run [] s5 _ H' _ S5 (yes rfl a na)) (fun f s6 end6 => ?_) fun _ _ z => z.elim
          have leave : ∀ {σ6 : List (Option V)} {H6 : Hp} {Q : Shared → Prop}, Inv (X.suite a ((a, oe4) :: (X.pn ++ pins))) [] σ6 H6 s6 → (∀ s7, Inv X pins (σ6.set i none) H6 s7 → Q s7) →
              wpAny (model X.prog X.w) X.A (do bindName X.env n .none; unbindBehindTheSuite X.env n p2) (fun _ s7 => Q s7) X.xe s6 := fun S6 hq => gone_ok (S6.unsuite ok) hN hi hln hq
          match f, end6 with
          | .next, ⟨σ6, H6, S6, q6⟩ => exact leave S6 fun s7 J7 => ⟨_, _, J7, q6⟩
          | .brk, ⟨σ6, H6, S6, q6⟩ => exact leave S6 fun s7 J7 => ⟨_, _, J7, q6⟩
          | .cont, ⟨σ6, H6, S6, q6⟩ => exact leave S6 fun s7 J7 => ⟨_, _, J7, q6⟩
          | .ret u, ⟨v6, σ6, H6, S6, r6, q6⟩ => exact leave S6 fun s7 J7 => ⟨_, _, _, J7, r6, q6⟩
    exact go hh wish
  refine wpAny_mono ((hb _ _ xe' caught PassesOwn.looking).run [] s σ H D (I.toTry _) h) (fun f s1 end1 => ?_) fun e s1 he => he
  match f, end1 with
  | .next, ⟨σ', H', J', q⟩ => exact wpAny_execs_nil ⟨σ', H', J'.ofTry ok, q⟩
  | .brk, ⟨σ', H', J', q⟩ => exact ⟨σ', H', J'.ofTry ok, q⟩
  | .cont, ⟨σ', H', J', q⟩ => exact ⟨σ', H', J'.ofTry ok, q⟩
  | .ret u, ⟨v, σ', H', J', r, q⟩ => exact ⟨v, σ', H', J'.ofTry ok, r, q⟩
end
end Zk

set_option maxHeartbeats 4000000
/-! E5: a family of own errors over one own base class: what is an instance of what; their __init__ from the text. -/
namespace Zk
open PySem PySem.Spec PyProof.Rows L2
open PySem.W (findIn subIn typeIn keepIn excTail kitOne kitAny exmOne clsIn)

/-- the error class called x, at C, straight over the own class at B -/
structure ErrC (K : PySem.W.Frag) (mg : Str → Option Value) (B : Addr) (x : Str) (C : Addr) : Prop where
  own : OwnE K C
  gC : mg x = some (.ref C)
  cd : ∃ cd, clsIn K C = some cd ∧ cd.name = x ∧ cd.mro = [.ref C, .ref B, .type "Exception", .type "BaseException", .type "object"]
/-- the base class -/
structure BaseC (K : PySem.W.Frag) (mg : Str → Option Value) (x : Str) (B : Addr) : Prop where
  gB : mg x = some (.ref B)
  cd : ∃ cd, clsIn K B = some cd ∧ cd.name = x
  ty : typeIn K (.ref B) = some (.type "type")
  ex : subIn K (.ref B) (.type "BaseException") = some true
  sp : PySem.W.specialIn K (.ref B) "__getattribute__" = some (some (.builtin "type.__getattribute__"))
  rd : PySem.W.readsIn K B (.type "type") = true
  fc : PySem.W.findCls K (.ref B) (.type "type") "__init__" = some (.val (.builtin "Exception.__init__"))
section
variable {K : PySem.W.Frag} {mg : Str → Option Value} {B C D : Addr} {x y z : Str}
theorem ErrC.ne (a : ErrC K mg B x C) (b : ErrC K mg B y D) (h : ¬ x = y) : C ≠ D := by
  intro e
  subst e
  obtain ⟨cd, h1, h2, _⟩ := a.cd
  obtain ⟨ce, h3, h4, _⟩ := b.cd
  rw [h1] at h3
  cases h3
  exact h (h2.symm.trans h4)
theorem ErrC.neB (a : ErrC K mg B x C) (b : BaseC K mg y B) (h : ¬ x = y) : C ≠ B := by
  intro e
  subst e
  obtain ⟨cd, h1, h2, _⟩ := a.cd
  obtain ⟨ce, h3, h4⟩ := b.cd
  rw [h1] at h3
  cases h3
  exact h (h2.symm.trans h4)
theorem ErrC.sub (a : ErrC K mg B x C) (v : Value) : subIn K (.ref C) v = some (([.ref C, .ref B, .type "Exception", .type "BaseException", .type "object"] : List Value).contains v) := by
  obtain ⟨cd, h1, _, h3⟩ := a.cd
  show PySem.W.mroIn K C v = _
  unfold PySem.W.mroIn
  rw [h1, Option.bind_some, h3, if_neg (show ¬ (List.isEmpty (Value.ref C :: _) = true) from Bool.false_ne_true)]
theorem ErrC.isCls (a : ErrC K mg B x C) : ((clsIn K C).isSome && typeIn K (.ref C) == some (.type "type")) = true := by
  rw [a.own.isCls, a.own.tyC]
  rfl
theorem BaseC.isCls (b : BaseC K mg x B) : ((clsIn K B).isSome && typeIn K (.ref B) == some (.type "type")) = true := by
  obtain ⟨cd, h, _⟩ := b.cd
  rw [h, b.ty]
  rfl
theorem kit_self (t : Value) : kitOne K t t = some true := by
  unfold kitOne
  rw [if_pos (beq_self_eq_true t)]
theorem kit_else (a : ErrC K mg B x C) (b : ErrC K mg B y D) (o : BaseC K mg z B) (h : ¬ x = y) (hz : ¬ y = z) : kitOne K (.ref C) (.ref D) = some false := by
  have n1 : C ≠ D := a.ne b h
  have n2 : D ≠ B := b.neB o hz
  unfold kitOne
  rw [if_neg (by simpa using n1)]
  unfold PySem.W.kitCls
  simp only [b.isCls, if_true]
  rw [a.sub]
  simp [n1.symm, n2]
theorem kit_base (a : ErrC K mg B x C) (o : BaseC K mg z B) (hz : ¬ x = z) : kitOne K (.ref C) (.ref B) = some true := by
  unfold kitOne
  rw [if_neg (by simpa using a.neB o hz)]
  unfold PySem.W.kitCls
  simp only [o.isCls, if_true]
  rw [a.sub]
  simp
theorem kit_type (a : ErrC K mg B x C) {T : String} {r : Bool} (hT : PySem.W.kitMeta T = true) (hr : ([Value.type "Exception", .type "BaseException", .type "object"].contains (.type T)) = r) : kitOne K (.ref C) (.type T) = some r := by
  unfold kitOne
  rw [if_neg (by simp)]
  unfold PySem.W.kitCls
  simp only [hT, if_true]
  rw [a.sub, List.contains_cons, List.contains_cons, hr, show (Value.type T == Value.ref C) = false from beq_eq_false_iff_ne.mpr (fun z => nomatch z), show (Value.type T == Value.ref B) = false from beq_eq_false_iff_ne.mpr (fun z => nomatch z)]
  rfl
theorem exm_self (a : ErrC K mg B x C) : exmOne K (.ref C) (.ref C) = some true := by
  have h := a.own.exC
  unfold exmOne PySem.W.kitCls
  simp only [h, a.isCls, if_true, beq_self_eq_true]
  rw [a.sub]
  simp
theorem exm_else (a : ErrC K mg B x C) (b : ErrC K mg B y D) (o : BaseC K mg z B) (h : ¬ x = y) (hz : ¬ y = z) : exmOne K (.ref C) (.ref D) = some false := by
  have n1 : C ≠ D := a.ne b h
  have n2 : D ≠ B := b.neB o hz
  have e := b.own.exC
  unfold exmOne PySem.W.kitCls
  simp only [e, b.isCls, if_true, beq_self_eq_true]
  rw [a.sub]
  simp [n1.symm, n2]
theorem exm_base (a : ErrC K mg B x C) (o : BaseC K mg z B) : exmOne K (.ref C) (.ref B) = some true := by
  unfold exmOne PySem.W.kitCls
  simp only [o.ex, o.isCls, if_true, beq_self_eq_true]
  rw [a.sub]
  simp
end

/-- __init__(self, f): the base's __init__ with a text, then self.f = f -/
def spInit (C : Addr) (f : Str) : Sp := fun vs H Q _ => ∃ (a : Addr) (v : V), vs = [.ref a, v] ∧ H a = some (exo a C none) ∧ ∀ dx, H dx = none → dx ≠ a → Q .non (upd (upd H dx (exd dx [(f, v)])) a (exo a C (some dx)))
def spInit0 (C : Addr) : Sp := fun vs H Q _ => ∃ a : Addr, vs = [.ref a] ∧ H a = some (exo a C none) ∧ Q .non H
section
variable {P : Program} {w : World} {K : PySem.W.Frag} {mg : Str → Option Value} {base : Heap} {fI C B : Addr} {fd : FuncData} {st : Stmt} {qual f t : Str} {j : Nat} {p1 p2 p3 p4 p5 p6 p7 p8 p9 p10 : Pos}
theorem ok_init {pl : Env → Sem Bool} (F : Fun K "__init__" qual st fI fd) (S : FnScope ["self", f] ["self", f] (defScope st)) (hv : Vis (defScope st) "self") (hf : Vis (defScope st) f) (hg : (defScope st).names.lookup ("PlayError" : Str) = some .globalImplicit)
    (body : defBody st = [.Expr (.Call (.Attribute (.Name "PlayError" p1) "__init__" p2) [.Name "self" p3, .Constant (.str t) j p4] [] p5) p6, .Assign [.Attribute (.Name "self" p7) f p8] (.Name f p9) p10])
    (hc : ∀ env : Env, eval (.Call (.Attribute (.Name "PlayError" p1) "__init__" p2) [.Name "self" p3, .Constant (.str t) j p4] [] p5) env = (do
      let ov ← eval (.Name "PlayError" p1) env
      standAt p2.atName
      let (f, first) ← holding [ov] (getMethod ov "__init__" (pl env))
      callWith p5 f first (backTo p5 (starEach [.Name "self" p3, .Constant (.str t) j p4] env)) (backToKw p5 (keywordEach [] env))))
    (T : OwnE K C) (hno : findIn K (.ref C) f = some none) (O : BaseC K mg "PlayError" B) (n1 : (f == ("__debug__" : Str)) = false) (n2 : (f == ("__classdict__" : Str)) = false) : FnOk P w K mg base CX0 1 fI fd ["self", f] (spInit C f) := by
  refine F.ok S (fun vs H Q E h => ?_) (fun cdv A outer s H vs Q E hr h => ?_)
  · obtain ⟨a, v, rfl, _⟩ := h
    rfl
  obtain ⟨a, v, rfl, ha, q⟩ := h
  rw [body]
  refine ⟨_, pss_cons (ps_expr (pe_base hg O.gB O.sp O.rd O.fc (pa_cons (pv 0 rfl hv) (pa_cons pe_str pa_nil)) (hc _))) (pss_one (ps_first (pv 0 rfl hv) (pv 1 rfl hf n1 n2))), ?_⟩
  refine ⟨_, rfl, a, C, _, rfl, (by show 1 ≤ 1000; decide), T, ha, _, rfl, _, rfl, a, C, rfl, T, hno, ha, q⟩
theorem ok_init0 {pl : Env → Sem Bool} (F : Fun K "__init__" qual st fI fd) (S : FnScope ["self"] ["self"] (defScope st)) (hv : Vis (defScope st) "self") (hg : (defScope st).names.lookup ("PlayError" : Str) = some .globalImplicit)
    (body : defBody st = [.Expr (.Call (.Attribute (.Name "PlayError" p1) "__init__" p2) [.Name "self" p3] [] p5) p6])
    (hc : ∀ env : Env, eval (.Call (.Attribute (.Name "PlayError" p1) "__init__" p2) [.Name "self" p3] [] p5) env = (do
      let ov ← eval (.Name "PlayError" p1) env
      standAt p2.atName
      let (f, first) ← holding [ov] (getMethod ov "__init__" (pl env))
      callWith p5 f first (backTo p5 (starEach [.Name "self" p3] env)) (backToKw p5 (keywordEach [] env)))) (T : OwnE K C) (O : BaseC K mg "PlayError" B) : FnOk P w K mg base CX0 1 fI fd ["self"] (spInit0 C) := by
  refine F.ok S (fun vs H Q E h => ?_) (fun cdv A outer s H vs Q E hr h => ?_)
  · obtain ⟨a, rfl, _⟩ := h
    rfl
  obtain ⟨a, rfl, ha, q⟩ := h
  rw [body]
  refine ⟨_, pss_one (ps_expr (pe_base hg O.gB O.sp O.rd O.fc (pa_cons (pv 0 rfl hv) pa_nil) (hc _))), ?_⟩
  exact ⟨_, rfl, a, C, _, rfl, by decide, T, ha, q⟩
end
end Zk

set_option maxHeartbeats 1000000
/-! E9: errors with one field, raised of an expression's value, caught and asked; calls by keywords alone that may raise (no text of a program here). -/
namespace Zk
open PySem PySem.Spec PyProof.Rows L2
open PySem.W (findIn subIn typeIn keepIn excTail kitOne kitAny exmOne clsIn)
/-- an error class with one field -/
structure ErrM' (P : Program) (w : World) (K : PySem.W.Frag) (mg : Str → Option Value) (base : Heap) (B : Addr) (x f : Str) (C : Addr) : Prop where
  err : ErrC K mg B x C
  no : findIn K (.ref C) f = some none
  ini : ∃ fI fd, findIn K (.ref C) "__init__" = some (some (.ref fI)) ∧ typeIn K (.ref fI) = some (.type "function") ∧ FnOk P w K mg base CX0 1 fI fd ["self", f] (spInit C f) ∧ KwOk K fd ["self", f] [] 1 0
/-- the dict of an error in flight -/
def XdF (H : Hp) (f : Str) (v : V) (d : Option Addr) : Prop := ∃ a, d = some a ∧ H a = some (.xd [(f, v)])
theorem XdF.same {H H' : Hp} (s : Same H H') {f : Str} {v : V} {d : Option Addr} (h : XdF H f v d) : XdF H' f v d := by
  obtain ⟨a, e, h⟩ := h
  exact ⟨a, e, s _ _ h⟩
theorem OwnE.xf' {K : PySem.W.Frag} {C : Addr} (T : OwnE K C) : XfC K C := by
  refine ⟨T.ga, T.gg, T.exC, ?_⟩
  obtain ⟨cd, hcd, hd, _⟩ := T.cd
  unfold PySem.W.hasDictIn
  rw [hcd]
  exact hd
/-- raise C(e) -/
def tRaE (C : Addr) (f : Str) (te : TE) : L2.St → Hp → XK → Prop := fun σ H Q => te σ H fun v H1 => [v].length = 1 ∧ 1 ≤ 1000 ∧ ∀ a, H1 a = none → spInit C f [.ref a, v] (upd H1 a (exo a C none)) (made C H1 a Q) E0
theorem ra_read {H1 : Hp} {C : Addr} {f : Str} {v : V} {Q : XK} (q : ∀ d H', Same H1 H' → XdF H' f v d → Q (.ref C) d H') : [v].length = 1 ∧ 1 ≤ 1000 ∧ ∀ a, H1 a = none → spInit C f [.ref a, v] (upd H1 a (exo a C none)) (made C H1 a Q) E0 := by
  refine ⟨rfl, by decide, fun a na => ?_⟩
  refine ⟨a, v, rfl, upd_same, fun dx hd ne => ⟨rfl, dx, [(f, v)], upd_same, ?_, (upd_ne ne).symm.trans hd, q (some dx) _ (fun b o e => ?_) ⟨dx, rfl, upd_same⟩⟩⟩
  · rw [upd_ne ne, upd_same]
  · have nb : b ≠ a := fun z => by rw [z, na] at e; cases e
    have nd : b ≠ dx := ne_of_none e ((upd_ne ne).symm.trans hd)
    rw [upd_ne nd, del_ne nb, upd_ne nb, upd_ne nd, upd_ne nb]
    exact e
section
variable {X : Cx} {x y f : Str} {B C : Addr} {p p2 pos kpos : Pos} {i : Nat} {e : Expr} {te : TE}
theorem pmk_E (G : ErrM' X.prog X.w X.K X.mg X.base B x f C) (hr : Room 2 X.A) (hg : Gl X x) (he : PE X e te) (hdb : (x == ("__debug__" : Str)) = false := by decide +kernel) (hs : starEach [e] X.env = (false, eval e X.env) :: starEach [] X.env := by rfl) : L2.PMk X (.Call (.Name x p) [e] [] pos) (tRaE C f te) := by
  obtain ⟨fI, fd, iC, tI, F1, b1⟩ := G.ini
  exact fun pins s σ H Q I h => pmk_err G.err.own iC tI F1 hr b1 hg G.err.gC (pa_cons he pa_nil (hs := hs)) hdb hs rfl pins s σ H Q I h
end
section
variable {X : Cx} {CX : CXT} {k : Nat} {f C : Addr} {fd : FuncData} {ps ks : List Str} {sp : Sp} {E : L2.St → XK} {x m : Str} {p pos apos : Pos} {kws : List Keyword} {tk : TA} {g : List Value → List Value → List Value} {gV : List V → List V → List V}
def tCallKS (sp : Sp) (gV : List V → List V → List V) (E : L2.St → XK) (tk : TA) : TE := fun σ H Q => tk σ H fun zs H2 => sp (gV [] zs) H2 Q (E σ)
theorem pe_callKS (F : FnOk X.prog X.w X.K X.mg X.base CX k f fd ps sp) (hr : Room k X.A) (hg : Gl X x) (hm : X.mg x = some (.ref f)) (hk : PySem.W.keepIn X.K (.ref f) = true) (hb : KBinds X.K fd ps ks g gV) (hx : ∀ σ, PassesAt CX X σ (E σ))
    (hkw : PK X kws tk) (hall : (backToKw pos (keywordEach kws X.env)).all (·.1.isSome) = true := by rfl) (hks : (backToKw pos (keywordEach kws X.env)).filterMap (·.1) = ks := by rfl)
    (hdb : (x == ("__debug__" : Str)) = false := by decide)
    (hpl : ((backTo pos (starEach [] X.env)).any (·.1) || (backToKw pos (keywordEach kws X.env)).any (·.1.isNone)) = false := by rfl) :
    PE X (.Call (.Name x p) [] kws pos) (tCallKS sp gV E tk) := by
  refine ⟨fun pins s σ H Q I h => ?_⟩
  refine wpAny_Call_Name_kw (ld_glob I hg hm ?_ hdb)
  refine PySem.W.callWith_KW0 (h₀ := X.base) I.ok.mod.kin hk hall ?_ hpl
  refine thn (hkw.run pos pins s σ H _ I h) fun ws s2 ⟨zs, H2, I2, rz, q2⟩ => ⟨I2.kIn, ?_⟩
  rw [hks]
  have r2 := hb.rel .nil rz
  have hl : (g [] ws).length = ps.length := by rw [← r2.length]; exact F.len _ _ _ _ q2
  refine wpAny_call (codeAny_mono (F.run X.A X.stack s2 H2 ⟨[], ks.zip ws⟩ (g [] ws) (gV [] zs) Q (E σ) hr I2.env0 (hb.to s2 [] ws I2.kIn hl) r2 q2) fun r s' hq => ?_)
  cases r with
  | error e => exact hx σ pins H2 s2 e s' I2 hq
  | ok fl =>
    cases fl with
    | ret u => exact I2.after hq
    | next => exact False.elim hq
    | brk => exact False.elim hq
    | cont => exact False.elim hq
end
/-! ### isinstance of the exception that is handled -/
section
variable {X : Cx} {x y f : Str} {B C : Addr} {p p2 p3 p4 pos : Pos} {i : Nat} {pp : Addr × Obj} {pins : List (Addr × Obj)} {σ : List (Option V)} {H : Hp} {s : Shared}
theorem pin_kit' (T : OwnE X.K C) (G : ClsG X.K) (I : Inv X pins σ H s) (hp : pp ∈ X.pn) (hc : pp.2.cls = .ref C) (hf : ∃ vs, pp.2.data = .fields vs) (hd : pp.2.dict = none ∨ ∃ dd fs, pp.2.dict = some dd ∧ H dd = some (.xd fs)) :
    ∃ P : Heap → Prop, PySem.W.KitX X.K (.ref pp.1) (.ref C) P ∧ P s.heap := by
  have ho := (I.pin pp (List.mem_append_left _ hp)).1
  obtain ⟨vs, hv⟩ := hf
  have nc : PySem.W.notCls pp.2 := by unfold PySem.W.notCls; rw [hv] <;> rfl
  rcases hd with hd | ⟨dd, fs, hd, hx⟩
  · exact ⟨_, PySem.W.kitx_exc (od := none) T.isCls T.ga T.gg T.exC T.ca G.sp G.tk (T.mro (by decide +kernel)), ⟨ho, hc, nc, by rw [hd]; trivial⟩⟩
  · obtain ⟨mA, hns, _⟩ := (I.hok dd _ hx : ObjOk X.prog X.w H s.heap dd (.xd fs))
    obtain ⟨od, hod, _⟩ := lookIn_ns hns
    exact ⟨_, PySem.W.kitx_exc (od := some od) T.isCls T.ga T.gg T.exC T.ca G.sp G.tk (T.mro (by decide +kernel)), ⟨ho, hc, nc, by rw [hd]; exact hod⟩⟩
def rIsPn (K : PySem.W.Frag) (pp : Addr × Obj) : List V → Hp → VK → Prop := fun xs H Q => ∃ (C : Addr) (c : V) (u : Value) (b : Bool), xs = [.ref pp.1, c] ∧ ClsV c u ∧ OwnE K C ∧ ClsG K ∧ pp.2.cls = .ref C ∧ (∃ vs, pp.2.data = .fields vs) ∧ (pp.2.dict = none ∨ ∃ dd fs, pp.2.dict = some dd ∧ H dd = some (.xd fs)) ∧
  kitOne K (.ref C) u = some b ∧ Q (.bl b) H
theorem call_isPn (hp : pp ∈ X.pn) : CallR X (.builtin "isinstance") (rIsPn X.K pp) := by
  intro pins s σ H xs us Q I r h
  obtain ⟨C, c, u, b, rfl, k, T, G, h1, h2, h3, e, q⟩ := h
  obtain ⟨u1, u2, rfl, r1, r2⟩ := vals2 r
  obtain rfl : u1 = Value.ref pp.1 := r1
  have e2 := k.eq r2
  subst e2
  obtain ⟨P, Z, hz⟩ := pin_kit' T G I hp h1 h2 h3
  exact PySem.W.kia_one Z I.kIn hz e (fun z => nomatch z) fun tk => ⟨.bl b, H, I.tok tk, rfl, q⟩
end
end Zk

set_option maxHeartbeats 1000000
/-! T0: items of texts of polynomials, read in two ways (lists of signs; no text of a program here). -/
namespace Zk
open TL
def isD (c : Nat) : Bool := decide (48 ≤ c ∧ c ≤ 57)
def dval (l : List Nat) : Nat := l.foldl (fun a c => a * 10 + (c - 48)) 0
/-- digits, the first one no 0 -/
def okD (l : List Nat) : Bool := l.all isD && !(l.head? == some 48)
def numeral (l : List Nat) : Nat := if okD l then dval l else 0
def figs (l : List Nat) : Bool := decide (0 < l.length) && (decide (l.length < 41) && okD l)
theorem foldD_le : ∀ (l : List Nat) (a : Nat), a ≤ l.foldl (fun a c => a * 10 + (c - 48)) a
  | [], a => Nat.le_refl _
  | c :: r, a => Nat.le_trans (by omega) (foldD_le r (a * 10 + (c - 48)))
theorem foldD_ten (c : Nat) (l : List Nat) (a : Nat) : a * 10 ≤ (c :: l).foldl (fun a c => a * 10 + (c - 48)) a := by
  rw [List.foldl_cons]
  exact Nat.le_trans (by omega) (foldD_le l (a * 10 + (c - 48)))
theorem okD_cons {c : Nat} {r : List Nat} (h : okD (c :: r) = true) : 49 ≤ c ∧ c ≤ 57 := by
  unfold okD at h
  rw [Bool.and_eq_true] at h
  have h1 := List.all_eq_true.mp h.1 c List.mem_cons_self
  have h1 := of_decide_eq_true h1
  have h2 : ¬ c = 48 := by
    intro e
    subst e
    simp at h
  omega
theorem numeral_pos {l : List Nat} : 0 < numeral l ↔ l ≠ [] ∧ okD l = true := by
  unfold numeral
  constructor
  · intro h
    by_cases z : okD l = true
    · rw [if_pos z] at h
      refine ⟨fun e => ?_, z⟩
      subst e
      exact absurd h (by decide)
    · rw [if_neg z] at h
      exact absurd h (by decide)
  · rintro ⟨h, z⟩
    rw [if_pos z]
    cases l with
    | nil => exact absurd rfl h
    | cons c r =>
      have := okD_cons z
      have h2 := foldD_le r (0 * 10 + (c - 48))
      show 0 < r.foldl _ (0 * 10 + (c - 48))
      omega
theorem numeral_one {l : List Nat} : numeral l = 1 ↔ l = [49] := by
  constructor
  · intro h
    obtain ⟨hn, hk⟩ := numeral_pos.mp (by omega : 0 < numeral l)
    unfold numeral at h
    rw [if_pos hk] at h
    cases l with
    | nil => exact absurd rfl hn
    | cons c r =>
      have hc := okD_cons hk
      cases r with
      | nil =>
        have h : 0 * 10 + (c - 48) = 1 := h
        have : c = 49 := by omega
        rw [this]
      | cons d r =>
        have h2 := foldD_ten d r (0 * 10 + (c - 48))
        have h : (d :: r).foldl (fun a c => a * 10 + (c - 48)) (0 * 10 + (c - 48)) = 1 := h
        omega
  · rintro rfl
    decide
/-- with at most 40 signs both say the same -/
theorem figs_numeral {l : List Nat} (h : l.all isD = true → l.length ≤ 40) : figs l = decide (0 < numeral l) := by
  by_cases z : 0 < numeral l
  · obtain ⟨h1, h2⟩ := numeral_pos.mp z
    have hl : l.length ≤ 40 := h (by unfold okD at h2; rw [Bool.and_eq_true] at h2; exact h2.1)
    have h0 : 0 < l.length := List.length_pos_iff.mpr h1
    unfold figs
    rw [decide_eq_true z, decide_eq_true h0, decide_eq_true (show l.length < 41 by omega), h2]
    rfl
  · rw [decide_eq_false z]
    have : ¬ (l ≠ [] ∧ okD l = true) := fun q => z (numeral_pos.mpr q)
    unfold figs
    by_cases h1 : l = []
    · subst h1; rfl
    · have h2 : okD l = false := by
        cases e : okD l with
        | false => rfl
        | true => exact absurd ⟨h1, e⟩ this
      rw [h2, Bool.and_false, Bool.and_false]
theorem numeral_val {l : List Nat} (h : 0 < numeral l) : numeral l = dval l := by
  unfold numeral
  rw [if_pos (numeral_pos.mp h).2]
/-- the program's way -/
def expP (l : List Nat) : Int := if l = [110] then 1 else if 1 < (if l.take 2 = [110, 94] then numeral (l.drop 2) else 0) then ((if l.take 2 = [110, 94] then numeral (l.drop 2) else 0 : Nat) : Int) else -1
def pairP (l : List Nat) : Int × Int := if 110 ∈ l then (match par [42] [] l.reverse with
    | none => (expP l, 1)
    | some (a, b) => (expP a.reverse, if 1 < numeral b.reverse then ((numeral b.reverse : Nat) : Int) else 0))
  else (0, ((numeral l : Nat) : Int))
/-- the law's way -/
def tailL (c : Nat) (t : List Nat) : Option (Int × Int) := if t = [110] then some (1, (c : Int)) else if t.take 2 = [110, 94] ∧ figs (t.drop 2) = true ∧ t.drop 2 ≠ [49] then some (((dval (t.drop 2) : Nat) : Int), (c : Int)) else none
def itemL (l : List Nat) : Option (Int × Int) := if figs l = true then some (0, ((dval l : Nat) : Int)) else match par [42] [] l with
  | none => tailL 1 l
  | some (h, t) => if figs h = true ∧ h ≠ [49] then tailL (dval h) t else none
/-- where a sign stands first -/
theorem par_one {s : Nat} : ∀ (l acc : List Nat), (s ∉ l → par [s] acc l = none) ∧ ∀ p r, l = p ++ s :: r → s ∉ p → par [s] acc l = some (acc ++ p, r)
  | l, acc => by
    refine ⟨fun h => par_none1 h, fun p r e h => ?_⟩
    have := par_part1 (s := s) (S := []) (p := p) (rest := r) (acc := acc) h
    rw [e]
    simpa using this
theorem first_star {s : Nat} : ∀ l : List Nat, s ∈ l → ∃ p r, l = p ++ s :: r ∧ s ∉ p
  | [], h => nomatch h
  | c :: l, h => by
    by_cases e : c = s
    · exact ⟨[], l, by rw [e]; rfl, List.not_mem_nil⟩
    · have : s ∈ l := by
        rcases List.mem_cons.mp h with z | z
        · exact absurd z.symm e
        · exact z
      obtain ⟨p, r, e2, h2⟩ := first_star l this
      exact ⟨c :: p, r, by rw [e2]; rfl, fun z => by
        rcases List.mem_cons.mp z with z | z
        · exact e z.symm
        · exact h2 z⟩
theorem no_mem_digits {l : List Nat} {s : Nat} (h : l.all isD = true) (hs : s < 48 ∨ 57 < s) : s ∉ l := fun m => by
  have := of_decide_eq_true (List.all_eq_true.mp h s m)
  omega
theorem okD_all {l : List Nat} (h : okD l = true) : l.all isD = true := by
  unfold okD at h
  rw [Bool.and_eq_true] at h
  exact h.1
/-- is a pair that is_pair takes -/
def goodP (x : Int × Int) : Prop := 0 ≤ x.1 ∧ 1 ≤ x.2
theorem tail_exp {c : Nat} {t : List Nat} (hc : 1 ≤ c) (h : (t.drop 2).all isD = true → (t.drop 2).length ≤ 40) : (0 ≤ expP t → tailL c t = some (expP t, (c : Int))) ∧ (¬ 0 ≤ expP t → tailL c t = none) := by
  unfold expP tailL
  by_cases h1 : t = [110]
  · rw [if_pos h1, if_pos h1]
    exact ⟨fun _ => rfl, fun z => absurd (by decide) z⟩
  · rw [if_neg h1, if_neg h1]
    by_cases h2 : t.take 2 = [110, 94]
    · simp only [h2, if_true, true_and]
      rw [figs_numeral h]
      by_cases h3 : 1 < numeral (t.drop 2)
      · rw [if_pos h3, if_pos ⟨decide_eq_true (by omega), fun z => by rw [numeral_one.mpr z] at h3; omega⟩, numeral_val (by omega)]
        exact ⟨fun _ => rfl, fun z => absurd (by omega) z⟩
      · rw [if_neg h3]
        refine ⟨fun z => absurd z (by decide), fun _ => if_neg fun q => ?_⟩
        have q1 := of_decide_eq_true q.1
        exact q.2 (numeral_one.mp (by omega))
    · simp only [h2, if_false, false_and]
      exact ⟨fun z => absurd z (by decide), fun _ => trivial⟩
theorem drop2_digits_no_n {t : List Nat} (h : 110 ∉ t) : ¬ t = [110] ∧ ¬ t.take 2 = [110, 94] := by
  refine ⟨fun e => h (by rw [e]; exact List.mem_singleton.mpr rfl), fun e => h ?_⟩
  have : 110 ∈ t.take 2 := by rw [e]; exact List.mem_cons_self
  exact List.mem_of_mem_take this
theorem tail_none {c : Nat} {t : List Nat} (h : 110 ∉ t) : tailL c t = none := by
  obtain ⟨h1, h2⟩ := drop2_digits_no_n h
  unfold tailL
  rw [if_neg h1, if_neg fun q => h2 q.1]
theorem exp_bad {t : List Nat} (h : 110 ∉ t) : ¬ 0 ≤ expP t := by
  obtain ⟨h1, h2⟩ := drop2_digits_no_n h
  unfold expP
  rw [if_neg h1]
  simp only [h2, if_false]
  decide
/-- both ways of an item say the same, where no run of digits has more than 40 -/
theorem item_eq {l : List Nat} (h : ∀ w, w <:+: l → w.all isD = true → w.length ≤ 40) : (goodP (pairP l) → itemL l = some (pairP l)) ∧ (¬ goodP (pairP l) → itemL l = none) := by
  have sub : ∀ {a b w : List Nat}, a <:+: b → w <:+: a → w <:+: b := fun x y => y.trans x
  have dr : ∀ t : List Nat, t.drop 2 <:+: t := fun t => (List.drop_suffix 2 t).isInfix
  unfold itemL pairP
  by_cases hn : 110 ∈ l
  · rw [if_pos hn]
    have nf : ¬ figs l = true := fun z => by
      unfold figs at z
      simp only [Bool.and_eq_true] at z
      exact no_mem_digits (okD_all z.2.2) (by omega) hn
    rw [if_neg nf]
    by_cases hs : 42 ∈ l
    · obtain ⟨p, r, e, hp⟩ := first_star l hs
      obtain ⟨p2, r2, e2, hp2⟩ := first_star l.reverse (List.mem_reverse.mpr hs)
      have q1 := (par_one l []).2 p r e hp
      have q2 := (par_one l.reverse []).2 p2 r2 e2 hp2
      rw [q1, q2]
      simp only [List.nil_append]
      have e3 : l = r2.reverse ++ 42 :: p2.reverse := by
        have := congrArg List.reverse e2
        rw [List.reverse_reverse] at this
        rw [this]
        simp
      by_cases hr : 42 ∈ r
      · -- two stars
        have hr2 : 42 ∈ r2.reverse := by
          obtain ⟨p3, r3, e4, _⟩ := first_star r hr
          rw [List.mem_reverse]
          -- r2 reversed holds p and the first star
          have len : p.length < r2.reverse.length := by
            have l1 : l = p ++ 42 :: (p3 ++ 42 :: r3) := by rw [e, e4]
            by_cases z : p.length < r2.reverse.length
            · exact z
            · exfalso
              have a1 : l[r2.reverse.length + (1 + (p.length - r2.reverse.length) + p3.length)]? = some 42 := by
                rw [l1, show r2.reverse.length + (1 + (p.length - r2.reverse.length) + p3.length) = p.length + (1 + p3.length) by omega]
                simp [List.getElem?_append_right, show 1 + p3.length = p3.length + 1 by omega]
              rw [e3, List.getElem?_append_right (by omega), show r2.reverse.length + (1 + (p.length - r2.reverse.length) + p3.length) - r2.reverse.length = (p.length - r2.reverse.length + p3.length) + 1 by omega, List.getElem?_cons_succ] at a1
              exact hp2 (List.mem_reverse.mp (List.mem_of_getElem? a1))
          have a2 : l[p.length]? = some 42 := by rw [e]; simp
          rw [e3, List.getElem?_append_left len] at a2
          exact List.mem_reverse.mp (List.mem_of_getElem? a2)
        have n0 : numeral r2.reverse = 0 := by
          have : ¬ 0 < numeral r2.reverse := fun z => no_mem_digits (okD_all (numeral_pos.mp z).2) (by omega) hr2
          omega
        rw [n0]
        refine ⟨fun g => absurd g.2 (show ¬ (1 : Int) ≤ 0 by decide), fun _ => ?_⟩
        by_cases hf : figs p = true ∧ p ≠ [49]
        · rw [if_pos hf]
          unfold tailL
          rw [if_neg (fun z => by rw [z] at hr; simp at hr), if_neg]
          rintro ⟨t1, t2, _⟩
          have : 42 ∈ r.drop 2 := by
            have hh := List.take_append_drop 2 r
            rw [← hh, t1] at hr
            simpa using hr
          unfold figs at t2
          simp only [Bool.and_eq_true] at t2
          exact no_mem_digits (okD_all t2.2.2) (by omega) this
        · rw [if_neg hf]
      · -- one star
        have e5 : p2 = r.reverse ∧ r2 = p.reverse := by
          have e4 : r.reverse ++ 42 :: p.reverse = p2 ++ 42 :: r2 := by rw [← e2, e]; simp
          have hr' : 42 ∉ r.reverse := fun z => hr (List.mem_reverse.mp z)
          have a := (par_one (r.reverse ++ 42 :: p.reverse) []).2 _ _ rfl hr'
          have b := (par_one (r.reverse ++ 42 :: p.reverse) []).2 _ _ e4 hp2
          rw [a] at b
          simp only [List.nil_append] at b
          injection b with b
          injection b with b1 b2
          exact ⟨b1.symm, b2.symm⟩
        rw [e5.1, e5.2, List.reverse_reverse, List.reverse_reverse]
        have ip : p <:+: l := ⟨[], 42 :: r, by rw [e]; simp⟩
        have ir : r <:+: l := ⟨p ++ [42], [], by rw [e]; simp⟩
        rw [figs_numeral fun z => h p ip z]
        by_cases hc : 1 < numeral p
        · rw [if_pos hc, if_pos ⟨decide_eq_true (by omega), fun z => by rw [numeral_one.mpr z] at hc; omega⟩]
          have te := tail_exp (c := dval p) (t := r) (by rw [← numeral_val (by omega)]; omega) fun z => h _ (sub ir (dr r)) z
          have hp0 : 0 < numeral p := by omega
          rw [numeral_val hp0] at hc ⊢
          exact ⟨fun g => te.1 g.1, fun g => te.2 fun z => g ⟨z, show (1 : Int) ≤ ((dval p : Nat) : Int) from Int.ofNat_le.mpr (Nat.le_of_lt hc)⟩⟩
        · rw [if_neg hc, if_neg fun q => ?_]
          · exact ⟨fun g => absurd g.2 (show ¬ (1 : Int) ≤ 0 by decide), fun _ => rfl⟩
          · have q1 := of_decide_eq_true q.1
            exact q.2 (numeral_one.mp (by omega))
    · rw [(par_one l []).1 hs, (par_one l.reverse []).1 fun z => hs (List.mem_reverse.mp z)]
      have te := tail_exp (c := 1) (t := l) (Nat.le_refl 1) fun z => h _ (dr l) z
      exact ⟨fun g => te.1 g.1, fun g => te.2 fun z => g ⟨z, show (1 : Int) ≤ 1 by decide⟩⟩
  · rw [if_neg hn, figs_numeral fun z => h l ⟨[], [], by simp⟩ z]
    by_cases hp : 0 < numeral l
    · rw [if_pos (decide_eq_true hp), numeral_val hp]
      rw [numeral_val hp] at hp
      exact ⟨fun _ => rfl, fun g => absurd ⟨Int.le_refl 0, by show (1 : Int) ≤ ((dval l : Nat) : Int); omega⟩ g⟩
    · rw [if_neg (fun z => hp (of_decide_eq_true z))]
      refine ⟨fun g => absurd g.2 (by show ¬ (1 : Int) ≤ ((numeral l : Nat) : Int); omega), fun _ => ?_⟩
      cases e : par [42] [] l with
      | none => exact tail_none hn
      | some x =>
        obtain ⟨a, b⟩ := x
        show (if figs a = true ∧ a ≠ [49] then tailL (dval a) b else none) = none
        have hs : 42 ∈ l := by
          by_cases z : 42 ∈ l
          · exact z
          · rw [(par_one l []).1 z] at e
            cases e
        obtain ⟨p, r, e1, hp1⟩ := first_star l hs
        rw [(par_one l []).2 p r e1 hp1] at e
        injection e with e
        injection e with e2 e3
        have : 110 ∉ b := fun z => hn (by rw [e1, e3]; simp [z])
        rw [tail_none this]
        split <;> rfl
end Zk

set_option maxHeartbeats 1000000
/-! T1: runs of digits stay short where a text is bent a few times. -/
namespace Zk
open TL
def nd (l : List Nat) : Nat := (l.filter fun c => !isD c).length
def dgs (l : List Nat) : Nat := (l.filter isD).length
theorem nd_app (a b : List Nat) : nd (a ++ b) = nd a + nd b := by simp [nd]
theorem dgs_app (a b : List Nat) : dgs (a ++ b) = dgs a + dgs b := by simp [dgs]
theorem nd_cons_le (c : Nat) (a : List Nat) : nd (c :: a) ≤ nd a + 1 := by
  unfold nd
  rw [List.filter_cons]
  split <;> simp
theorem dgs_cons_le (c : Nat) (a : List Nat) : dgs a ≤ dgs (c :: a) := by
  unfold dgs
  rw [List.filter_cons]
  split <;> simp
/-- windows with at most j others hold at most b digits -/
def W (j b : Nat) (l : List Nat) : Prop := ∀ w, w <:+: l → nd w ≤ j → dgs w ≤ b
theorem inf_app {w a r : List Nat} (h : w <:+: a ++ r) : w <:+: a ∨ w <:+: r ∨ ∃ a2 r1, w = a2 ++ r1 ∧ a2 <:+ a ∧ r1 <+: r := by
  obtain ⟨s, t, e⟩ := h
  rw [List.append_assoc] at e
  rcases List.append_eq_append_iff.mp e with ⟨c, e1, e2⟩ | ⟨c, e1, e2⟩
  · -- a = s ++ c, w ++ t = c ++ r
    rcases List.append_eq_append_iff.mp e2 with ⟨d, f1, f2⟩ | ⟨d, f1, f2⟩
    · -- c = w ++ d
      exact .inl ⟨s, d, by rw [e1, f1, List.append_assoc]⟩
    · -- w = c ++ d, r = d ++ t
      exact .inr (.inr ⟨c, d, f1, ⟨s, e1.symm⟩, ⟨t, f2.symm⟩⟩)
  · -- s = a ++ c, r = c ++ (w ++ t)
    exact .inr (.inl ⟨c, t, by rw [e2, List.append_assoc]⟩)
theorem pre_app {w a r : List Nat} (h : w <+: a ++ r) : w <+: a ∨ ∃ r1, w = a ++ r1 ∧ r1 <+: r := by
  obtain ⟨t, e⟩ := h
  rcases List.append_eq_append_iff.mp e with ⟨c, e1, e2⟩ | ⟨c, e1, e2⟩
  · exact .inl ⟨c, e1.symm⟩
  · exact .inr ⟨c, e1, ⟨t, e2.symm⟩⟩
theorem W.mono {j b j' b' : Nat} {l : List Nat} (h : W j b l) (hj : j' ≤ j) (hb : b ≤ b') : W j' b' l := fun w hw hn => Nat.le_trans (h w hw (Nat.le_trans hn hj)) hb
theorem W.inf {j b : Nat} {l m : List Nat} (h : W j b l) (hm : m <:+: l) : W j b m := fun w hw hn => h w (hw.trans hm) hn
theorem sp_inf {a2 r1 a r s : List Nat} (h : a2 <:+ a) (k : r1 <+: r) : a2 ++ (s ++ r1) <:+: a ++ (s ++ r) := by
  obtain ⟨x, e⟩ := h
  obtain ⟨y, f⟩ := k
  exact ⟨x, y, by rw [← e, ← f]; simp⟩
/-- one sign left out -/
theorem W.del {j b : Nat} {a r : List Nat} {c : Nat} (h : W (j + 1) b (a ++ c :: r)) : W j b (a ++ r) := fun w hw hn => by
  rcases inf_app hw with q | q | ⟨a2, r1, rfl, qa, qr⟩
  · exact h w (q.trans ⟨[], c :: r, by simp⟩) (by omega)
  · exact h w (q.trans ⟨a ++ [c], [], by simp⟩) (by omega)
  · have i : a2 ++ ([c] ++ r1) <:+: a ++ ([c] ++ r) := sp_inf qa qr
    rw [nd_app] at hn
    have n2 := nd_cons_le c r1
    have d2 := dgs_cons_le c r1
    have := h (a2 ++ ([c] ++ r1)) i (by rw [nd_app]; show nd a2 + nd (c :: r1) ≤ _; omega)
    rw [dgs_app] at this ⊢
    have : dgs a2 + dgs (c :: r1) ≤ b := this
    omega
/-- a few signs put, at most one digit among them -/
theorem W.ins {j b : Nat} {a s r : List Nat} (h : W j b (a ++ r)) (hs : dgs s ≤ 1) : W j (b + 1) (a ++ (s ++ r)) := fun w hw hn => by
  have suf : ∀ {x : List Nat}, x <:+ s → dgs x ≤ 1 := fun ⟨y, e⟩ => by
    rw [← e, dgs_app] at hs
    omega
  have prs : ∀ {x : List Nat}, x <+: s → dgs x ≤ 1 := fun ⟨y, e⟩ => by
    rw [← e, dgs_app] at hs
    omega
  rcases inf_app hw with q | q | ⟨a2, q1, rfl, qa, qq⟩
  · exact Nat.le_succ_of_le (h w (q.trans ⟨[], r, by simp⟩) hn)
  · rcases inf_app q with q | q | ⟨s2, r1, rfl, qs, qr⟩
    · obtain ⟨x, y, e⟩ := q
      rw [← e, dgs_app, dgs_app] at hs
      omega
    · exact Nat.le_succ_of_le (h w (q.trans ⟨a, [], by simp⟩) hn)
    · rw [nd_app] at hn
      have i : r1 <:+: a ++ r := qr.isInfix.trans ⟨a, [], by simp⟩
      have := h r1 i (by omega)
      have := suf qs
      rw [dgs_app]
      omega
  · rw [nd_app] at hn
    rcases pre_app qq with q | ⟨r1, rfl, qr⟩
    · have i : a2 <:+: a ++ r := qa.isInfix.trans ⟨[], r, by simp⟩
      have := h a2 i (by omega)
      have := prs q
      rw [dgs_app]
      omega
    · rw [nd_app] at hn
      have i : a2 ++ r1 <:+: a ++ r := by
        have := sp_inf (s := []) qa qr
        simpa using this
      have := h (a2 ++ r1) i (by rw [nd_app]; omega)
      rw [dgs_app] at this
      rw [dgs_app, dgs_app]
      omega
/-- the sign between items -/
def sepL : List Nat := [32, 43, 32]
theorem join_inf : ∀ {ps : List (List Nat)} {p : List Nat}, p ∈ ps → p <:+: joinL sepL ps
  | [], _, h => nomatch h
  | [q], p, h => by rw [List.mem_singleton.mp h]; exact ⟨[], [], by simp [joinL]⟩
  | q :: q2 :: r, p, h => by
    rcases List.mem_cons.mp h with h | h
    · rw [h]
      exact ⟨[], sepL ++ joinL sepL (q2 :: r), by simp [joinL]⟩
    · exact (join_inf h).trans ⟨q ++ sepL, [], by simp [joinL]⟩
theorem sep_dgs {x : List Nat} (h : x <:+: sepL) : dgs x = 0 := by
  obtain ⟨a, b, e⟩ := h
  have z : dgs sepL = 0 := by decide
  rw [← e, dgs_app, dgs_app] at z
  omega
/-- items apart: a window with at most two others lies in one of them -/
theorem W_join {b : Nat} : ∀ {ps : List (List Nat)}, (∀ p ∈ ps, W 2 b p) → W 2 b (joinL sepL ps)
  | [], _ => fun w hw hn => by
    have : w = [] := by
      obtain ⟨a, c, e⟩ := hw
      have e : a ++ w ++ c = [] := e
      simp at e
      exact e.2.1
    rw [this]
    exact Nat.zero_le _
  | [p], h => h p List.mem_cons_self
  | p :: q :: r, h => fun w hw hn => by
    have hp := h p List.mem_cons_self
    have ih := W_join (ps := q :: r) fun u hu => h u (List.mem_cons_of_mem _ hu)
    have hw : w <:+: p ++ (sepL ++ joinL sepL (q :: r)) := hw
    rcases inf_app hw with z | z | ⟨a2, q1, rfl, qa, qq⟩
    · exact hp w z hn
    · rcases inf_app z with z | z | ⟨s2, r1, rfl, qs, qr⟩
      · rw [sep_dgs z]; exact Nat.zero_le _
      · exact ih w z hn
      · rw [nd_app] at hn
        rw [dgs_app, sep_dgs qs.isInfix, Nat.zero_add]
        exact ih r1 qr.isInfix (by omega)
    · rw [nd_app] at hn
      rcases pre_app qq with z | ⟨r1, rfl, qr⟩
      · rw [dgs_app, sep_dgs z.isInfix, Nat.add_zero]
        exact hp a2 qa.isInfix (by omega)
      · rw [nd_app] at hn
        have : nd sepL = 3 := by decide
        omega
/-- .. and with three in two -/
theorem W_join3 {b : Nat} : ∀ {ps : List (List Nat)}, (∀ p ∈ ps, W 3 b p) → W 3 (b + b) (joinL sepL ps)
  | [], _ => fun w hw hn => by
    have : w = [] := by
      obtain ⟨a, c, e⟩ := hw
      have e : a ++ w ++ c = [] := e
      simp at e
      exact e.2.1
    rw [this]
    exact Nat.zero_le _
  | [p], h => (h p List.mem_cons_self).mono (Nat.le_refl _) (by omega)
  | p :: q :: r, h => fun w hw hn => by
    have hp := h p List.mem_cons_self
    have ih := W_join3 (ps := q :: r) fun u hu => h u (List.mem_cons_of_mem _ hu)
    have w2 := W_join (b := b) (ps := q :: r) fun u hu => (h u (List.mem_cons_of_mem _ hu)).mono (by omega) (Nat.le_refl _)
    have hw : w <:+: p ++ (sepL ++ joinL sepL (q :: r)) := hw
    rcases inf_app hw with z | z | ⟨a2, q1, rfl, qa, qq⟩
    · exact Nat.le_trans (hp w z hn) (by omega)
    · rcases inf_app z with z | z | ⟨s2, r1, rfl, qs, qr⟩
      · rw [sep_dgs z]; exact Nat.zero_le _
      · exact ih w z hn
      · rw [nd_app] at hn
        rw [dgs_app, sep_dgs qs.isInfix, Nat.zero_add]
        exact ih r1 qr.isInfix (by omega)
    · rw [nd_app] at hn
      rcases pre_app qq with z | ⟨r1, rfl, qr⟩
      · rw [dgs_app, sep_dgs z.isInfix, Nat.add_zero]
        exact Nat.le_trans (hp a2 qa.isInfix (by omega)) (by omega)
      · rw [nd_app] at hn
        have z : nd sepL = 3 := by decide
        have d1 := hp a2 qa.isInfix (by omega)
        have d2 := w2 r1 qr.isInfix (by omega)
        have d3 : dgs sepL = 0 := by decide
        rw [dgs_app, dgs_app]
        omega
/-- the items turned round -/
theorem W_turn {j b : Nat} {ps : List (List Nat)} (h : W j b (joinL sepL ps)) (hj : j ≤ 2) : W j b (joinL sepL ps.reverse) := by
  -- by windows with at most j others, as in W_join
  have key : ∀ {qs : List (List Nat)}, (∀ p ∈ qs, W j b p) → W j b (joinL sepL qs) := by
    intro qs
    induction qs with
    | nil =>
      intro _ w hw hn
      have : w = [] := by
        obtain ⟨a, c, e⟩ := hw
        have e : a ++ w ++ c = [] := e
        simp at e
        exact e.2.1
      rw [this]
      exact Nat.zero_le _
    | cons p r ih =>
      intro h
      cases r with
      | nil => exact h p List.mem_cons_self
      | cons q r =>
        intro w hw hn
        have hp := h p List.mem_cons_self
        have ih := ih fun u hu => h u (List.mem_cons_of_mem _ hu)
        have hw : w <:+: p ++ (sepL ++ joinL sepL (q :: r)) := hw
        rcases inf_app hw with z | z | ⟨a2, q1, rfl, qa, qq⟩
        · exact hp w z hn
        · rcases inf_app z with z | z | ⟨s2, r1, rfl, qs, qr⟩
          · rw [sep_dgs z]; exact Nat.zero_le _
          · exact ih w z hn
          · rw [nd_app] at hn
            rw [dgs_app, sep_dgs qs.isInfix, Nat.zero_add]
            exact ih r1 qr.isInfix (by omega)
        · rw [nd_app] at hn
          rcases pre_app qq with z | ⟨r1, rfl, qr⟩
          · rw [dgs_app, sep_dgs z.isInfix, Nat.add_zero]
            exact hp a2 qa.isInfix (by omega)
          · rw [nd_app] at hn
            have : nd sepL = 3 := by decide
            omega
  exact key fun p hp => h.inf (join_inf (List.mem_reverse.mp hp))
theorem all_len : ∀ {w : List Nat}, w.all isD = true → nd w = 0 ∧ dgs w = w.length
  | [], _ => ⟨rfl, rfl⟩
  | c :: r, h => by
    rw [List.all_cons, Bool.and_eq_true] at h
    obtain ⟨h1, h2⟩ := all_len h.2
    unfold nd dgs at *
    rw [List.filter_cons, List.filter_cons, h.1]
    simp [h1, h2]
/-- what item_eq wants -/
theorem W.runs {b : Nat} {l : List Nat} (h : W 0 b l) (hb : b ≤ 40) : ∀ w, w <:+: l → w.all isD = true → w.length ≤ 40 := fun w hw hd => by
  obtain ⟨h1, h2⟩ := all_len hd
  have := h w hw (by omega)
  omega
/-- text.split(" + ") -/
def itemsL (l : List Nat) : List (List Nat) := spl sepL 0 [] l
theorem spl_joins : ∀ (n : Nat) (l acc : List Nat), l.length ≤ n → joinL sepL (spl sepL 0 acc l) = acc ++ l
  | n, [], acc, _ => by rw [spl_nil]; simp [joinL]
  | 0, c :: r, acc, h => absurd h (by simp)
  | n + 1, c :: r, acc, h => by
    have hr : r.length ≤ n := by simpa using h
    cases hp : pre sepL (c :: r) with
    | true =>
      rw [spl_hit hp, spl_pass]
      have e : c :: r = sepL ++ r.drop 2 := by
        have e1 : (c :: r).take 3 = sepL := beq_iff_eq.mp hp
        have := List.take_append_drop 3 (c :: r)
        rw [e1] at this
        exact this.symm
      have ih := spl_joins n (r.drop 2) [] (by rw [List.length_drop]; omega)
      have ne : spl sepL 0 [] (r.drop (sepL.length - 1)) ≠ [] := by
        intro z
        have : ∀ (k : Nat) (acc l : List Nat), spl sepL k acc l ≠ [] := by
          intro k acc l
          induction l generalizing k acc with
          | nil => rw [spl_nil]; simp
          | cons c r ih =>
            cases k with
            | zero =>
              cases hq : pre sepL (c :: r) with
              | true => rw [spl_hit hq]; simp
              | false => rw [spl_miss hq]; exact ih _ _
            | succ k => exact ih _ _
        exact this _ _ _ z
      rw [e]
      have ih : joinL sepL (spl sepL 0 [] (r.drop (sepL.length - 1))) = r.drop 2 := ih
      cases hq : spl sepL 0 [] (r.drop (sepL.length - 1)) with
      | nil => exact absurd hq ne
      | cons p ps =>
        rw [hq] at ih
        show acc ++ (sepL ++ joinL sepL (p :: ps)) = _
        rw [ih]
    | false =>
      rw [spl_miss hp, spl_joins n r (acc ++ [c]) hr]
      simp
theorem items_join (l : List Nat) : joinL sepL (itemsL l) = l := spl_joins l.length l [] (Nat.le_refl _)
theorem items_inf {l p : List Nat} (h : p ∈ itemsL l) : p <:+: l := by
  have := join_inf h
  rwa [items_join] at this
end Zk

set_option maxHeartbeats 1000000
set_option exponentiation.threshold 2000
/-! T2: the signs of a number, read back (no text of a program here). -/
namespace Zk
open TL
def dg (m : Nat) : List Nat := (Nat.toDigits 10 m).map Char.toNat
theorem dg_val (m : Nat) : dval (dg m) = m := PySem.W.KIN.val_back m
theorem dg_all (m : Nat) : (dg m).all isD = true := by
  refine List.all_eq_true.mpr fun c hc => ?_
  obtain ⟨ch, hch, e⟩ := List.mem_map.mp hc
  have r := PyProof.Rows.digit_range (Nat.isDigit_of_mem_toDigits (by decide) (by decide) hch)
  rw [← e]
  exact decide_eq_true r
theorem dg_small {m : Nat} (h : m < 10) : dg m = [48 + m] := by
  unfold dg
  rw [Nat.toDigits_of_lt_base h]
  show [(Nat.digitChar m).toNat] = _
  have : ∀ d : Nat, d < 10 → (Nat.digitChar d).toNat = 48 + d := by decide
  rw [this m h]
theorem dg_big {m : Nat} (h : 10 ≤ m) : dg m = dg (m / 10) ++ [48 + m % 10] := by
  have hm : m % 10 < 10 := Nat.mod_lt m (by decide)
  have t : Nat.toDigits 10 (m / 10) ++ Nat.toDigits 10 (m % 10) = Nat.toDigits 10 (10 * (m / 10) + m % 10) := Nat.toDigits_append_toDigits (by decide) (by omega) hm
  rw [Nat.div_add_mod] at t
  unfold dg
  rw [← t, List.map_append]
  congr 1
  exact dg_small hm
theorem dg_head : ∀ m : Nat, 0 < m → ∃ c r, dg m = c :: r ∧ 49 ≤ c := by
  intro m
  induction m using Nat.strongRecOn with
  | _ m ih =>
    intro h
    by_cases z : m < 10
    · exact ⟨48 + m, [], dg_small z, by omega⟩
    · obtain ⟨c, r, e, hc⟩ := ih (m / 10) (by omega) (by omega)
      exact ⟨c, r ++ [48 + m % 10], by rw [dg_big (by omega), e]; rfl, hc⟩
theorem dg_ok {m : Nat} (h : 0 < m) : okD (dg m) = true := by
  obtain ⟨c, r, e, hc⟩ := dg_head m h
  unfold okD
  rw [dg_all, e]
  simp
  omega
theorem dg_ne (m : Nat) : dg m ≠ [] := by
  by_cases h : m < 10
  · rw [dg_small h]; simp
  · rw [dg_big (by omega)]; simp
theorem dg_num {m : Nat} (h : 0 < m) : numeral (dg m) = m := by
  unfold numeral
  rw [if_pos (dg_ok h), dg_val]
theorem dg_len : ∀ (k m : Nat), 0 < k → m < 10 ^ k → (dg m).length ≤ k := by
  intro k
  induction k with
  | zero => intro m h; omega
  | succ k ih =>
    intro m _ hm
    by_cases z : m < 10
    · rw [dg_small z]; simp
    · rw [dg_big (by omega), List.length_append]
      have hk : 0 < k := by
        cases k with
        | zero => simp at hm; omega
        | succ k => omega
      have := ih (m / 10) hk (by rw [Nat.pow_succ] at hm; omega)
      simp
      omega
theorem dg_notin {m c : Nat} (h : c < 48 ∨ 57 < c) : c ∉ dg m := no_mem_digits (dg_all m) h
/-! ### an item's text -/
/-- the signs of a pair's text -/
def powS (e : Nat) : List Nat := if e = 1 then [110] else 110 :: 94 :: dg e
def pairS (e c : Nat) : List Nat := if e = 0 then dg c else if c = 1 then powS e else dg c ++ 42 :: powS e
theorem powS_star (e : Nat) : 42 ∉ powS e := by
  unfold powS
  split
  · decide
  · simp only [List.mem_cons, not_or]
    exact ⟨by decide, by decide, dg_notin (by omega)⟩
theorem powS_n (e : Nat) : 110 ∈ powS e := by
  unfold powS
  split <;> simp
theorem powS_exp {e : Nat} (h : 1 ≤ e) : expP (powS e) = (e : Int) := by
  unfold powS expP
  by_cases z : e = 1
  · rw [if_pos z, if_pos rfl, z]; rfl
  · rw [if_neg z]
    have n1 : ¬ (110 :: 94 :: dg e) = [110] := by simp
    rw [if_neg n1]
    have t : (110 :: 94 :: dg e).take 2 = [110, 94] := rfl
    have d : (110 :: 94 :: dg e).drop 2 = dg e := rfl
    simp only [t, d, if_true]
    rw [dg_num (by omega), if_pos (by omega)]
theorem pairS_pair {e c : Nat} (h : 1 ≤ c) : pairP (pairS e c) = ((e : Int), (c : Int)) := by
  unfold pairS
  by_cases z0 : e = 0
  · rw [if_pos z0]
    unfold pairP
    rw [if_neg (dg_notin (by omega)), dg_num (by omega), z0]
    rfl
  · rw [if_neg z0]
    by_cases z1 : c = 1
    · rw [if_pos z1]
      unfold pairP
      rw [if_pos (powS_n e), (par_one (powS e).reverse []).1 fun z => powS_star e (List.mem_reverse.mp z)]
      rw [powS_exp (by omega), z1]
      rfl
    · rw [if_neg z1]
      unfold pairP
      have m : 110 ∈ dg c ++ 42 :: powS e := List.mem_append_right _ (List.mem_cons_of_mem _ (powS_n e))
      have r : (dg c ++ 42 :: powS e).reverse = (powS e).reverse ++ 42 :: (dg c).reverse := by simp
      rw [if_pos m, (par_one _ []).2 _ _ r fun z => powS_star e (List.mem_reverse.mp z)]
      simp only [List.nil_append, List.reverse_reverse]
      rw [powS_exp (by omega), dg_num (by omega), if_pos (by omega)]
theorem pairS_blank (e c : Nat) : 32 ∉ pairS e c := by
  have p : 32 ∉ powS e := by
    unfold powS
    split
    · decide
    · simp only [List.mem_cons, not_or]
      exact ⟨by decide, by decide, dg_notin (by omega)⟩
  unfold pairS
  split
  · exact dg_notin (by omega)
  · split
    · exact p
    · simp only [List.mem_append, List.mem_cons, not_or]
      exact ⟨dg_notin (by omega), by decide, p⟩
theorem pairS_zero {e c : Nat} (h : 1 ≤ c) : pairS e c ≠ [48] := by
  intro z
  have := pairS_pair (e := e) h
  rw [z] at this
  have h2 : pairP [48] = (0, 0) := by decide
  rw [h2] at this
  injection this with _ h3
  omega
theorem filter_len {l : List Nat} : dgs l ≤ l.length := List.length_filter_le _ _
theorem pairS_dgs {e c k j : Nat} (hk : 0 < k) (hj : 0 < j) (he : e < 10 ^ k) (hc : c < 10 ^ j) : dgs (pairS e c) ≤ j + k := by
  have d1 : dgs (dg c) ≤ j := Nat.le_trans filter_len (dg_len j c hj hc)
  have d2 : dgs (powS e) ≤ k := by
    unfold powS
    split
    · have : dgs [110] = 0 := by decide
      omega
    · have : dgs (110 :: 94 :: dg e) = dgs (dg e) := rfl
      rw [this]
      exact Nat.le_trans filter_len (dg_len k e hk he)
  unfold pairS
  split
  · omega
  · split
    · omega
    · rw [dgs_app]
      have : dgs (42 :: powS e) = dgs (powS e) := rfl
      omega
theorem W.all {j b : Nat} {l : List Nat} (h : dgs l ≤ b) : W j b l := fun w hw _ => by
  obtain ⟨s, t, e⟩ := hw
  rw [← e, dgs_app, dgs_app] at h
  omega
/-! ### items without blanks, glued and split -/
theorem spl_pass1 {p : List Nat} (hp : 32 ∉ p) : ∀ (acc r : List Nat), spl sepL 0 acc (p ++ r) = spl sepL 0 (acc ++ p) r := by
  induction p with
  | nil => intro acc r; simp
  | cons c p ih =>
    intro acc r
    have hc : c ≠ 32 := fun e => hp (by rw [e]; exact List.mem_cons_self)
    have hm : pre sepL (c :: (p ++ r)) = false := by
      show ((c :: (p ++ r)).take 3 == sepL) = false
      refine beq_eq_false_iff_ne.mpr fun z => ?_
      simp only [sepL, List.take_succ_cons] at z
      injection z with z _
      exact hc z
    rw [List.cons_append, spl_miss hm, ih (fun h => hp (List.mem_cons_of_mem _ h))]
    simp
theorem spl_sep (acc r : List Nat) : spl sepL 0 acc (sepL ++ r) = acc :: spl sepL 0 [] r := by
  have hh : pre sepL (32 :: 43 :: 32 :: r) = true := rfl
  show spl sepL 0 acc (32 :: 43 :: 32 :: r) = _
  rw [spl_hit hh]
  rfl
theorem items_glued : ∀ {ps : List (List Nat)}, ps ≠ [] → (∀ p ∈ ps, 32 ∉ p) → itemsL (joinL sepL ps) = ps
  | [], h, _ => absurd rfl h
  | [p], _, h => by
    show spl sepL 0 [] p = [p]
    have := spl_pass1 (h p List.mem_cons_self) [] []
    rw [List.append_nil] at this
    rw [this, spl_nil]
    rfl
  | p :: q :: r, _, h => by
    show spl sepL 0 [] (p ++ (sepL ++ joinL sepL (q :: r))) = _
    rw [spl_pass1 (h p List.mem_cons_self), spl_sep]
    have ih := items_glued (ps := q :: r) (by simp) fun u hu => h u (List.mem_cons_of_mem _ hu)
    have ih : spl sepL 0 [] (joinL sepL (q :: r)) = q :: r := ih
    rw [ih]
    rfl
end Zk

set_option maxHeartbeats 1000000
/-! R1: text.rpartition(sep). -/
namespace Zk
open PySem PySem.Spec PyProof.Rows L2 TL PySem.StrLaws
theorem mt_rpartition {X : Cx} : MtR X "str.rpartition" (fun x xs H Q => ∃ a b, x = .str a ∧ xs = [.str b] ∧ (b.length == 0) = false ∧ a.length ≤ sizeLine ∧
    ∀ p, H p = none → Q (.ref p) (upd H p (.tup [.str (Txt.rpartition a b).1, .str (Txt.rpartition a b).2.1, .str (Txt.rpartition a b).2.2]))) := by
  intro pins s σ H x xs v us Q I rx rs h
  obtain ⟨a, b, rfl, rfl, hb, hz, h⟩ := h
  obtain ⟨t, rfl⟩ := rx
  cases rs with
  | cons r1 rs =>
    cases rs
    obtain ⟨u, rfl⟩ := r1
    refine call_meets F.slot_str_rpartition (typeIs_str _ _ _) F.entry_str_rpartition (F.args_str_rpartition_2 _ _) (meets_str_rpartition a b t u hb hz) ?_
    unfold Txt.rpartition at h
    revert h
    cases Builtin.Str.lastOccurrence a b 0 a.length with
    | none => intro h; exact laid_parts I h
    | some i => intro h; exact laid_parts I h
theorem pe_rpartition {X : Cx} {o e : Expr} {to te : TE} {apos pos : Pos} (ho : PE X o to) (he : PE X e te) (hs : starEach [e] X.env = [(false, eval e X.env)] := by rfl) (hbase : attributeBase o "rpartition" X.env (eval o X.env) = eval o X.env := by rfl) (hline : (apos.endLine == pos.line) = true := by rfl) :
    PE X (.Call (.Attribute o "rpartition" apos) [e] [] pos) (tM1 (fun x xs H Q => ∃ a b, x = .str a ∧ xs = [.str b] ∧ (b.length == 0) = false ∧ a.length ≤ sizeLine ∧
      ∀ p, H p = none → Q (.ref p) (upd H p (.tup [.str (Txt.rpartition a b).1, .str (Txt.rpartition a b).2.1, .str (Txt.rpartition a b).2.2]))) to te) :=
  pe_m1 F.slot_str_rpartition F.type_str_rpartition mt_rpartition ho he hs hbase hline
theorem pre_one {s : Nat} {l : List Nat} {i : Nat} : pre [s] (l.drop i) = true ↔ l[i]? = some s := by
  unfold pre
  rw [show ([s] : List Nat).length = 1 from rfl]
  cases h : l[i]? with
  | none =>
    have : l.drop i = [] := List.drop_eq_nil_iff.mpr (List.getElem?_eq_none_iff.mp h)
    rw [this]
    simp
  | some c =>
    obtain ⟨hi, e⟩ := List.getElem?_eq_some_iff.mp h
    rw [List.drop_eq_getElem_cons hi, e]
    simp
/-- the last star -/
theorem rpart_one {x y : Str} {s : Nat} (ey : tl y = [s]) : (s ∉ tl x → Txt.rpartition x y = (Str.empty, Str.empty, x)) ∧
    ∀ p r, tl x = p ++ s :: r → s ∉ r → tl (Txt.rpartition x y).1 = p ∧ (Txt.rpartition x y).2.1 = y ∧ tl (Txt.rpartition x y).2.2 = r := by
  have ne : tl y ≠ [] := by rw [ey]; simp
  have at1 : ∀ i, At x y x.length i ↔ (tl x)[i]? = some s := fun i => by rw [at_iff ne, ey]; exact pre_one
  have ly : y.length = 1 := by rw [len_tl, ey]; rfl
  rcases last_spec x y with ⟨e, h⟩ | ⟨i, e, h, k⟩
  · refine ⟨fun _ => ?_, fun p r q _ => ?_⟩
    · unfold Txt.rpartition
      rw [e]
    · refine absurd ((at1 p.length).mpr ?_) (h p.length)
      rw [q]
      simp
  · have hi := (at1 i).mp h
    refine ⟨fun n => absurd (List.mem_of_getElem? hi) n, fun p r q n => ?_⟩
    have ei : i = p.length := by
      by_cases z : i = p.length
      · exact z
      · exfalso
        by_cases lt : i < p.length
        · refine k p.length lt ((at1 p.length).mpr ?_)
          rw [q]
          simp
        · have : (tl x)[i]? = r[i - p.length - 1]? := by
            rw [q, List.getElem?_append_right (by omega), show i - p.length = (i - p.length - 1) + 1 by omega, List.getElem?_cons_succ]
            simp
          rw [this] at hi
          exact n (List.mem_of_getElem? hi)
    unfold Txt.rpartition
    rw [e]
    refine ⟨?_, rfl, ?_⟩
    · show tl (Builtin.Str.strSub x 0 i) = p
      rw [tl_strSub, q, ei]
      simp
    · show tl (Builtin.Str.strSub x (i + y.length) x.length) = r
      rw [tl_strSub_end, q, ei, ly]
      simp
end Zk

set_option maxHeartbeats 1000000
set_option exponentiation.threshold 2000
/-! L0: numeral_read, exponent_read. -/
namespace Zk
open PySem PySem.Spec PyProof.Rows L2 GxR TL
abbrev sNumR : Stmt := top 19
abbrev sExpR : Stmt := top 18
/-- numeral_read(text) -/
def spTx (Ta : List Addr) (g : List Nat → Int) : Sp := fun vs H Q _ => ∃ x : Str, vs = [.str x] ∧ x.length ≤ 400 ∧ Tb Ta H ∧ ∀ H', Sm H H' → Tb Ta H' → Q (.int (g (tl x))) H'
/-- for c in text -/
theorem for_str {z : Str} {g : TG} {tb : TS} {D : Ends} {σ : L2.St} {H : Hp} (Pv : Nat → L2.St → Hp → Prop) (h0 : Pv 0 σ H)
    (hs : ∀ i c σ H, (tl z)[i]? = some c → Pv i σ H → g (.str ⟨#[c]⟩) σ H fun σ2 H2 => tb { D with nx := Pv (i + 1), ct := Pv (i + 1), bk := D.nx } σ2 H2) (hd : ∀ σ H, Pv (tl z).length σ H → D.nx σ H) :
    ∃ W : Nat → Nat → L2.St → Hp → Prop, (∃ m, W 0 m σ H) ∧ ∀ i m σ H, W i m σ H →
      ((Its z).stop i H ∧ D.nx σ H) ∨ ((Its z).go i H ∧ ∃ N : L2.St → Hp → Prop, (∀ σ' H', N σ' H' → ∃ m', m' < m ∧ W (i + 1) m' σ' H') ∧ ∀ x H', (Its z).yld i H x H' → g x σ H' fun σ2 H2 => tb { D with nx := N, ct := N, bk := D.nx } σ2 H2) := by
  refine ⟨fun i m σ H => m = (tl z).length - i ∧ i ≤ (tl z).length ∧ Pv i σ H, ⟨(tl z).length, by simp, Nat.zero_le _, h0⟩, ?_⟩
  rintro i m σ H ⟨rfl, hi, p⟩
  by_cases hlt : i < (tl z).length
  · refine .inr ⟨by show i < z.cps.size; simpa using hlt, Pv (i + 1), fun σ' H' p' => ⟨(tl z).length - (i + 1), by omega, rfl, hlt, p'⟩, fun x H' y => ?_⟩
    obtain ⟨rfl, c, e, rfl⟩ := y
    exact hs i c _ _ (by simpa [tl] using e) p
  · exact .inl ⟨by show z.cps.size ≤ i; simpa using hlt, hd _ H (by rwa [show i = (tl z).length by omega] at p)⟩
section
variable {P : Program} {w : World} {K : PySem.W.Frag} {mg : Str → Option Value} {base : Heap} {f c pt : Addr} {fd : FuncData} {Ta : List Addr}
theorem scNumR : FnScope ["text", "number", "sign"] ["text"] (defScope sNumR) := ⟨rfl, rfl, rfl, by decide +kernel, rfl, by decide +kernel, by decide +kernel⟩
theorem mem_figs (c : Nat) : decide (c ∈ ("0123456789" : Str).cps.toList) = isD c := by
  have e : ("0123456789" : Str).cps.toList = (List.range 10).map (· + 48) := by decide +kernel
  rw [e]
  unfold isD
  refine decide_eq_decide.mpr ?_
  rw [List.mem_map]
  exact ⟨fun ⟨a, h, k⟩ => by have := List.mem_range.mp h; omega, fun h => ⟨c - 48, List.mem_range.mpr (by omega), by omega⟩⟩
theorem starts0 (x : Str) : Txt.startswith x "0" = ((tl x).head? == some 48) := by
  show (decide (0 + ("0" : Str).length ≤ x.length) && Builtin.Str.subAt x "0" 0) = _
  rw [StrLaws.subAt_eq, len_tl x]
  have e : ("0" : Str).length = 1 := by decide +kernel
  have e2 : ("0" : Str).cps.toList = [48] := by decide +kernel
  rw [e, e2]
  show (decide (0 + 1 ≤ (tl x).length) && ((tl x).drop 0).take 1 == [48]) = _
  cases tl x with
  | nil => rfl
  | cons a r => simp
theorem dval_take (l : List Nat) {i c : Nat} (h : l[i]? = some c) : dval (l.take (i + 1)) = dval (l.take i) * 10 + (c - 48) := by
  unfold dval
  rw [List.take_add_one, h, List.foldl_append]
  rfl
theorem dval_lt : ∀ l : List Nat, l.all isD = true → dval l < 10 ^ l.length := by
  have key : ∀ (l : List Nat) (a k : Nat), l.all isD = true → a < 10 ^ k → l.foldl (fun a c => a * 10 + (c - 48)) a < 10 ^ (k + l.length) := by
    intro l
    induction l with
    | nil => intro a k _ h; exact h
    | cons c r ih =>
      intro a k h ha
      rw [List.all_cons, Bool.and_eq_true] at h
      have hc := of_decide_eq_true h.1
      rw [List.foldl_cons, List.length_cons, show k + (r.length + 1) = (k + 1) + r.length by omega]
      refine ih _ _ h.2 ?_
      rw [Nat.pow_succ]
      omega
  intro l h
  have := key l 0 0 h (by decide)
  rwa [Nat.zero_add] at this
theorem ok_numR (F : FunC K "numeral_read" "numeral_read" sNumR f fd c) (TB : TabB base mg c pt) (hT : pt ∈ Ta) (T : Blt2 mg) (hord : mg "ord" = none) : FnOk P w K mg base CX0 2 f fd ["text"] (spTx Ta fun l => ((numeral l : Nat) : Int)) := by
  refine F.ok scNumR (fun vs H Q E h => ?_) (fun A outer s H vs Q E hr h => ?_)
  · obtain ⟨x, rfl, _⟩ := h
    rfl
  obtain ⟨x, rfl, hl, tb, q⟩ := h
  refine ⟨_, pss_cons (ps_if (PW.pt (pw_or (pt_val (pe_bm PySem.F.plainAttrs_str PySem.F.slot_str_startswith PySem.F.type_str_startswith mt_startswith (pv 0) (pa_cons pe_str pa_nil))) (pw_or1 (pt_not (pt_val (pe_all (k := 0) (own := [("sign", 2)]) (g := gName 2) (tt := tYes) hr (by rfl) T.all TB rfl scNumR.nd (gxOk_by (N := ["text", "number", "sign"]) (sc := defScope sNumR) (by decide +kernel)) (pi_str (pv 0))
      (fun _ _ _ _ _ _ _ _ _ => pg_name (i := 2) scNumR.nd rfl (Or.inl rfl)) (fun _ _ _ _ _ _ _ _ _ => pts_nil) (fun _ _ _ _ _ _ _ _ hr' => pe_cmpR op_in_sign (pv 2) pe_str (by rfl)))))))) (pss_one (ps_ret pe_int)) pss_nil)
    (pss_cons (ps_set (i := 1) scNumR.nd rfl (Or.inl rfl) pe_int)
    (pss_cons (ps_for PassesOwn.never rfl (pi_str (pv 0)) (pg_name (i := 2) scNumR.nd rfl (Or.inl rfl))
      (pss_one (ps_set (i := 1) scNumR.nd rfl (Or.inl rfl) (pe_op op_sub (pe_op op_add (pe_op op_mulW (pv 1) pe_int) (pe_callB call_ord (by rfl) hord (by decide +kernel) (pa_cons (pv 2) pa_nil))) (pe_callB call_ord (by rfl) hord (by decide +kernel) (pa_cons pe_str pa_nil))))))
    (pss_one (ps_ret (pv 1))))), ?_⟩
  have q : ∀ H', Sm H H' → Tb Ta H' → Q (.int ((numeral (tl x) : Nat) : Int)) H' := q
  have nil0 : okD (tl x) = false → Q (.int 0) H ∧ ∀ H', Sm H H' → Tb Ta H' → Q (.int 0) H' := fun z => by
    have e : numeral (tl x) = 0 := by unfold numeral; rw [if_neg (by rw [z]; decide)]
    rw [e] at q
    exact ⟨q H (Sm.refl _) tb, q⟩
  refine ⟨_, rfl, rfl, _, _, rfl, rfl, _, rfl, ?_⟩
  rw [starts0]
  refine ite2 (fun z => ?_) (fun z => ?_)
  · exact iteT (nil0 (by unfold okD; rw [z]; simp)).1
  have z0 : ((tl x).head? == some 48) = false := by simpa using z
  refine ⟨_, rfl, x, rfl, tb pt hT, fun H2 hB => ?_⟩
  have s2 := Tabbed.sm hB (tb pt hT)
  have t2 := Tabbed.tb hB tb
  refine gx_str (fun i H => H = H2 ∧ ∀ j c, j < i → (tl x)[j]? = some c → isD c = true) ⟨rfl, fun j c hj => absurd hj (Nat.not_lt_zero _)⟩ ?_ ?_
  · rintro i c H hc ⟨rfl, hp⟩
    refine ⟨rfl, ?_⟩
    dsimp only [tYes]
    refine iteT ?_
    refine ⟨_, rfl, c, _, rfl, rfl, ?_⟩
    rw [mem_figs]
    refine ⟨isD c, rfl, ?_⟩
    by_cases z : isD c = true
    · refine .inl ⟨z, rfl, fun j c' hj hc' => ?_⟩
      by_cases e : j = i
      · subst e
        rw [hc] at hc'
        cases hc'
        exact z
      · exact hp j c' (by omega) hc'
    · refine .inr ⟨z, ?_⟩
      have e1 : isD c = false := by simpa using z
      refine ⟨_, rfl, ?_⟩
      rw [e1]
      refine iteT ?_
      refine (nil0 ?_).2 _ s2 t2
      unfold okD
      have : (tl x).all isD = false := by
        rw [← Bool.not_eq_true]
        intro u
        exact z (List.all_eq_true.mp u c (List.mem_of_getElem? hc))
      rw [this]
      rfl
  · rintro H ⟨rfl, hp⟩
    have all : (tl x).all isD = true := List.all_eq_true.mpr fun c hc => by
      obtain ⟨j, hj⟩ := List.mem_iff_getElem?.mp hc
      exact hp j c (List.getElem?_eq_some_iff.mp hj).1 hj
    have hk : okD (tl x) = true := by unfold okD; rw [all, z0]; rfl
    refine ⟨_, rfl, iteF ?_⟩
    refine ⟨_, rfl, x, rfl, for_str (fun i σ H' => H' = H ∧ ∃ u, σ = [some (.str x), some (.int ((dval ((tl x).take i) : Nat) : Int)), u]) ⟨rfl, none, rfl⟩ ?_ ?_⟩
    · rintro i c σ H' hc ⟨rfl, u, rfl⟩
      have hd := of_decide_eq_true (List.all_eq_true.mp all c (List.mem_of_getElem? hc))
      have small : (((dval ((tl x).take i) : Nat) : Int)).natAbs < 2 ^ 1400 := by
        rw [Int.natAbs_natCast]
        have h1 := dval_lt ((tl x).take i) (List.all_eq_true.mpr fun y hy => List.all_eq_true.mp all y (List.mem_of_mem_take hy))
        have h2 : ((tl x).take i).length ≤ 400 := by rw [List.length_take]; have := len_tl x; omega
        have h3 : 10 ^ ((tl x).take i).length ≤ 10 ^ 400 := Nat.pow_le_pow_right (by decide) h2
        exact Nat.lt_of_lt_of_le h1 (Nat.le_trans h3 (by decide +kernel))
      refine ⟨_, rfl, _, _, rfl, rfl, wide_mul small (b := 4) (by decide) (by decide) (by decide) (by decide), _, rfl, ⟨#[c]⟩, rfl, rfl, _, _, rfl, rfl, "0", rfl, by decide +kernel, _, _, rfl, rfl, ?_⟩
      refine ⟨rfl, some (.str ⟨#[c]⟩), ?_⟩
      have e : (((dval ((tl x).take i) : Nat) : Int)) * 10 + ((((⟨#[c]⟩ : Str).cps.getD 0 0 : Nat)) : Int) - ((((("0" : Str)).cps.getD 0 0 : Nat)) : Int) = ((dval ((tl x).take (i + 1)) : Nat) : Int) := by
        rw [dval_take _ hc]
        have e0 : (("0" : Str)).cps.getD 0 0 = 48 := by decide +kernel
        have e1 : (⟨#[c]⟩ : Str).cps.getD 0 0 = c := rfl
        rw [e0, e1]
        omega
      exact congrArg (fun z => [some (V.str x), some (V.int z), some (V.str ⟨#[c]⟩)]) e
    · rintro σ H' ⟨rfl, u, rfl⟩
      rw [List.take_length]
      have e : numeral (tl x) = dval (tl x) := by unfold numeral; rw [if_pos hk]
      rw [e] at q
      exact ⟨_, rfl, q _ s2 t2⟩
theorem scExpR : FnScope ["power", "exponent"] ["power"] (defScope sExpR) := ⟨rfl, rfl, rfl, by decide +kernel, rfl, by decide +kernel, by decide +kernel⟩
theorem starts2 (x : Str) : Txt.startswith x "n^" = decide ((tl x).take 2 = [110, 94]) := by
  show (decide (0 + ("n^" : Str).length ≤ x.length) && Builtin.Str.subAt x "n^" 0) = _
  rw [StrLaws.subAt_eq, len_tl x]
  have e : ("n^" : Str).length = 2 := by decide +kernel
  have e2 : ("n^" : Str).cps.toList = [110, 94] := by decide +kernel
  rw [e, e2]
  show (decide (0 + 2 ≤ (tl x).length) && ((tl x).drop 0).take 2 == [110, 94]) = _
  rw [List.drop_zero]
  by_cases h : (tl x).take 2 = [110, 94]
  · have l2 : 2 ≤ (tl x).length := by
      have := congrArg List.length h
      rw [List.length_take] at this
      have this : min 2 (tl x).length = 2 := this
      omega
    rw [h, decide_eq_true (show 0 + 2 ≤ (tl x).length by omega)]
    rfl
  · rw [decide_eq_false h]
    have : ((tl x).take 2 == [110, 94]) = false := by simpa using h
    rw [this, Bool.and_false]
theorem tl_drop (x : Str) (k : Nat) : tl (cutS x (some (k : Int)) none) = (tl x).drop k := by
  show (((tl x).drop (HT.sIx x.length 0 (some (k : Int)))).take (HT.sIx x.length x.length none - HT.sIx x.length 0 (some (k : Int)))) = _
  rw [HT.sIx_none, HT.sIx_nat, len_tl]
  by_cases h : k ≤ (tl x).length
  · rw [Nat.min_eq_left h]
    exact List.take_of_length_le (by rw [List.length_drop]; omega)
  · rw [Nat.min_eq_right (by omega)]
    rw [List.drop_of_length_le (Nat.le_refl _), List.drop_of_length_le (by omega), List.take_nil]
theorem ok_expR (F : Fun K "exponent_read" "exponent_read" sExpR f fd) (C : Call1 P w K mg base "numeral_read" 2 ["text"] (spTx Ta fun l => ((numeral l : Nat) : Int))) : FnOk P w K mg base CX0 3 f fd ["power"] (spTx Ta expP) := by
  obtain ⟨g, gd, G, bG, kG, mG⟩ := C.ex
  refine F.ok scExpR (fun vs H Q E h => ?_) (fun cdv A outer s H vs Q E hr h => ?_)
  · obtain ⟨x, rfl, _⟩ := h
    rfl
  obtain ⟨x, rfl, hl, tb, q⟩ := h
  refine ⟨_, pss_cons (ps_if (pt_cmpR op_eq (pv 0) pe_str (nomark _)) (pss_one (ps_ret pe_int)) pss_nil)
    (pss_cons (ps_set (i := 1) scExpR.nd rfl (Or.inl rfl) (pe_ifExp (pt_val (pe_bm PySem.F.plainAttrs_str PySem.F.slot_str_startswith PySem.F.type_str_startswith mt_startswith (pv 0) (pa_cons pe_str pa_nil)))
      (pe_call G hr rfl mG kG bG .nil pass0 (pa_cons (pe_slice sl_str (pv 0) (po_some pe_int) po_none) pa_nil)) pe_int))
    (pss_one (ps_ret (pe_ifExp (pt_cmpR op_gt (pv 1) pe_int (nomark _)) (pv 1) (pe_un un_neg pe_int))))), ?_⟩
  have e1 : ("n" : Str).cps.toList = [110] := by decide +kernel
  refine ⟨_, rfl, rfl, _, rfl, ?_⟩
  refine ite2 (fun z => ?_) (fun z => ?_)
  · have z := of_decide_eq_true z
    injection z with z
    have : expP (tl x) = 1 := by
      unfold expP
      rw [z, if_pos e1]
    rw [this] at q
    exact q H (Sm.refl _) tb
  have nz : ¬ tl x = [110] := fun e => z (decide_eq_true (by rw [show x = ("n" : Str) from ext_tl (e.trans e1.symm)]))
  have q : ∀ H' m, m = (if (tl x).take 2 = [110, 94] then numeral ((tl x).drop 2) else 0) → Sm H H' → Tb Ta H' → Q (.int (if 1 < m then ((m : Nat) : Int) else -1)) H' := fun H' m e s t => by
    have := q H' s t
    unfold expP at this
    rw [if_neg nz, ← e] at this
    exact this
  have fin : ∀ (H' : Hp) (m : Nat), m = (if (tl x).take 2 = [110, 94] then numeral ((tl x).drop 2) else 0) → Sm H H' → Tb Ta H' → tRet (tIf (tTest (tOp (rI0 fun i j => V.bl (decide (i > j))) (tVar 1) (tC (.int 1)))) (tVar 1) (tUn (rU fun i => V.int (-i)) (tC (.int 1)))) { nx := fun _ H' => Q .non H', rt := Q } [some (.str x), some (.int ((m : Nat) : Int))] H' := fun H' m e s t => by
    have := q H' m e s t
    refine ⟨_, rfl, _, _, rfl, rfl, _, rfl, ?_⟩
    refine ite2 (fun z => ?_) (fun z => ?_)
    · have z := of_decide_eq_true z
      rw [if_pos (show 1 < m by omega)] at this
      exact ⟨_, rfl, this⟩
    · have z : ¬ ((m : Int) > 1) := fun y => z (decide_eq_true y)
      rw [if_neg (show ¬ 1 < m by omega)] at this
      exact ⟨_, rfl, this⟩
  refine ⟨_, rfl, rfl, _, _, rfl, rfl, _, rfl, ?_⟩
  rw [starts2]
  refine ite2 (fun z => ?_) (fun z => ?_)
  · have z := of_decide_eq_true z
    refine ⟨_, rfl, 2, rfl, x, rfl, sl_small (by omega), _, rfl, Nat.le_trans (cutS_length _ _ _) hl, tb, fun H' s t => ?_⟩
    have e2 : tl (cutS x (some 2) none) = (tl x).drop 2 := tl_drop x 2
    rw [e2]
    exact fin H' _ (by rw [if_pos z]) s t
  · have z : ¬ (tl x).take 2 = [110, 94] := fun y => z (decide_eq_true y)
    exact fin H 0 (by rw [if_neg z]) (Sm.refl _) tb
end
end Zk

set_option maxHeartbeats 1000000
set_option exponentiation.threshold 2000
/-! L1: pair_read. -/
namespace Zk
open PySem PySem.Spec PyProof.Rows L2 GxR TL
abbrev sPairR : Stmt := top 17
def spPR (Ta : List Addr) : Sp := fun vs H Q _ => ∃ x : Str, vs = [.str x] ∧ x.length ≤ 400 ∧ Tb Ta H ∧ ∀ H' b, Sm H H' → Tb Ta H' → H' b = some (.tup [.int (pairP (tl x)).1, .int (pairP (tl x)).2]) → Q (.ref b) H'
section
variable {P : Program} {w : World} {K : PySem.W.Frag} {mg : Str → Option Value} {base : Heap} {f c pt : Addr} {fd : FuncData} {Ta : List Addr}
theorem scPairR : FnScope ["item", "front", "star", "power", "coefficient"] ["item"] (defScope sPairR) := ⟨rfl, rfl, rfl, by decide +kernel, rfl, by decide +kernel, by decide +kernel⟩
theorem ok_pairR (F : Fun K "pair_read" "pair_read" sPairR f fd) (C1 : Call1 P w K mg base "numeral_read" 2 ["text"] (spTx Ta fun l => ((numeral l : Nat) : Int))) (C2 : Call1 P w K mg base "exponent_read" 3 ["power"] (spTx Ta expP)) : FnOk P w K mg base CX0 4 f fd ["item"] (spPR Ta) := by
  obtain ⟨g1, d1, G1, b1, k1, m1⟩ := C1.ex
  obtain ⟨g2, d2, G2, b2, k2, m2⟩ := C2.ex
  refine F.ok scPairR (fun vs H Q E h => ?_) (fun cdv A outer s H vs Q E hr h => ?_)
  · obtain ⟨x, rfl, _⟩ := h
    rfl
  obtain ⟨x, rfl, hl, tb, q⟩ := h
  have r2 : Room 2 _ := hr.mono (by omega)
  refine ⟨_, pss_cons (ps_if (pt_cmpR op_notIn_sign pe_str (pv 0) (by rfl)) (pss_one (ps_ret (pe_tup (pa_cons pe_int (pa_cons (pe_call G1 r2 rfl m1 k1 b1 .nil pass0 (pa_cons (pv 0) pa_nil)) pa_nil))))) pss_nil)
    (pss_cons (ps_asg (pe_rpartition (pv 0) pe_str) (pg_tup (by rfl) (pgs_cons (pg_name (i := 1) scPairR.nd rfl (Or.inl rfl)) (pgs_cons (pg_name (i := 2) scPairR.nd rfl (Or.inl rfl)) (pgs_cons (pg_name (i := 3) scPairR.nd rfl (Or.inl rfl)) pgs_nil)))))
    (pss_cons (ps_if (pt_not (pt_truth (pv 2) (by intro _; rfl))) (pss_one (ps_ret (pe_tup (pa_cons (pe_call G2 hr rfl m2 k2 b2 .nil pass0 (pa_cons (pv 3) pa_nil)) (pa_cons pe_int pa_nil))))) pss_nil)
    (pss_cons (ps_set (i := 4) scPairR.nd rfl (Or.inl rfl) (pe_call G1 r2 rfl m1 k1 b1 .nil pass0 (pa_cons (pv 1) pa_nil)))
    (pss_one (ps_ret (pe_tup (pa_cons (pe_call G2 hr rfl m2 k2 b2 .nil pass0 (pa_cons (pv 3) pa_nil)) (pa_cons (pe_ifExp (pt_cmpR op_gt (pv 4) pe_int (nomark _)) (pv 4) pe_int) pa_nil)))))))), ?_⟩
  have en : ("n" : Str) = ⟨#[110]⟩ := ext_tl (by decide +kernel)
  have es : tl ("*" : Str) = [42] := by decide +kernel
  refine ⟨_, rfl, 110, x, congrArg V.str en, rfl, _, rfl, ?_⟩
  refine ite2 (fun z => ?_) (fun z => ?_)
  · have hn : ¬ 110 ∈ tl x := by simpa using z
    have e : pairP (tl x) = (0, ((numeral (tl x) : Nat) : Int)) := if_neg hn
    rw [e] at q
    refine ⟨_, rfl, x, rfl, hl, tb, fun H' s t => ⟨by show 2 ≤ sizeLine; decide, fun p hp => ?_⟩⟩
    exact q _ p (s.trans (Same.sm (same_new hp _))) (t.same (same_new hp _)) upd_same
  have hn : 110 ∈ tl x := by simpa using z
  have star := rpart_one (x := x) es
  have lsz : x.length ≤ sizeLine := sl_small (by omega)
  unfold tNext
  dsimp only
  by_cases hs : 42 ∈ tl x
  · obtain ⟨p2, r2, e2, hp2⟩ := first_star (tl x).reverse (List.mem_reverse.mpr hs)
    have e3 : tl x = r2.reverse ++ 42 :: p2.reverse := by
      have := congrArg List.reverse e2
      rw [List.reverse_reverse] at this
      rw [this]
      simp
    obtain ⟨f1, f2, f3⟩ := star.2 _ _ e3 fun z => hp2 (List.mem_reverse.mp z)
    have ep : pairP (tl x) = (expP p2.reverse, if 1 < numeral r2.reverse then ((numeral r2.reverse : Nat) : Int) else 0) := by
      unfold pairP
      rw [if_pos hn, (par_one (tl x).reverse []).2 p2 r2 e2 hp2]
      simp
    rw [ep] at q
    generalize hz3 : Txt.rpartition x "*" = z3 at f1 f2 f3
    have l1 : z3.1.length ≤ 400 := by
      rw [len_tl, f1]
      have := congrArg List.length e3
      rw [List.length_append] at this
      have := len_tl x
      omega
    have l3 : z3.2.2.length ≤ 400 := by
      rw [len_tl, f3]
      have := congrArg List.length e3
      rw [List.length_append, List.length_cons] at this
      have := len_tl x
      omega
    refine ⟨_, rfl, ⟨_, rfl⟩, x, "*", rfl, rfl, by decide +kernel, lsz, fun p hp => ?_⟩
    rw [show (Txt.rpartition x "*") = z3 from hz3]
    refine ⟨p, _, rfl, SqT.of upd_same, rfl, _, _, rfl, _, _, rfl, _, _, rfl, rfl, ?_⟩
    have sp := same_new hp (.tup [.str z3.1, .str z3.2.1, .str z3.2.2])
    refine ⟨_, rfl, true, ⟨by rw [f2]; decide +kernel, by rw [f2]; decide +kernel⟩, iteF ?_⟩
    refine ⟨_, rfl, z3.1, rfl, l1, tb.same sp, fun H' s t => ?_⟩
    refine ⟨_, rfl, z3.2.2, rfl, l3, t, fun H2 s2 t2 => ?_⟩
    rw [f1, f3]
    have fin : ∀ c : Int, c = (if 1 < numeral r2.reverse then ((numeral r2.reverse : Nat) : Int) else 0) → 2 ≤ sizeLine ∧ ∀ p4, H2 p4 = none → Q (.ref p4) (upd H2 p4 (.tup [.int (expP p2.reverse), .int c])) := fun c e => ⟨by decide, fun p4 h4 => by
      rw [e]
      exact q _ p4 (((Same.sm sp).trans s).trans (s2.trans (Same.sm (same_new h4 _)))) (t2.same (same_new h4 _)) upd_same⟩
    refine ⟨_, rfl, _, _, rfl, rfl, _, rfl, ?_⟩
    refine ite2 (fun z => ?_) (fun z => ?_)
    · have z : ((numeral r2.reverse : Nat) : Int) > 1 := of_decide_eq_true z
      exact ⟨_, rfl, fin _ (by rw [if_pos (show 1 < numeral r2.reverse by omega)])⟩
    · have z : ¬ (((numeral r2.reverse : Nat) : Int) > 1) := fun y => z (decide_eq_true y)
      exact fin 0 (by rw [if_neg (show ¬ 1 < numeral r2.reverse by omega)])
  · have e0 := star.1 hs
    have ep : pairP (tl x) = (expP (tl x), 1) := by
      unfold pairP
      rw [if_pos hn, (par_one (tl x).reverse []).1 fun z => hs (List.mem_reverse.mp z)]
    rw [ep] at q
    refine ⟨_, rfl, ⟨_, rfl⟩, x, "*", rfl, rfl, by decide +kernel, lsz, fun p hp => ?_⟩
    rw [e0]
    refine ⟨p, _, rfl, SqT.of upd_same, rfl, _, _, rfl, _, _, rfl, _, _, rfl, rfl, ?_⟩
    have sp := same_new hp (.tup [.str Str.empty, .str Str.empty, .str x])
    refine ⟨_, rfl, false, ⟨Nat.zero_le _, rfl⟩, iteT ?_⟩
    refine ⟨_, rfl, x, rfl, hl, tb.same sp, fun H' s t => ⟨by show 2 ≤ sizeLine; decide, fun p4 h4 => ?_⟩⟩
    exact q _ p4 (((Same.sm sp).trans s).trans (Same.sm (same_new h4 _))) (t.same (same_new h4 _)) upd_same
end
end Zk

set_option maxHeartbeats 1000000
set_option exponentiation.threshold 2000
/-! L2: poly_or_none. -/
namespace Zk
open PySem PySem.Spec PyProof.Rows L2 GxR TL RT
abbrev sPN : Stmt := top 16
def polyOf (l : List Nat) : Option (List IQ) := if l = [48] then some [] else if isPolyD (polyD ((itemsL l).map pairP).reverse) = true then some ((itemsL l).map pairP).reverse else none
def spPN (Ta : List Addr) : Sp := fun vs H Q _ => ∃ x : Str, vs = [.str x] ∧ x.length ≤ 400 ∧ Tb Ta H ∧ (polyOf (tl x) = none → ∀ H', Sm H H' → Tb Ta H' → Q .non H') ∧ ∀ ps, polyOf (tl x) = some ps → ∀ H' b, Sm H H' → Tb Ta H' → PolyAt H' b ps → Q (.ref b) H'
theorem inf_len {a b : List Nat} (h : a <:+: b) : a.length ≤ b.length := h.length_le
theorem items_len : ∀ (n : Nat) (l acc : List Nat) (k : Nat), l.length ≤ n → (spl sepL k acc l).length ≤ l.length + 1
  | _, [], acc, k, _ => by rw [spl_nil]; simp
  | 0, c :: r, _, _, h => absurd h (by simp)
  | n + 1, c :: r, acc, k, h => by
    have hr : r.length ≤ n := by simpa using h
    cases k with
    | zero =>
      cases hp : pre sepL (c :: r) with
      | true =>
        rw [spl_hit hp, List.length_cons, List.length_cons]
        have := items_len n r [] (sepL.length - 1) hr
        omega
      | false =>
        rw [spl_miss hp, List.length_cons]
        have := items_len n r (acc ++ [c]) 0 hr
        omega
    | succ k =>
      have := items_len n r acc k hr
      rw [List.length_cons]
      show (spl sepL k acc r).length ≤ _
      omega
theorem PT.rev {H : Hp} : ∀ {ts : List V} {p : List IQ}, PT H ts p → PT H ts.reverse p.reverse
  | _, _, .nil => .nil
  | _, _, .cons h t => by rw [List.reverse_cons, List.reverse_cons]; exact PT.app (PT.rev t) (.cons h .nil)
theorem sm_upd {H H' : Hp} {p : Addr} {o : HO} (s : Sm H H') (h : H p = none) : Sm H (upd H' p o) := fun b u e n => by
  rw [upd_ne (ne_of_none e h)]
  exact s _ _ e n
theorem tb_upd {H : Hp} {Ta : List Addr} {p : Addr} {o : HO} {ts : List V} (t : Tb Ta H) (h : H p = some (.lst ts)) : Tb Ta (upd H p o) := fun R hR => by
  obtain ⟨ps, e, k⟩ := t R hR
  exact ⟨ps, (upd_ne (ne_of e h fun z => nomatch z)).trans e, k⟩
section
variable {P : Program} {w : World} {K : PySem.W.Frag} {mg : Str → Option Value} {base : Heap} {f c pt : Addr} {fd : FuncData} {Ta : List Addr}
theorem scPN : FnScope ["text", "pairs", "poly", "item"] ["text"] (defScope sPN) := ⟨rfl, rfl, rfl, by decide +kernel, rfl, by decide +kernel, by decide +kernel⟩
theorem ok_PN (F : Fun K "poly_or_none" "poly_or_none" sPN f fd) (T : Blt2 mg) (hrev : mg "reversed" = none) (C1 : Call1 P w K mg base "pair_read" 4 ["item"] (spPR Ta)) (C2 : Call1 P w K mg base "is_poly" 4 ["thing"] (spL Ta isPolyD)) : FnOk P w K mg base CX0 5 f fd ["text"] (spPN Ta) := by
  obtain ⟨g1, d1, G1, b1, k1, m1⟩ := C1.ex
  obtain ⟨g2, d2, G2, b2, k2, m2⟩ := C2.ex
  refine F.ok scPN (fun vs H Q E h => ?_) (fun cdv A outer s H vs Q E hr h => ?_)
  · obtain ⟨x, rfl, _⟩ := h
    rfl
  obtain ⟨x, rfl, hl, tb, q0, q⟩ := h
  refine ⟨_, pss_cons (ps_if (pt_cmpR op_eq (pv 0) pe_str (nomark _)) (pss_one (ps_ret (pe_tup pa_nil))) pss_nil)
    (pss_cons (ps_setLc (i := 1) (own := [("item", 3)]) (g := gName 3) (tt := tYes) rfl scPN.nd rfl rfl rfl (pi_list (pe_split (pv 0) pe_str))
      (blkOk_by (N := ["text", "pairs", "poly", "item"]) (sc := defScope sPN) (by decide +kernel)) (fun _ _ _ _ _ => pg_name (i := 3) scPN.nd rfl (Or.inl rfl)) (fun _ _ _ _ _ => pts_nil) (fun _ _ _ _ _ => pe_call G1 hr rfl m1 k1 b1 .nil pass0 (pa_cons (pv 3) pa_nil)))
    (pss_cons (ps_set (i := 2) scPN.nd rfl (Or.inl rfl) (pe_tupRev rfl (by rfl) T.tuple (by rfl) hrev (pv 1)))
    (pss_one (ps_ret (pe_ifExp (pt_val (pe_call G2 hr rfl m2 k2 b2 .nil pass0 (pa_cons (pv 2) pa_nil))) (pv 2) pe_non))))), ?_⟩
  have e0 : ("0" : Str).cps.toList = [48] := by decide +kernel
  refine ⟨_, rfl, rfl, _, rfl, ?_⟩
  refine ite2 (fun z => ?_) (fun z => ?_)
  · have z := of_decide_eq_true z
    injection z with z
    have e : polyOf (tl x) = some [] := by unfold polyOf; rw [z, if_pos e0]
    refine ⟨by show 0 ≤ sizeLine; exact Nat.zero_le _, fun p hp => ?_⟩
    exact q _ e _ p (Same.sm (same_new hp _)) (tb.same (same_new hp _)) ⟨[], upd_same, .nil⟩
  have nz : ¬ tl x = [48] := fun e => z (decide_eq_true (by rw [show x = ("0" : Str) from ext_tl (e.trans e0.symm)]))
  have es : tl (" + " : Str) = sepL := by decide +kernel
  have sp : (Txt.split x " + ").map tl = itemsL (tl x) := by
    have := split_spl x " + " (by rw [es]; decide) (kind_ok (by decide +kernel))
    rw [es] at this
    exact this
  have lx := len_tl x
  have li : (Txt.split x " + ").length ≤ 401 := by
    have e1 := congrArg List.length sp
    rw [List.length_map] at e1
    have := items_len (tl x).length (tl x) [] 0 (Nat.le_refl _)
    have e2 : (itemsL (tl x)).length ≤ (tl x).length + 1 := this
    omega
  refine ⟨_, rfl, ⟨_, rfl⟩, x, " + ", rfl, rfl, by decide +kernel, by rw [sizeLine_eq]; omega, fun l hl0 => ?_⟩
  have sl1 := same_new hl0 (.lst ((Txt.split x " + ").map V.str))
  refine ⟨l, rfl, ⟨_, SqL.of upd_same⟩, fun D hD => ?_⟩
  have sD := sl1.trans (same_new hD (.lst []))
  have nlD : l ≠ D := ne_of_none upd_same hD
  refine lc_list (K := K) (a := l) (xs := (Txt.split x " + ").map V.str) (fun i H1 => ∃ ts, H1 D = some (.lst ts) ∧ PT H1 ts (((itemsL (tl x)).take i).map pairP) ∧ Sm H H1 ∧ Tb Ta H1 ∧ H1 l = some (.lst ((Txt.split x " + ").map V.str)))
    ⟨[], upd_same, .nil, Same.sm sD, tb.same sD, (upd_ne nlD).trans upd_same⟩ (fun i H1 _ ⟨_, _, _, _, _, e⟩ => SqL.of e) ?_ ?_
  · rintro i y H1 hy ⟨ts, eD, pt1, s1, t1, el⟩
    have hi : i < (Txt.split x " + ").length := by
      have := (List.getElem?_eq_some_iff.mp hy).1
      rwa [List.length_map] at this
    have hz : (Txt.split x " + ")[i]? = some (Txt.split x " + ")[i] := List.getElem?_eq_getElem hi
    rw [List.getElem?_map, hz] at hy
    obtain rfl : V.str (Txt.split x " + ")[i] = y := Option.some.inj hy
    generalize (Txt.split x " + ")[i] = y at hz
    have hit : (itemsL (tl x))[i]? = some (tl y) := by rw [← sp, List.getElem?_map, hz]; rfl
    have hyl : y.length ≤ 400 := by
      rw [len_tl]
      have := inf_len (items_inf (List.mem_of_getElem? hit))
      omega
    refine ⟨rfl, ?_⟩
    dsimp only [tYes]
    refine iteT ?_
    refine ⟨_, rfl, y, rfl, hyl, t1, fun H2 b s2 t2 eb => ?_⟩
    have lts := PT.len pt1
    have eD2 := s2 _ _ eD (fun _ z => nomatch z)
    have nDb : D ≠ b := ne_of eD2 eb fun z => nomatch z
    refine ⟨ts, eD2, sl_lt (by rw [List.length_map, List.length_take] at lts; omega), ts ++ [.ref b], upd_same, ?_, ?_, ?_, ?_⟩
    · rw [List.take_add_one, hit, List.map_append]
      refine PT.app (Paired.mapP (pt1.sm s2) fun v z ⟨t, h1, h2⟩ => ⟨t, h1, ?_⟩) (.cons ⟨b, rfl, by rw [upd_ne nDb.symm]; exact eb⟩ .nil)
      rw [upd_ne (ne_of h2 eD2 fun z => nomatch z)]
      exact h2
    · exact sm_upd (s1.trans s2) (sl1.free hD |> fun z => z)
    · exact tb_upd t2 eD2
    · rw [upd_ne nlD]
      exact s2 _ _ el (fun _ z => nomatch z)
  · rintro H1 ⟨ts, eD, pt1, s1, t1, el⟩
    rw [List.length_map, List.take_of_length_le (by have := congrArg List.length sp; rw [List.length_map] at this; omega)] at pt1
    have lts := PT.len pt1
    rw [List.length_map] at lts
    have lit : (itemsL (tl x)).length ≤ 401 := by have := congrArg List.length sp; rw [List.length_map] at this; omega
    refine ⟨_, rfl, D, ts, rfl, SqL.of eD, fun p hp => ?_⟩
    have s2 := s1.trans (Same.sm (same_new hp (.tup ts.reverse)))
    have t2 := t1.same (same_new hp (.tup ts.reverse))
    have hpoly : PolyAt (upd H1 p (.tup ts.reverse)) p ((itemsL (tl x)).map pairP).reverse := ⟨ts.reverse, upd_same, PT.rev (PT.sm (Same.sm (same_new hp _)) pt1)⟩
    refine ⟨_, rfl, _, polyD ((itemsL (tl x)).map pairP).reverse, rfl, hpoly.sd, polyD_str, polyD_len (by rw [List.length_reverse, List.length_map]; omega), t2, fun H3 s3 t3 => ⟨_, rfl, ?_⟩⟩
    refine ite2 (fun z => ?_) (fun z => ?_)
    · exact ⟨_, rfl, q _ (by unfold polyOf; rw [if_neg nz, if_pos z]) H3 p (s2.trans s3) t3 (hpoly.sm s3)⟩
    · exact q0 (by unfold polyOf; rw [if_neg nz, if_neg z]) H3 (s2.trans s3) t3
end
end Zk

set_option maxHeartbeats 1000000
set_option exponentiation.threshold 2000
/-! L3: pair_text, poly_text. -/
namespace Zk
open PySem PySem.Spec PyProof.Rows L2 GxR TL RT
abbrev sPairT : Stmt := top 14
abbrev sPolyT : Stmt := top 13
def nT (i : Int) : Str := Str.ofString (toString i)
def powT (e : Int) : Str := if e = 1 then "n" else ("n^" : Str) ++ nT e
def pairT (x : IQ) : Str := if x.1 = 0 then nT x.2 else if x.2 = 1 then powT x.1 else nT x.2 ++ ("*" : Str) ++ powT x.1
def polyT (p : List IQ) : Str := if p = [] then "0" else Txt.join " + " (p.reverse.map pairT)
/-- pair_text(exponent, coefficient) -/
def spPairT : Sp := fun vs H Q _ => ∃ x : IQ, vs = [.int x.1, .int x.2] ∧ x.1.natAbs < 2 ^ 51 ∧ x.2.natAbs < 2 ^ 51 ∧ Q (.str (pairT x)) H
/-- over a tuple, from its end -/
theorem lc_revT {K : PySem.W.Frag} {a : Addr} {xs : List V} {g : TG} {tt : TT} {te : TE} {vs : List Nat} {σ : L2.St} {H1 : Hp} {D : Addr} {Qd : Hp → Prop} (Pv : Nat → Hp → Prop) (h0 : Pv 0 (upd H1 D (.lst []))) (hl : ∀ i H, i ≤ xs.length → Pv i H → SqT K H a xs)
    (hs : ∀ i x H, xs.reverse[i]? = some x → Pv i H → g x (wipe σ vs) H fun σ2 H2 => wipe σ2 vs = wipe σ vs ∧ tt σ2 H2 fun b H3 =>
      if b = true then te σ2 H3 fun y H4 => ∃ acc, H4 D = some (.lst acc) ∧ acc.length < sizeLine ∧ Pv (i + 1) (upd H4 D (.lst (acc ++ [y]))) else Pv (i + 1) H3) (hd : ∀ H, Pv xs.length H → Qd H) :
    ∃ W : Nat → Nat → Hp → Prop, (∃ m, W 0 m (upd H1 D (.lst []))) ∧ ∀ i m H, W i m H →
      ((ItvT K a xs.length).stop i H ∧ Qd H) ∨ ((ItvT K a xs.length).go i H ∧ ∃ Nx : Hp → Prop, (∀ H', Nx H' → ∃ m', m' < m ∧ W (i + 1) m' H') ∧ ∀ x H', (ItvT K a xs.length).yld i H x H' → g x (wipe σ vs) H' fun σ2 H2 => wipe σ2 vs = wipe σ vs ∧ tt σ2 H2 fun b H3 =>
        if b = true then te σ2 H3 fun y H4 => ∃ acc, H4 D = some (.lst acc) ∧ acc.length < sizeLine ∧ Nx (upd H4 D (.lst (acc ++ [y]))) else Nx H3) := by
  refine ⟨fun i m H => m = xs.length - i ∧ i ≤ xs.length ∧ Pv i H, ⟨xs.length, by simp, Nat.zero_le _, h0⟩, ?_⟩
  rintro i m H ⟨rfl, hi, p⟩
  have q := hl i H hi p
  by_cases hlt : i < xs.length
  · have e : xs[xs.length - 1 - i]? = some xs[xs.length - 1 - i] := List.getElem?_eq_getElem (by omega)
    refine .inr ⟨⟨hlt, xs, _, q, e⟩, Pv (i + 1), fun H' p' => ⟨xs.length - (i + 1), by omega, rfl, hlt, p'⟩, fun x H' y => ?_⟩
    obtain ⟨rfl, y⟩ := y
    exact hs i x _ (by rw [List.getElem?_reverse hlt]; exact y xs q) p
  · have e : i = xs.length := by omega
    subst e
    exact .inl ⟨Nat.le_refl _, hd H p⟩
def spPolyT (Ta : List Addr) : Sp := fun vs H Q _ => ∃ (a : Addr) (p : List IQ), vs = [.ref a] ∧ PolyAt H a p ∧ Good 1000 (10 ^ 13) p ∧ p.length ≤ 50 ∧ Tb Ta H ∧ ∀ H', Sm H H' → Tb Ta H' → Q (.str (polyT p)) H'
theorem pairT_len {x : IQ} (h1 : x.1.natAbs < 2 ^ 51) (h2 : x.2.natAbs < 2 ^ 51) : (pairT x).length ≤ 4000 := by
  have l1 : (nT x.1).length ≤ 1921 := by
    unfold nT
    rw [PySem.ofString_length]
    exact int_text_length_le (by decide) (log_small h1)
  have l2 : (nT x.2).length ≤ 1921 := by
    unfold nT
    rw [PySem.ofString_length]
    exact int_text_length_le (by decide) (log_small h2)
  have eN : ("n" : Str).length = 1 := by decide +kernel
  have eP : ("n^" : Str).length = 2 := by decide +kernel
  have eS : ("*" : Str).length = 1 := by decide +kernel
  have lp : (powT x.1).length ≤ 1923 := by
    unfold powT
    split
    · omega
    · rw [Str.length_append]; omega
  unfold pairT
  split
  · omega
  · split
    · omega
    · rw [Str.length_append, Str.length_append]; omega
theorem sum_le {k : Nat} : ∀ {ys : List Nat}, (∀ y ∈ ys, y ≤ k) → ys.sum ≤ ys.length * k
  | [], _ => by simp
  | y :: r, h => by
    have := h y List.mem_cons_self
    have := sum_le fun u hu => h u (List.mem_cons_of_mem _ hu)
    rw [List.sum_cons, List.length_cons, Nat.succ_mul]
    omega
section
variable {P : Program} {w : World} {K : PySem.W.Frag} {mg : Str → Option Value} {base : Heap} {f c pt : Addr} {fd : FuncData} {Ta : List Addr}
theorem scPairT : FnScope ["exponent", "coefficient", "power"] ["exponent", "coefficient"] (defScope sPairT) := ⟨rfl, rfl, rfl, by decide +kernel, rfl, by decide +kernel, by decide +kernel⟩
theorem nT_len {i : Int} (h : i.natAbs < 2 ^ 51) : (nT i).length ≤ 1921 := by
  unfold nT
  rw [PySem.ofString_length]
  exact int_text_length_le (by decide) (log_small h)
theorem ok_pairT (F : Fun K "pair_text" "pair_text" sPairT f fd) (T : Blt2 mg) : FnOk P w K mg base CX0 1 f fd ["exponent", "coefficient"] spPairT := by
  refine F.ok scPairT (fun vs H Q E h => ?_) (fun cdv A outer s H vs Q E hr h => ?_)
  · obtain ⟨x, rfl, _⟩ := h
    rfl
  obtain ⟨x, rfl, h1, h2, q⟩ := h
  refine ⟨_, pss_cons (ps_if (pt_cmpR op_eq (pv 0) pe_int (nomark _)) (pss_one (ps_ret (pe_callTy call_str_int (by rfl) T.str (by decide +kernel) (pa_cons (pv 1) pa_nil)))) pss_nil)
    (pss_cons (ps_set (i := 2) scPairT.nd rfl (Or.inl rfl) (pe_ifExp (pt_cmpR op_eq (pv 0) pe_int (nomark _)) pe_str (pe_joined (.cons pe_str (.cons (pe_fmt (pv 0)) .nil)))))
    (pss_one (ps_ret (pe_ifExp (pt_cmpR op_eq (pv 1) pe_int (nomark _)) (pv 2) (pe_joined (.cons (pe_fmt (pv 1)) (.cons pe_str (.cons (pe_fmt (pv 2)) .nil)))))))), ?_⟩
  have l1 := nT_len h1
  have l2 := nT_len h2
  have eN : ("n" : Str).length = 1 := by decide +kernel
  have eP : ("n^" : Str).length = 2 := by decide +kernel
  have eS : ("*" : Str).length = 1 := by decide +kernel
  have lp : (powT x.1).length ≤ 1923 := by
    unfold powT
    split
    · omega
    · rw [Str.length_append]; omega
  refine ⟨_, rfl, rfl, _, rfl, ?_⟩
  refine ite2 (fun z => ?_) (fun z => ?_)
  · have z := of_decide_eq_true z
    injection z with z
    have e : pairT x = nT x.2 := by unfold pairT; rw [if_pos z]
    rw [e] at q
    exact ⟨_, rfl, _, rfl, log_small h2, q⟩
  have n0 : ¬ x.1 = 0 := fun e => z (decide_eq_true (by rw [e]))
  have fin : tRet (tIf (tTest (tOp rEq (tVar 1) (tC (.int 1)))) (tVar 2) (fun σ H Q => tJs [tFmt (tVar 1), tC (.str "*"), tFmt (tVar 2)] Str.empty σ H fun out H1 => Q (.str out) H1)) { nx := fun _ H' => Q .non H', rt := Q } [some (.int x.1), some (.int x.2), some (.str (powT x.1))] H := by
    refine ⟨_, rfl, rfl, _, rfl, ?_⟩
    refine ite2 (fun z => ?_) (fun z => ?_)
    · have z := of_decide_eq_true z
      injection z with z
      have e : pairT x = powT x.1 := by unfold pairT; rw [if_neg n0, if_pos z]
      rw [e] at q
      exact ⟨_, rfl, q⟩
    · have n1 : ¬ x.2 = 1 := fun e => z (decide_eq_true (by rw [e]))
      have e : pairT x = Str.empty ++ nT x.2 ++ ("*" : Str) ++ powT x.1 := by
        unfold pairT
        rw [if_neg n0, if_neg n1, Str.empty_append]
      rw [e] at q
      have l0 : (Str.empty ++ nT x.2).length ≤ 1921 := by rw [Str.empty_append]; exact l2
      refine ⟨_, rfl, .inr ⟨_, rfl, log_small h2, nT x.2, rfl, sl_small (by omega), "*", rfl, sl_small (by rw [Str.length_append]; omega), _, rfl, .inl ⟨_, rfl, sl_small (by omega), _, rfl, sl_small (by rw [Str.length_append, Str.length_append]; omega), q⟩⟩⟩
  refine ⟨_, rfl, rfl, _, rfl, ?_⟩
  refine ite2 (fun z => ?_) (fun z => ?_)
  · have z := of_decide_eq_true z
    injection z with z
    have e : powT x.1 = "n" := by unfold powT; rw [if_pos z]
    rw [e] at fin
    exact fin
  · have n1 : ¬ x.1 = 1 := fun e => z (decide_eq_true (by rw [e]))
    have e : powT x.1 = Str.empty ++ ("n^" : Str) ++ nT x.1 := by
      unfold powT
      rw [if_neg n1, Str.empty_append]
    rw [e] at fin
    refine ⟨"n^", rfl, by rw [Str.empty_append]; decide +kernel, _, rfl, .inr ⟨_, rfl, log_small h1, nT x.1, rfl, sl_small (by rw [Str.empty_append, Str.length_append]; omega), fin⟩⟩
theorem scPolyT : FnScope ["poly", "exponent", "coefficient"] ["poly"] (defScope sPolyT) := ⟨rfl, rfl, rfl, by decide +kernel, rfl, by decide +kernel, by decide +kernel⟩
theorem ok_polyT (F : Fun K "poly_text" "poly_text" sPolyT f fd) (T : Blt2 mg) (hrev : mg "reversed" = none) (C1 : Call1 P w K mg base "is_poly" 4 ["thing"] (spL Ta isPolyD)) (C2 : Call1 P w K mg base "pair_text" 1 ["exponent", "coefficient"] spPairT) : FnOk P w K mg base CX0 5 f fd ["poly"] (spPolyT Ta) := by
  obtain ⟨g1, d1, G1, b1, k1, m1⟩ := C1.ex
  obtain ⟨g2, d2, G2, b2, k2, m2⟩ := C2.ex
  refine F.ok scPolyT (fun vs H Q E h => ?_) (fun cdv A outer s H vs Q E hr h => ?_)
  · obtain ⟨a, p, rfl, _⟩ := h
    rfl
  obtain ⟨a, p, rfl, hp, hg, hl, tb, q⟩ := h
  have r1 : Room 1 _ := hr.mono (by omega)
  refine ⟨_, pss_cons (ps_if (pt_not (pt_val (pe_call G1 hr rfl m1 k1 b1 .nil pass0 (pa_cons (pv 0) pa_nil)))) (pss_one ps_never) pss_nil)
    (pss_cons (ps_if (pt_not (pt_truth (pv 0) (by intro _; rfl))) (pss_one (ps_ret pe_str)) pss_nil)
    (pss_one (ps_ret (pe_join pe_str (pe_lc (own := [("exponent", 1), ("coefficient", 2)]) (g := gTup K 2 (gCons (gName 1) (gCons (gName 2) gNil))) (tt := tYes) rfl scPolyT.nd (pi_revA (by rfl) hrev (pv 0))
      (blkOk_by (N := ["poly", "exponent", "coefficient"]) (sc := defScope sPolyT) (by decide +kernel)) (fun _ _ _ _ _ => pg_tup (by rfl) (pgs_cons (pg_name (i := 1) scPolyT.nd rfl (Or.inl rfl)) (pgs_cons (pg_name (i := 2) scPolyT.nd rfl (Or.inl rfl)) pgs_nil)))
      (fun _ _ _ _ _ => pts_nil) (fun _ _ _ _ _ => pe_call G2 r1 rfl m2 k2 b2 .nil pass0 (pa_cons (pv 1) (pa_cons (pv 2) pa_nil)))))))), ?_⟩
  refine ⟨_, rfl, _, polyD p, rfl, hp.sd, polyD_str, polyD_len (by omega), tb, fun H1 s1 t1 => ?_⟩
  rw [hg.poly]
  refine ⟨_, rfl, iteF ?_⟩
  obtain ⟨ts, ha, ht⟩ := hp.sm s1
  have lt := PT.len ht
  refine ⟨_, rfl, _, .inr (.inl ⟨ts, SqT.of ha, rfl⟩), ?_⟩
  by_cases hp0 : p = []
  · have e : ts = [] := List.length_eq_zero_iff.mp (by rw [lt, hp0]; rfl)
    have e2 : polyT p = "0" := by unfold polyT; rw [if_pos hp0]
    rw [e2] at q
    rw [e]
    exact iteT (q H1 s1 t1)
  · have e : ts.isEmpty = false := by
      cases ts with
      | nil => exact absurd (List.length_eq_zero_iff.mp lt.symm) hp0
      | cons _ _ => rfl
    have e2 : polyT p = Txt.join " + " (p.reverse.map pairT) := by unfold polyT; rw [if_neg hp0]
    rw [e2] at q
    rw [e]
    refine iteF ?_
    have hr' := PT.rev ht
    have small : ∀ x ∈ p, x.1.natAbs < 2 ^ 51 ∧ x.2.natAbs < 2 ^ 51 := fun x hx => by
      obtain ⟨h1, h2, h3, h4⟩ := hg.all x hx
      have : (10 : Int) ^ 13 = 10000000000000 := by decide
      omega
    refine ⟨⟨_, rfl⟩, _, rfl, a, ts, rfl, .inr ⟨SqT.of ha, fun D hD => ?_⟩⟩
    refine lc_revT (K := K) (a := a) (xs := ts) (fun i H2 => H2 = upd H1 D (.lst ((p.reverse.take i).map fun x => V.str (pairT x)))) rfl (fun i H2 _ e => by rw [e]; exact SqT.of (same_new hD _ _ _ ha)) ?_ ?_
    · rintro i v H2 hv rfl
      obtain ⟨t, y, rfl, hy, hyt⟩ := PT.get hr' hv
      have hi : i < ts.length := by
        have := (List.getElem?_eq_some_iff.mp hv).1
        rwa [List.length_reverse] at this
      obtain ⟨y1, y2⟩ := small y (List.mem_reverse.mp (List.mem_of_getElem? hy))
      refine ⟨t, _, rfl, SqT.of (same_new hD _ _ _ hyt), rfl, _, _, rfl, _, _, rfl, rfl, ?_⟩
      refine ⟨rfl, ?_⟩
      dsimp only [tYes]
      refine iteT ?_
      refine ⟨_, rfl, _, rfl, y, rfl, y1, y2, _, upd_same, sl_lt (by rw [List.length_map, List.length_take]; omega), ?_⟩
      rw [upd_upd, List.take_add_one, hy]
      simp
    · rintro H2 rfl
      have el : (p.reverse.take ts.length) = p.reverse := List.take_of_length_le (by rw [List.length_reverse]; omega)
      rw [el]
      have eS : (" + " : Str).length = 3 := by decide +kernel
      refine ⟨" + ", D, p.reverse.map pairT, rfl, rfl, .inl (SqL.of ?_), ?_, ?_⟩
      · rw [upd_same, List.map_map]
        rfl
      · have := sum_le (k := 4000) (ys := (p.reverse.map pairT).map (·.length)) fun n hn => by
          obtain ⟨y, hy, rfl⟩ := List.mem_map.mp hn
          obtain ⟨x, hx, rfl⟩ := List.mem_map.mp hy
          obtain ⟨a1, a2⟩ := small x (List.mem_reverse.mp hx)
          exact pairT_len a1 a2
        simp only [List.length_map, List.length_reverse] at this ⊢
        rw [eS]
        have : p.length * 4000 ≤ 50 * 4000 := Nat.mul_le_mul_right _ hl
        omega
      · exact q _ (s1.trans (Same.sm (same_new hD _))) (t1.same (same_new hD _))
end
end Zk

set_option maxHeartbeats 1000000
set_option exponentiation.threshold 2000
/-! L4: _law_are_figures. -/
namespace Zk
open PySem PySem.Spec PyProof.Rows L2 GxR TL
abbrev sLFig : Stmt := top 27
def spFig : Sp := fun vs H Q _ => ∃ x : Str, vs = [.str x] ∧ x.length ≤ 400 ∧ ∀ H', Same H H' → Q (.bl (figs (tl x))) H'
section
variable {P : Program} {w : World} {K : PySem.W.Frag} {mg : Str → Option Value} {base : Heap} {f c pt : Addr} {fd : FuncData} {Ta : List Addr}
theorem scLFig : FnScope ["text", "x"] ["text"] (defScope sLFig) := ⟨rfl, rfl, rfl, by decide +kernel, rfl, by decide +kernel, by decide +kernel⟩
theorem ok_lFig (F : Fun K "_law_are_figures" "_law_are_figures" sLFig f fd) (T : Blt2 mg) : FnOk P w K mg base CX0 1 f fd ["text"] spFig := by
  refine F.ok scLFig (fun vs H Q E h => ?_) (fun cdv A outer s H vs Q E hr h => ?_)
  · obtain ⟨x, rfl, _⟩ := h
    rfl
  obtain ⟨x, rfl, hl, q⟩ := h
  refine ⟨_, pss_one (ps_ret (pe_and (pe_chain op_lt op_lt pe_int (pe_callB call_len_str (by rfl) T.len PySem.boot_len (pa_cons (pv 0) pa_nil)) pe_int) (pe_and (pe_cmpR (op_eqL0 hr.units0) (pe_lc (own := [("x", 1)]) (g := gName 1) (tt := _) rfl scLFig.nd (pi_str (pv 0))
      (blkOk_by (N := ["text", "x"]) (sc := defScope sLFig) (by decide +kernel)) (fun _ _ _ _ _ => pg_name (i := 1) scLFig.nd rfl (Or.inl rfl)) (fun _ _ _ _ _ => pts_one (pt_cmpR op_notIn_sign (pv 1) pe_str (by rfl))) (fun _ _ _ _ _ => pv 1)) (pe_lst pa_nil) (nomark _))
      (pe_one (pe_cmpR op_ne (pe_ix ix_str (pv 0) pe_int (fun _ _ => rfl)) pe_str (nomark _)))))), ?_⟩
  have lx := len_tl x
  refine ⟨_, rfl, x, rfl, sl_small (by omega), _, _, rfl, rfl, _, rfl, ?_⟩
  refine ite2 (fun h0 => ?_) (fun h0 => ?_)
  · have h0 : (0 : Int) < ((x.length : Nat) : Int) := of_decide_eq_true h0
    refine ⟨_, _, rfl, rfl, _, rfl, ?_⟩
    refine ite2 (fun h1 => ?_) (fun h1 => ?_)
    · have h1 : ((x.length : Nat) : Int) < 41 := of_decide_eq_true h1
      refine ⟨_, rfl, x, rfl, fun D hD => lc_str (fun i H1 => ∃ vs, H1 = upd H D (.lst vs) ∧ vs.length ≤ i ∧ vs.isEmpty = (((tl x).take i).all isD)) ⟨[], rfl, Nat.le_refl _, rfl⟩ ?_ ?_⟩
      · rintro i c H1 hc ⟨vs, rfl, hv, hem⟩
        have hi := (List.getElem?_eq_some_iff.mp hc).1
        have hi : i < (tl x).length := hi
        refine ⟨rfl, ?_⟩
        refine ⟨_, rfl, c, _, rfl, rfl, ?_⟩
        rw [mem_figs]
        refine ⟨_, rfl, ?_⟩
        have nx : (((tl x).take (i + 1)).all isD) = (vs.isEmpty && isD c) := by
          rw [List.take_add_one, show (tl x)[i]? = some c from hc, List.all_append, hem]
          simp
        refine ite2 (fun z => ?_) (fun z => ?_)
        · have z : isD c = false := by simpa using z
          exact ⟨_, rfl, vs, upd_same, sl_lt (by omega), vs ++ [.str ⟨#[c]⟩], by rw [upd_upd], by rw [List.length_append]; show vs.length + 1 ≤ _; omega, by rw [nx, z, Bool.and_false]; simp⟩
        · have z : isD c = true := by simpa using z
          exact ⟨vs, rfl, by omega, by rw [nx, z, Bool.and_true]⟩
      · rintro H1 ⟨vs, rfl, hv, hem⟩
        refine ⟨Nat.zero_le _, fun l hl => ?_⟩
        have nDl : D ≠ l := ne_of_none upd_same hl
        refine ⟨D, l, vs, rfl, rfl, SqL.of ((upd_ne nDl).trans upd_same), SqL.of upd_same, _, rfl, ?_⟩
        have sF := (same_new hD (.lst vs)).trans (same_new hl (.lst []))
        have hem : vs.isEmpty = (tl x).all isD := by
          have e : ((tl x).take x.cps.toList.length) = tl x := List.take_length
          rw [e] at hem
          exact hem
        cases e : tl x with
        | nil => rw [e] at lx; simp at lx; omega
        | cons c r =>
          have e49 : ("0" : Str) = ⟨#[48]⟩ := ext_tl (by decide +kernel)
          have ef : figs (tl x) = (vs.isEmpty && !decide (c = 48)) := by
            unfold figs okD
            rw [decide_eq_true (show 0 < (tl x).length by omega), decide_eq_true (show (tl x).length < 41 by omega), hem, e]
            simp
            rfl
          rw [ef] at q
          refine ite2 (fun z => ?_) (fun z => ?_)
          · have z : vs.isEmpty = true := z
            rw [z, Bool.true_and] at q
            refine ⟨_, rfl, x, (0 : Int), c, rfl, rfl, sl_small (by omega), by rw [show x.cps.toList = c :: r from e]; exact atI_nat (j := 0) rfl, rfl, ?_⟩
            have eq : (!decide (V.str ⟨#[c]⟩ = V.str "0")) = !decide (c = 48) := by
              rw [e49]
              congr 1
              refine decide_eq_decide.mpr ⟨fun z => ?_, fun z => by rw [z]⟩
              injection z with z
              injection z with z
              simpa using z
            rw [eq]
            exact q _ sF
          · have z : vs.isEmpty = false := by simpa using z
            rw [z, Bool.false_and] at q
            exact q _ sF
    · have h1 : ¬ ((x.length : Nat) : Int) < 41 := fun z => h1 (decide_eq_true z)
      have ef : figs (tl x) = false := by
        unfold figs
        rw [decide_eq_false (show ¬ (tl x).length < 41 by omega), Bool.false_and, Bool.and_false]
      rw [ef] at q
      exact q _ (Same.refl _)
  · have h0 : ¬ (0 : Int) < ((x.length : Nat) : Int) := fun z => h0 (decide_eq_true z)
    have ef : figs (tl x) = false := by
      unfold figs
      rw [decide_eq_false (show ¬ 0 < (tl x).length by omega), Bool.false_and]
    rw [ef] at q
    exact ⟨_, rfl, iteF (q _ (Same.refl _))⟩
end
end Zk

set_option maxHeartbeats 1000000
set_option exponentiation.threshold 2000
/-! L5: a list != []; _law_poly_text. -/
namespace Zk
open PySem PySem.Spec PyProof.Rows L2 GxR TL
theorem op_neL0 {X : Cx} (hu : X.A.units < cLine) : OpR X (compareOp .NotEq) (rEqL0 X.K not) := by
  intro pins s σ H x y v u Q I rx ry h
  obtain ⟨a, b, xs, rfl, rfl, ha, hb, q⟩ := h
  cases rx
  cases ry
  obtain ⟨its, r1, p1, _⟩ := I.list ha
  obtain ⟨its2, r2, p2, _⟩ := I.list hb
  cases r2
  cases r1 with
  | nil => exact SeqAt.RcNeAt.lists (e := fun _ => true) p1.isList p2.isList rfl hu (fun j h1 _ => absurd h1 (by simp)) _ _ _ _ ⟨.bl _, H, I, rfl, by simpa using q⟩
  | cons _ _ => exact SeqAt.RcNeAt.lists_lengths p1.isList p2.isList (by simp) hu _ _ _ _ ⟨.bl _, H, I, rfl, by simpa using q⟩
abbrev sLPT : Stmt := top 26
def spLPT : Sp := fun vs H Q _ => ∃ (a : Addr) (p : List IQ), vs = [.ref a] ∧ PolyAt H a p ∧ Good 1000 (10 ^ 13) p ∧ p.length ≤ 50 ∧ ∀ H', Same H H' → Q (.str (polyT p)) H'
section
variable {P : Program} {w : World} {K : PySem.W.Frag} {mg : Str → Option Value} {base : Heap} {f c pt : Addr} {fd : FuncData} {Ta : List Addr}
theorem scLPT : FnScope ["poly", "found", "e", "c"] ["poly"] (defScope sLPT) := ⟨rfl, rfl, rfl, by decide +kernel, rfl, by decide +kernel, by decide +kernel⟩
theorem ok_lPT (F : Fun K "_law_poly_text" "_law_poly_text" sLPT f fd) (T : Blt2 mg) : FnOk P w K mg base CX0 1 f fd ["poly"] spLPT := by
  refine F.ok scLPT (fun vs H Q E h => ?_) (fun cdv A outer s H vs Q E hr h => ?_)
  · obtain ⟨a, p, rfl, _⟩ := h
    rfl
  obtain ⟨a, p, rfl, ⟨ts, ha, ht⟩, hg, hl, q⟩ := h
  refine ⟨_, pss_cons (ps_set (i := 1) scLPT.nd rfl (Or.inl rfl) (pe_lst pa_nil))
    (pss_cons (ps_for PassesOwn.never rfl (pi_tup (pe_revT (pv 0))) (pg_tup (by rfl) (pgs_cons (pg_name (i := 2) scLPT.nd rfl (Or.inl rfl)) (pgs_cons (pg_name (i := 3) scLPT.nd rfl (Or.inl rfl)) pgs_nil)))
      (pss_one (ps_if (pt_cmpR op_eq (pv 2) pe_int (nomark _))
        (pss_one (ps_expr (pe_bm PySem.F.plainAttrs_list PySem.F.slot_list_append PySem.F.type_list_append mt_append (pv 1) (pa_cons (pe_callTy call_str_int (by rfl) T.str (by decide +kernel) (pa_cons (pv 3) pa_nil)) pa_nil))))
        (pss_one (ps_expr (pe_bm PySem.F.plainAttrs_list PySem.F.slot_list_append PySem.F.type_list_append mt_append (pv 1) (pa_cons (pe_op op_add_str (pe_op op_add_str
          (pe_ifExp (pt_cmpR op_eq (pv 3) pe_int (nomark _)) pe_str (pe_op op_add_str (pe_callTy call_str_int (by rfl) T.str (by decide +kernel) (pa_cons (pv 3) pa_nil)) pe_str)) pe_str)
          (pe_ifExp (pt_cmpR op_eq (pv 2) pe_int (nomark _)) pe_str (pe_op op_add_str pe_str (pe_callTy call_str_int (by rfl) T.str (by decide +kernel) (pa_cons (pv 2) pa_nil))))) pa_nil)))))))
    (pss_one (ps_ret (pe_ifExp (pt_cmpR (op_neL0 hr.units0) (pv 1) (pe_lst pa_nil) (nomark _)) (pe_join pe_str (pv 1)) pe_str)))), ?_⟩
  refine ⟨Nat.zero_le _, fun l hl0 => ?_⟩
  have nal : a ≠ l := ne_of_none ha hl0
  have lt := PT.len ht
  have small : ∀ x ∈ p, x.1.natAbs < 2 ^ 51 ∧ x.2.natAbs < 2 ^ 51 := fun x hx => by
    obtain ⟨h1, h2, h3, h4⟩ := hg.all x hx
    have : (10 : Int) ^ 13 = 10000000000000 := by decide
    omega
  refine ⟨_, rfl, a, ts, rfl, SqT.of ((upd_ne nal).trans ha), fun b hb => ?_⟩
  have sl1 := same_new hl0 (.lst [])
  have s1 := sl1.trans (same_new hb (.tup ts.reverse))
  have nlb : l ≠ b := ne_of_none upd_same hb
  have hr' := PT.rev (PT.sm (Same.sm s1) ht)
  refine ⟨b, rfl, ⟨_, SqT.of upd_same⟩, for_tup (K := K) (a := b) (xs := ts.reverse) (fun i σ H' => ∃ u1 u2, σ = [some (.ref a), some (.ref l), u1, u2] ∧ H' l = some (.lst ((p.reverse.take i).map fun x => V.str (pairT x))) ∧ Same H H' ∧ H' b = some (.tup ts.reverse) ∧ PT H' ts.reverse p.reverse)
    ⟨none, none, rfl, (upd_ne nlb).trans upd_same, s1, upd_same, hr'⟩ (fun i σ H' _ ⟨_, _, _, _, _, e, _⟩ => SqT.of e) ?_ ?_⟩
  · rintro i v σ H' hv ⟨u1, u2, rfl, el, sH, eb, pt⟩
    obtain ⟨t, y, rfl, hy, hyt⟩ := PT.get pt hv
    have hi : i < ts.length := by
      have := (List.getElem?_eq_some_iff.mp hv).1
      rwa [List.length_reverse] at this
    obtain ⟨y1, y2⟩ := small y (List.mem_reverse.mp (List.mem_of_getElem? hy))
    have l1 := nT_len y1
    have l2 := nT_len y2
    refine ⟨t, _, rfl, SqT.of hyt, rfl, _, _, rfl, _, _, rfl, rfl, ?_⟩
    have put : ∀ z : Str, z = pairT y → ∃ u1 u2, [some (V.ref a), some (V.ref l), some (V.int y.1), some (V.int y.2)] = [some (V.ref a), some (V.ref l), u1, u2] ∧ (upd H' l (.lst (((p.reverse.take i).map fun x => V.str (pairT x)) ++ [.str z]))) l = some (.lst ((p.reverse.take (i + 1)).map fun x => V.str (pairT x))) ∧
        Same H (upd H' l (.lst (((p.reverse.take i).map fun x => V.str (pairT x)) ++ [.str z]))) ∧ (upd H' l (.lst (((p.reverse.take i).map fun x => V.str (pairT x)) ++ [.str z]))) b = some (.tup ts.reverse) ∧ PT (upd H' l (.lst (((p.reverse.take i).map fun x => V.str (pairT x)) ++ [.str z]))) ts.reverse p.reverse := fun z ez => by
      refine ⟨_, _, rfl, ?_, fun c o e => (upd_ne (ne_of_none e hl0)).trans (sH _ _ e), (upd_ne nlb.symm).trans eb, Paired.mapP pt fun v z ⟨t, h1, h2⟩ => ⟨t, h1, ?_⟩⟩
      · rw [upd_same, ez, List.take_add_one, hy]
        simp
      · rw [upd_ne (ne_of h2 el fun z => nomatch z)]
        exact h2
    have lenA : ((p.reverse.take i).map fun x => V.str (pairT x)).length < sizeLine := sl_lt (by rw [List.length_map, List.length_take]; omega)
    refine ⟨_, rfl, rfl, _, rfl, ?_⟩
    refine ite2 (fun z => ?_) (fun z => ?_)
    · have z := of_decide_eq_true z
      injection z with z
      refine ⟨_, rfl, .inl ⟨rfl, _, SqL.of el⟩, _, rfl, _, rfl, log_small y2, l, _, _, rfl, rfl, el, lenA, ?_⟩
      exact put _ (by unfold pairT; rw [if_pos z]; rfl)
    · have n0 : ¬ y.1 = 0 := fun e => z (decide_eq_true (by rw [e]))
      have eE : tl ("" : Str) = [] := by decide +kernel
      have eN : tl ("n" : Str) = [110] := by decide +kernel
      have eC : tl ("^" : Str) = [94] := by decide +kernel
      have eP : tl ("n^" : Str) = [110, 94] := by decide +kernel
      have le : ∀ x : Str, x.length = (tl x).length := len_tl
      have fin : ∀ A B : Str, A = (if y.2 = 1 then ("" : Str) else nT y.2 ++ ("*" : Str)) → B = (if y.1 = 1 then ("" : Str) else ("^" : Str) ++ nT y.1) → A ++ ("n" : Str) ++ B = pairT y := fun A B ea eb => by
        refine ext_tl ?_
        rw [tl_append, tl_append, ea, eb]
        unfold pairT powT
        rw [if_neg n0]
        by_cases c1 : y.2 = 1 <;> by_cases c2 : y.1 = 1 <;> simp [c1, c2, tl_append, eE, eN, eC, eP]
      have fB : ∀ A : Str, A = (if y.2 = 1 then ("" : Str) else nT y.2 ++ ("*" : Str)) → A.length ≤ 2000 → tIf (tTest (tOp rEq (tVar 2) (tC (.int 1)))) (tC (.str "")) (tOp (fun (x y : V) (H : Hp) (Q : VK) => ∃ (i j : Str), x = V.str i ∧ y = V.str j ∧ i.length + j.length ≤ sizeLine ∧ Q (V.str (i ++ j)) H) (tC (.str "^")) (tCB (fun xs H Q => ∃ i, xs = [V.int i] ∧ i.natAbs.log2 < 1920 ∧ Q (V.str (Str.ofString (toString i))) H) (tCons (tVar 2) tNil)))
          [some (.ref a), some (.ref l), some (.int y.1), some (.int y.2)] H' fun w H2 => (fun (x y : V) (H : Hp) (Q : VK) => ∃ (i j : Str), x = V.str i ∧ y = V.str j ∧ i.length + j.length ≤ sizeLine ∧ Q (V.str (i ++ j)) H) (V.str (A ++ ("n" : Str))) w H2 fun z H3 => rAppend (.ref l) [z] H3 fun _ H4 => ∃ u1 u2, [some (V.ref a), some (V.ref l), some (V.int y.1), some (V.int y.2)] = [some (V.ref a), some (V.ref l), u1, u2] ∧ H4 l = some (.lst ((p.reverse.take (i + 1)).map fun x => V.str (pairT x))) ∧ Same H H4 ∧ H4 b = some (.tup ts.reverse) ∧ PT H4 ts.reverse p.reverse := fun A ea la => by
        have lAN : (A ++ ("n" : Str)).length ≤ 2001 := by rw [Str.length_append, le "n", eN]; simp; omega
        refine ⟨_, rfl, rfl, _, rfl, ?_⟩
        refine ite2 (fun z => ?_) (fun z => ?_)
        · have z := of_decide_eq_true z
          injection z with z
          exact ⟨_, _, rfl, rfl, sl_small (by rw [le "", eE]; simp; omega), l, _, _, rfl, rfl, el, lenA, put _ (fin A "" ea (by rw [if_pos z]))⟩
        · have n1 : ¬ y.1 = 1 := fun e => z (decide_eq_true (by rw [e]))
          exact ⟨_, rfl, _, rfl, log_small y1, _, _, rfl, rfl, sl_small (by rw [le "^", eC]; show 1 + (nT y.1).length ≤ _; omega), _, _, rfl, rfl, sl_small (by rw [Str.length_append ("^" : Str), le "^", eC]; show _ + (1 + (nT y.1).length) ≤ _; omega), l, _, _, rfl, rfl, el, lenA, put _ (fin A _ ea (by rw [if_neg n1]; rfl))⟩
      refine ⟨_, rfl, .inl ⟨rfl, _, SqL.of el⟩, _, rfl, rfl, _, rfl, ?_⟩
      refine ite2 (fun z => ?_) (fun z => ?_)
      · have z := of_decide_eq_true z
        injection z with z
        exact ⟨_, _, rfl, rfl, sl_small (by rw [le "", le "n", eE, eN]; decide), fB "" (by rw [if_pos z]) (by rw [le "", eE]; simp)⟩
      · have n1 : ¬ y.2 = 1 := fun e => z (decide_eq_true (by rw [e]))
        have lS : ("*" : Str).length = 1 := by decide +kernel
        exact ⟨_, rfl, _, rfl, log_small y2, _, _, rfl, rfl, sl_small (by show (nT y.2).length + _ ≤ _; omega), _, _, rfl, rfl, sl_small (by rw [Str.length_append, le "n", eN, lS]; show (nT y.2).length + 1 + 1 ≤ _; omega), fB (nT y.2 ++ ("*" : Str)) (by rw [if_neg n1]) (by rw [Str.length_append]; omega)⟩
  · rintro σ H' ⟨u1, u2, rfl, el, sH, eb, pt⟩
    have e2 : p.reverse.take ts.reverse.length = p.reverse := List.take_of_length_le (by rw [List.length_reverse, List.length_reverse]; omega)
    rw [e2] at el
    refine ⟨_, rfl, Nat.zero_le _, fun m hm => ?_⟩
    have nlm : l ≠ m := ne_of_none el hm
    refine ⟨l, m, _, rfl, rfl, SqL.of ((upd_ne nlm).trans el), SqL.of upd_same, _, rfl, ?_⟩
    have sF := sH.trans (same_new hm (.lst []))
    by_cases hp0 : p = []
    · have e3 : polyT p = "0" := by unfold polyT; rw [if_pos hp0]
      rw [e3] at q
      rw [hp0]
      exact iteF (q _ sF)
    · have e3 : polyT p = Txt.join " + " (p.reverse.map pairT) := by unfold polyT; rw [if_neg hp0]
      rw [e3] at q
      have e4 : ((p.reverse.map fun x => V.str (pairT x)).isEmpty) = false := by
        cases h : p.reverse with
        | nil => exact absurd (List.reverse_eq_nil_iff.mp h) hp0
        | cons _ _ => rfl
      rw [e4]
      refine iteT ?_
      have eS : (" + " : Str).length = 3 := by decide +kernel
      refine ⟨⟨_, rfl⟩, _, rfl, " + ", l, p.reverse.map pairT, rfl, rfl, .inl (SqL.of ?_), ?_, q _ sF⟩
      · rw [upd_ne nlm, el, List.map_map]
        rfl
      · have := sum_le (k := 4000) (ys := (p.reverse.map pairT).map (·.length)) fun n hn => by
          obtain ⟨y, hy, rfl⟩ := List.mem_map.mp hn
          obtain ⟨x, hx, rfl⟩ := List.mem_map.mp hy
          obtain ⟨a1, a2⟩ := small x (List.mem_reverse.mp hx)
          exact pairT_len a1 a2
        simp only [List.length_map, List.length_reverse] at this ⊢
        rw [eS]
        have : p.length * 4000 ≤ 50 * 4000 := Nat.mul_le_mul_right _ hl
        omega
end
end Zk

set_option maxHeartbeats 1000000
set_option exponentiation.threshold 2000
/-! L6: _law_read_item. -/
namespace Zk
open PySem PySem.Spec PyProof.Rows L2 GxR TL
abbrev sLItem : Stmt := top 28
def spItem : Sp := fun vs H Q _ => ∃ x : Str, vs = [.str x] ∧ x.length ≤ 400 ∧ (itemL (tl x) = none → ∀ H', Same H H' → Q .non H') ∧ ∀ e c, itemL (tl x) = some (e, c) → ∀ H' b, Same H H' → H' b = some (.tup [.int e, .int c]) → Q (.ref b) H'
theorem int_figs {x : Str} (h : figs (tl x) = true) : PySem.intText? x = some ((dval (tl x) : Nat) : Int) ∧ x.length ≤ 640 := by
  unfold figs okD at h
  simp only [Bool.and_eq_true] at h
  obtain ⟨h0, h1, h2, h3⟩ := h
  have h0 := of_decide_eq_true h0
  have h1 := of_decide_eq_true h1
  have lx := len_tl x
  exact ⟨PySem.intText_digits (fun c hc => of_decide_eq_true (List.all_eq_true.mp h2 c hc)) (fun e => by rw [show tl x = [] from e] at h0; exact absurd h0 (by decide)) (by omega), by omega⟩
section
variable {P : Program} {w : World} {K : PySem.W.Frag} {mg : Str → Option Value} {base : Heap} {f c pt : Addr} {fd : FuncData} {Ta : List Addr}
theorem scLItem : FnScope ["text", "head", "star", "tail"] ["text"] (defScope sLItem) := ⟨rfl, rfl, rfl, by decide +kernel, rfl, by decide +kernel, by decide +kernel⟩
theorem ok_lItem (F : Fun K "_law_read_item" "_law_read_item" sLItem f fd) (T : Blt2 mg) (C : Call1 P w K mg base "_law_are_figures" 1 ["text"] spFig) : FnOk P w K mg base CX0 2 f fd ["text"] spItem := by
  obtain ⟨g1, d1, G1, b1, k1, m1⟩ := C.ex
  refine F.ok scLItem (fun vs H Q E h => ?_) (fun cdv A outer s H vs Q E hr h => ?_)
  · obtain ⟨x, rfl, _⟩ := h
    rfl
  obtain ⟨x, rfl, hl, q0, q⟩ := h
  refine ⟨_, pss_cons (ps_if (pt_val (pe_call G1 hr rfl m1 k1 b1 .nil pass0 (pa_cons (pv 0) pa_nil))) (pss_one (ps_ret (pe_tup (pa_cons pe_int (pa_cons (pe_callTy call_int_str (by rfl) T.int (by decide +kernel) (pa_cons (pv 0) pa_nil)) pa_nil))))) pss_nil)
    (pss_cons (ps_asg (pe_partition (pv 0) pe_str) (pg_tup (by rfl) (pgs_cons (pg_name (i := 1) scLItem.nd rfl (Or.inl rfl)) (pgs_cons (pg_name (i := 2) scLItem.nd rfl (Or.inl rfl)) (pgs_cons (pg_name (i := 3) scLItem.nd rfl (Or.inl rfl)) pgs_nil)))))
    (pss_cons (ps_if (pt_cmpR op_eq (pv 2) pe_str (nomark _)) (pss_one (ps_par (i := 1) (j := 3) rfl scLItem.nd rfl rfl (by decide) rfl rfl (pa_cons pe_str (pa_cons (pv 0) pa_nil)) rfl))
        (pss_one (ps_if (PW.pt (pw_or (pt_not (pt_val (pe_call G1 hr rfl m1 k1 b1 .nil pass0 (pa_cons (pv 1) pa_nil)))) (pw_or1 (pt_cmpR op_eq (pv 1) pe_str (nomark _))))) (pss_one (ps_ret pe_non)) pss_nil)))
    (pss_cons (ps_if (pt_cmpR op_eq (pv 3) pe_str (nomark _)) (pss_one (ps_ret (pe_tup (pa_cons pe_int (pa_cons (pe_callTy call_int_str (by rfl) T.int (by decide +kernel) (pa_cons (pv 1) pa_nil)) pa_nil))))) pss_nil)
    (pss_cons (ps_if (PW.pt (pw_or (pt_cmpR op_ne (pe_slice sl_str (pv 3) po_none (po_some pe_int)) pe_str (nomark _)) (pw_or (pt_not (pt_val (pe_call G1 hr rfl m1 k1 b1 .nil pass0 (pa_cons (pe_slice sl_str (pv 3) (po_some pe_int) po_none) pa_nil)))) (pw_or1 (pt_cmpR op_eq (pe_slice sl_str (pv 3) (po_some pe_int) po_none) pe_str (nomark _)))))) (pss_one (ps_ret pe_non)) pss_nil)
    (pss_one (ps_ret (pe_tup (pa_cons (pe_callTy call_int_str (by rfl) T.int (by decide +kernel) (pa_cons (pe_slice sl_str (pv 3) (po_some pe_int) po_none) pa_nil)) (pa_cons (pe_callTy call_int_str (by rfl) T.int (by decide +kernel) (pa_cons (pv 1) pa_nil)) pa_nil))))))))), ?_⟩
  refine ⟨_, rfl, x, rfl, hl, fun H1 s1 => ⟨_, rfl, ?_⟩⟩
  refine ite2 (fun z => ?_) (fun z => ?_)
  · obtain ⟨e1, e2⟩ := int_figs z
    have ei : itemL (tl x) = some (0, ((dval (tl x) : Nat) : Int)) := if_pos z
    exact ⟨_, rfl, x, _, rfl, e1, e2, by show 2 ≤ sizeLine; decide, fun p hp => q _ _ ei _ p (s1.trans (same_new hp _)) upd_same⟩
  have nf : ¬ figs (tl x) = true := z
  have es : tl ("*" : Str) = [42] := by decide +kernel
  have eE : tl ("" : Str) = [] := by decide +kernel
  have e1 : tl ("1" : Str) = [49] := by decide +kernel
  have eN : tl ("n" : Str) = [110] := by decide +kernel
  have eP : tl ("n^" : Str) = [110, 94] := by decide +kernel
  have strEq : ∀ {a b : Str} {l : List Nat}, tl b = l → (V.str a = V.str b ↔ tl a = l) := fun {a b l} e => ⟨fun h => by injection h with h; rw [h, e], fun h => by rw [ext_tl (h.trans e.symm)]⟩
  have lx := len_tl x
  unfold tNext
  dsimp only
  refine ⟨_, rfl, ⟨_, rfl⟩, x, "*", rfl, rfl, by decide +kernel, sl_small (by omega), fun p hp => ?_⟩
  refine ⟨p, _, rfl, SqT.of upd_same, rfl, _, _, rfl, _, _, rfl, _, _, rfl, rfl, ?_⟩
  have s2 := s1.trans (same_new hp (.tup [.str (Txt.partition x "*").1, .str (Txt.partition x "*").2.1, .str (Txt.partition x "*").2.2]))
  generalize upd H1 p (.tup [.str (Txt.partition x "*").1, .str (Txt.partition x "*").2.1, .str (Txt.partition x "*").2.2]) = H2 at s2
  dsimp only
  refine seq_if (fun σ' H' => ∃ hd t st', σ' = [some (.str x), some (.str hd), st', some (.str t)] ∧ Same H H' ∧ figs (tl hd) = true ∧ t.length ≤ 400 ∧ itemL (tl x) = tailL (dval (tl hd)) (tl t)) ?_ ?_
  · rintro σ' H3 ⟨hd, t, st', rfl, s3, fh, lt, ei⟩
    obtain ⟨i1, i2⟩ := int_figs fh
    refine ⟨_, rfl, rfl, _, rfl, ?_⟩
    refine ite2 (fun z => ?_) (fun z => ?_)
    · have z := (strEq eN).mp (of_decide_eq_true z)
      have e : itemL (tl x) = some (1, ((dval (tl hd) : Nat) : Int)) := by rw [ei]; unfold tailL; rw [if_pos z]
      exact ⟨_, rfl, hd, _, rfl, i1, i2, by show 2 ≤ sizeLine; decide, fun p hp => q _ _ e _ p (s3.trans (same_new hp _)) upd_same⟩
    have n1 : ¬ tl t = [110] := fun y => z (decide_eq_true ((strEq eN).mpr y))
    have no : ∀ H', Same H H' → ¬ ((tl t).take 2 = [110, 94] ∧ figs ((tl t).drop 2) = true ∧ (tl t).drop 2 ≠ [49]) → Q .non H' := fun H' s n => q0 (by rw [ei]; unfold tailL; rw [if_neg n1, if_neg n]) H' s
    have cT : tl (cutS t none (some 2)) = (tl t).take 2 := by
      show (((tl t).drop (HT.sIx t.length 0 none)).take (HT.sIx t.length t.length (some (2 : Int)) - HT.sIx t.length 0 none)) = _
      have e2 : HT.sIx t.length t.length (some (2 : Int)) = min 2 t.length := HT.sIx_nat _ _ 2
      rw [HT.sIx_none, e2, List.drop_zero, Nat.sub_zero, len_tl]
      by_cases z : 2 ≤ (tl t).length
      · rw [Nat.min_eq_left z]
      · rw [Nat.min_eq_right (by omega), List.take_of_length_le (Nat.le_refl _), List.take_of_length_le (by omega)]
    have cD : tl (cutS t (some 2) none) = (tl t).drop 2 := tl_drop t 2
    have lD := cutS_length t (some 2) none
    refine ⟨_, rfl, 2, rfl, t, rfl, sl_small (by omega), rfl, _, rfl, ?_⟩
    refine ite2 (fun z => ?_) (fun z => ?_)
    · refine iteT (no _ s3 fun y => ?_)
      have z : (!decide (V.str (cutS t none (some 2)) = V.str "n^")) = true := z
      rw [decide_eq_true ((strEq eP).mpr (cT.trans y.1))] at z
      cases z
    have tk : (tl t).take 2 = [110, 94] := by
      have z : ¬ (!decide (V.str (cutS t none (some 2)) = V.str "n^")) = true := z
      simp only [Bool.not_eq_true', decide_eq_false_iff_not, Classical.not_not] at z
      rw [← cT]
      exact (strEq eP).mp z
    refine ⟨_, rfl, 2, rfl, t, rfl, sl_small (by omega), _, rfl, Nat.le_trans lD lt, fun H4 s4 => ⟨_, rfl, ?_⟩⟩
    rw [cD]
    have s34 := s3.trans s4
    refine ite2 (fun z => ?_) (fun z => ?_)
    · refine iteT (no _ s34 fun y => ?_)
      rw [y.2.1] at z
      cases z
    have fd : figs ((tl t).drop 2) = true := by simpa using z
    refine ⟨_, rfl, 2, rfl, t, rfl, sl_small (by omega), rfl, _, rfl, ?_⟩
    refine ite2 (fun z => ?_) (fun z => ?_)
    · have z := (strEq e1).mp (of_decide_eq_true z)
      exact no _ s34 fun y => y.2.2 (cD.symm.trans z)
    · have n49 : (tl t).drop 2 ≠ [49] := fun y => z (decide_eq_true ((strEq e1).mpr (cD.trans y)))
      have e : itemL (tl x) = some (((dval ((tl t).drop 2) : Nat) : Int), ((dval (tl hd) : Nat) : Int)) := by rw [ei]; unfold tailL; rw [if_neg n1, if_pos ⟨tk, fd, n49⟩]
      have fc : figs (tl (cutS t (some 2) none)) = true := by rw [cD]; exact fd
      obtain ⟨j1, j2⟩ := int_figs fc
      rw [cD] at j1
      exact ⟨_, rfl, 2, rfl, t, rfl, sl_small (by omega), _, _, rfl, j1, j2, _, rfl, hd, _, rfl, i1, i2, by show 2 ≤ sizeLine; decide, fun p hp => q _ _ e _ p (s34.trans (same_new hp _)) upd_same⟩
  · intro fin
    refine ⟨_, rfl, rfl, _, rfl, ?_⟩
    by_cases hs : 42 ∈ tl x
    · obtain ⟨a, r, ea, ha⟩ := first_star (tl x) hs
      obtain ⟨A, hA⟩ : ∃ A : Str, tl A = a := ⟨⟨a.toArray⟩, rfl⟩
      obtain ⟨R, hR⟩ : ∃ R : Str, tl R = r := ⟨⟨r.toArray⟩, rfl⟩
      have ex : x = A ++ ("*" : Str) ++ R := ext_tl (by
        have z : tl (A ++ ("*" : Str) ++ R) = a ++ [42] ++ r := by rw [tl_append, tl_append, hA, hR, es]
        rw [z]
        show tl x = _
        rw [ea]
        simp)
      have pt : Txt.partition x "*" = (A, ("*" : Str), R) := by
        rw [ex]
        exact partition_app (y := "*") es (by rw [hA]; exact ha)
      have lA : A.length ≤ 400 := by
        rw [len_tl, hA]
        have := congrArg List.length ea
        rw [List.length_append] at this
        omega
      have lR : R.length ≤ 400 := by
        rw [len_tl, hR]
        have := congrArg List.length ea
        rw [List.length_append, List.length_cons] at this
        omega
      have ei : itemL (tl x) = if figs (tl A) = true ∧ tl A ≠ [49] then tailL (dval (tl A)) (tl R) else none := by
        unfold itemL
        rw [if_neg nf, (par_one (tl x) []).2 a r ea ha, List.nil_append, hA, hR]
      rw [pt]
      have ne : ¬ V.str ("*" : Str) = V.str "" := fun h => by
        have := (strEq eE).mp h
        rw [es] at this
        cases this
      rw [show decide (V.str (A, ("*" : Str), R).2.1 = V.str "") = false from decide_eq_false ne]
      refine iteF ?_
      refine ⟨_, rfl, A, rfl, lA, fun H4 s4 => ⟨_, rfl, ?_⟩⟩
      have s24 := s2.trans s4
      refine ite2 (fun z => ?_) (fun z => ?_)
      · refine iteT (q0 ?_ _ s24)
        rw [ei, if_neg fun y => ?_]
        rw [y.1] at z
        cases z
      have fA : figs (tl A) = true := by simpa using z
      refine ⟨_, rfl, rfl, _, rfl, ?_⟩
      refine ite2 (fun z => ?_) (fun z => ?_)
      · have z := (strEq e1).mp (of_decide_eq_true z)
        exact q0 (by rw [ei, if_neg fun y => y.2 z]) _ s24
      · have n49 : tl A ≠ [49] := fun y => z (decide_eq_true ((strEq e1).mpr y))
        exact fin _ _ ⟨A, R, _, rfl, s24, fA, lR, by rw [ei, if_pos ⟨fA, n49⟩]⟩
    · have pt : Txt.partition x "*" = (x, Str.empty, Str.empty) := partition_none (y := "*") es hs
      have ei : itemL (tl x) = tailL 1 (tl x) := by
        unfold itemL
        rw [if_neg nf, (par_one (tl x) []).1 hs]
      rw [pt]
      rw [show decide (V.str (x, Str.empty, Str.empty).2.1 = V.str "") = true from decide_eq_true ((strEq eE).mpr rfl)]
      refine iteT ?_
      refine ⟨_, rfl, _, _, rfl, ?_⟩
      exact fin _ _ ⟨"1", x, _, rfl, s2, by rw [e1]; decide, hl, by rw [ei, e1]; rfl⟩
end
end Zk

set_option maxHeartbeats 1000000
set_option exponentiation.threshold 2000
/-! L7: poly_read, which raises. -/
namespace Zk
open PySem PySem.Spec PyProof.Rows L2 GxR TL RT
open PySem.W (findIn subIn typeIn keepIn excTail kitOne kitAny exmOne clsIn)
abbrev sPRead : Stmt := top 15
/-- the text, or what no text is -/
def spPRead (Ta : List Addr) (C : Addr) : Sp := fun vs H Q E => ∃ (v : V) (d : PyData), vs = [v] ∧ Sd H v d ∧ Tb Ta H ∧ (∀ x, d = .str x → x.length ≤ 400) ∧
  (isStrD d = false → ∀ dd H', Sm H H' → Tb Ta H' → XdF H' "at" (.int 0) dd → E (.ref C) dd H') ∧
  (∀ x, d = .str x → polyOf (tl x) = none → ∀ dd H', Sm H H' → Tb Ta H' → XdF H' "at" (.int 1) dd → E (.ref C) dd H') ∧
  (∀ x, d = .str x → ∀ ps, polyOf (tl x) = some ps → ∀ H' b, Sm H H' → Tb Ta H' → PolyAt H' b ps → Q (.ref b) H')
section
variable {P : Program} {w : World} {K : PySem.W.Frag} {mg : Str → Option Value} {base : Heap} {f c pt B C : Addr} {fd : FuncData} {Ta : List Addr}
theorem scPRead : FnScope ["text", "poly"] ["text"] (defScope sPRead) := ⟨rfl, rfl, rfl, by decide +kernel, rfl, by decide +kernel, by decide +kernel⟩
theorem ok_PRead (F : Fun K "poly_read" "poly_read" sPRead f fd) (T : Blt2 mg) (G : ErrM' P w K mg base B "BadText" "at" C) (C1 : Call1 P w K mg base "poly_or_none" 5 ["text"] (spPN Ta)) : FnOk P w K mg base (L2.CX P w) 6 f fd ["text"] (spPRead Ta C) := by
  obtain ⟨g1, d1, G1, b1, k1, m1⟩ := C1.ex
  refine F.okX scPRead (fun vs H Q E h => ?_) (fun cdv A outer s H vs Q E hr h => ?_)
  · obtain ⟨v, d, rfl, _⟩ := h
    rfl
  obtain ⟨v, d, rfl, sd, tb, hl, q0, q1, q⟩ := h
  have r2 : Room 2 _ := hr.mono (by omega)
  refine ⟨_, pss_cons (ps_if (pt_not (pt_val (pe_isD .str (pv 0) (by rfl) T.isinstance (by rfl) T.str (by decide +kernel)))) (pss_one (ps_raise rfl (takes_of rfl rfl rfl rfl) (pmk_E G r2 (by rfl) pe_int))) pss_nil)
    (pss_cons (ps_set (i := 1) scPRead.nd rfl (Or.inl rfl) (pe_call G1 hr rfl m1 k1 b1 .nil pass0 (pa_cons (pv 0) pa_nil)))
    (pss_cons (ps_if (pt_cmp (pc_isN (pv 1))) (pss_one (ps_raise rfl (takes_of rfl rfl rfl rfl) (pmk_E G r2 (by rfl) pe_int))) pss_nil)
    (pss_one (ps_ret (pv 1))))), ?_⟩
  refine ⟨_, rfl, _, d, rfl, sd, _, rfl, ?_⟩
  refine ite2 (fun z => ?_) (fun z => ?_)
  · have z : isStrD d = false := by simpa using z
    exact ra_read fun dd H' s x => q0 z dd H' (Same.sm s) (tb.same s) x
  have z : isStrD d = true := by simpa using z
  cases d with
  | str x =>
    cases sd with
    | str _ =>
      refine ⟨_, rfl, x, rfl, hl x rfl, tb, fun hn H1 s1 t1 => ?_, fun ps hp H1 b s1 t1 pb => ?_⟩
      · refine ⟨_, rfl, _, rfl, iteT ?_⟩
        exact ra_read fun dd H' s y => q1 x rfl hn dd H' (s1.trans (Same.sm s)) (t1.same s) y
      · exact ⟨_, rfl, _, rfl, iteF ⟨_, rfl, q x rfl ps hp H1 b s1 t1 pb⟩⟩
  | _ => cases z
end
end Zk

set_option maxHeartbeats 1000000
set_option exponentiation.threshold 2000
/-! L8: _law_read_poly. -/
namespace Zk
open PySem PySem.Spec PyProof.Rows L2 GxR TL RT
abbrev sLRead : Stmt := top 29
def shortRuns (l : List Nat) : Prop := ∀ w, w <:+: l → w.all isD = true → w.length ≤ 40
def spLRead : Sp := fun vs H Q _ => ∃ x : Str, vs = [.str x] ∧ x.length ≤ 400 ∧ shortRuns (tl x) ∧ (polyOf (tl x) = none → ∀ H', Same H H' → Q .non H') ∧ ∀ ps, polyOf (tl x) = some ps → ∀ H' b, Same H H' → PolyAt H' b ps → Q (.ref b) H'
/-! ### the mathematics -/
theorem pairD_good (x : IQ) : isPairD (pairD x) = true ↔ goodP x := by
  show (decide (0 ≤ x.1) && decide (1 ≤ x.2)) = true ↔ _
  rw [Bool.and_eq_true, decide_eq_true_iff, decide_eq_true_iff]
  exact Iff.rfl
theorem ascB_iff {ns : List Int} : ascB ns = true ↔ ∀ i (h : i + 1 < ns.length), ns[i]'(by omega) < ns[i + 1] := by
  unfold ascB
  rw [List.all_eq_true]
  constructor
  · intro h i hi
    have := of_decide_eq_true (h i (List.mem_range.mpr (by omega)))
    rwa [List.getD_eq_getElem?_getD, List.getD_eq_getElem?_getD, List.getElem?_eq_getElem (show i < ns.length by omega), List.getElem?_eq_getElem hi] at this
  · intro h i hi
    have hi := List.mem_range.mp hi
    have h1 : i + 1 < ns.length := by omega
    refine decide_eq_true ?_
    rw [List.getD_eq_getElem?_getD, List.getD_eq_getElem?_getD, List.getElem?_eq_getElem (show i < ns.length by omega), List.getElem?_eq_getElem h1]
    exact h i h1
theorem fst_pairD (q : List IQ) : (q.map pairD).map fstD = q.map (·.1) := by rw [List.map_map]; exact List.map_congr_left fun _ _ => rfl
/-- from the greatest exponent on -/
def desc (q : List IQ) : Prop := ∀ i (h : i + 1 < q.length), (q[i + 1]).1 < (q[i]'(by omega)).1
theorem poly_rev {q : List IQ} : isPolyD (polyD q.reverse) = true ↔ (∀ x ∈ q, goodP x) ∧ desc q := by
  show ((q.reverse.map pairD).all isPairD && ascB ((q.reverse.map pairD).map fstD)) = true ↔ _
  rw [Bool.and_eq_true, fst_pairD, ascB_iff, List.all_eq_true]
  constructor
  · rintro ⟨h1, h2⟩
    refine ⟨fun x hx => (pairD_good x).mp (h1 _ (List.mem_map.mpr ⟨x, List.mem_reverse.mpr hx, rfl⟩)), fun i hi => ?_⟩
    have := h2 (q.length - 2 - i) (by simp; omega)
    simp only [List.getElem_map, List.getElem_reverse] at this
    have e1 : q.length - 1 - (q.length - 2 - i) = i + 1 := by omega
    have e2 : q.length - 1 - (q.length - 2 - i + 1) = i := by omega
    simp only [e1, e2] at this
    exact this
  · rintro ⟨h1, h2⟩
    refine ⟨fun d hd => ?_, fun i hi => ?_⟩
    · obtain ⟨x, hx, rfl⟩ := List.mem_map.mp hd
      exact (pairD_good x).mpr (h1 x (List.mem_reverse.mp hx))
    · simp only [List.length_map, List.length_reverse] at hi
      simp only [List.getElem_map, List.getElem_reverse]
      have := h2 (q.length - 2 - i) (by omega)
      have e1 : q.length - 2 - i = q.length - 1 - (i + 1) := by omega
      have e2 : q.length - 2 - i + 1 = q.length - 1 - i := by omega
      simp only [e2, e1] at this
      have e3 : q.length - 1 - (i + 1) + 1 = q.length - 1 - i := by omega
      simp only [e3] at this
      exact this
/-- what stands in found -/
def optD : Option (Int × Int) → PyData
  | none => .none
  | some x => pairD x
theorem optD_lay : ∀ os : List (Option (Int × Int)), PyData.canLayAll0 (os.map optD) = true
  | [] => by simp [PyData.canLayAll0]
  | none :: r => by simp [PyData.canLayAll0, optD, PyData.canLay0, optD_lay r]
  | some x :: r => by simp [PyData.canLayAll0, optD, pairD, PyData.canLay0, optD_lay r]
theorem optD_depth : ∀ os : List (Option (Int × Int)), PyData.depthAll (os.map optD) ≤ 1
  | [] => by simp [PyData.depthAll]
  | none :: r => by have := optD_depth r; simp [PyData.depthAll, optD, PyData.depth]; omega
  | some x :: r => by have := optD_depth r; simp [PyData.depthAll, optD, pairD, PyData.depth]; omega
theorem optD_shaped (os : List (Option (Int × Int))) : SeqAt.shaped (.list (os.map optD)) = true := by
  have := optD_depth os
  simp [SeqAt.shaped, PyData.canLay0, optD_lay, PyData.depth]
  omega
theorem optD_any (os : List (Option (Int × Int))) : ((os.map optD).any fun z => PyData.eqv z .none) = os.any Option.isNone := by
  rw [List.any_map]
  refine congrArg (fun f => List.any os f) (funext fun o => ?_)
  cases o with
  | none => simp [optD, PyData.eqv]
  | some x => simp [optD, pairD, PyData.eqv]
/-- an entry of found in the heap -/
def OptV (H : Hp) (v : V) (o : Option (Int × Int)) : Prop := match o with
  | none => v = .non
  | some x => ∃ t, v = .ref t ∧ H t = some (.tup [.int x.1, .int x.2])
abbrev OptVs (H : Hp) : List V → List (Option (Int × Int)) → Prop := Paired (OptV H)
theorem OptV.sm {H H' : Hp} (s : Same H H') {v : V} {o : Option (Int × Int)} (h : OptV H v o) : OptV H' v o := by
  cases o with
  | none => exact h
  | some x =>
    obtain ⟨t, e, h⟩ := h
    exact ⟨t, e, s _ _ h⟩
theorem OptVs.sm {H H' : Hp} (s : Same H H') {vs : List V} {os : List (Option (Int × Int))} (h : OptVs H vs os) : OptVs H' vs os := Paired.mapP h fun _ _ z => OptV.sm s z
theorem OptVs.dp {K : PySem.W.Frag} {H : Hp} : ∀ {vs : List V} {os : List (Option (Int × Int))}, OptVs H vs os → DpAll K H vs (os.map optD)
  | _, _, .nil => .nil
  | _, _, .cons (b := none) h t => by
    have h : _ = V.non := h
    rw [h]
    exact .cons .non (OptVs.dp t)
  | _, _, .cons (b := some x) h t => by
    obtain ⟨a, rfl, h⟩ := h
    exact .cons (.tup (SqT.of h) (.cons (.int _) (.cons (.int _) .nil))) (OptVs.dp t)
theorem OptVs.pt {H : Hp} : ∀ {vs : List V} {ps : List IQ}, OptVs H vs (ps.map some) → PT H vs ps
  | _, [], .nil => .nil
  | _, p :: ps, .cons h t => .cons h (OptVs.pt t)
theorem OptVs.len {H : Hp} {vs : List V} {os : List (Option (Int × Int))} (h : OptVs H vs os) : vs.length = os.length := Paired.length h
theorem OptVs.get {H : Hp} : ∀ {vs : List V} {os : List (Option (Int × Int))} {i : Nat} {o : Option (Int × Int)}, OptVs H vs os → os[i]? = some o → ∃ v, vs[i]? = some v ∧ OptV H v o
  | _, _, i, o, .nil, e => by simp at e
  | _, _, 0, o, .cons h _, e => by simp at e; subst e; exact ⟨_, rfl, h⟩
  | _, _, i + 1, o, .cons _ t, e => by
    obtain ⟨v, h1, h2⟩ := OptVs.get (i := i) (o := o) t (by simpa using e)
    exact ⟨v, by simpa using h1, h2⟩
theorem OptVs.app {H : Hp} {vs ws : List V} {os us : List (Option (Int × Int))} (h : OptVs H vs os) (k : OptVs H ws us) : OptVs H (vs ++ ws) (os ++ us) := by
  induction h with
  | nil => exact k
  | cons h _ ih => exact .cons h ih
/-- all items read: as the program reads them -/
theorem items_all {l : List Nat} (h : shortRuns l) : ((itemsL l).map itemL).any Option.isNone = false → (itemsL l).map itemL = ((itemsL l).map pairP).map some ∧ ∀ x ∈ (itemsL l).map pairP, goodP x := by
  intro z
  have each : ∀ y ∈ itemsL l, itemL y = some (pairP y) ∧ goodP (pairP y) := fun y hy => by
    have hi := items_inf hy
    have ie := item_eq (l := y) fun w hw => h w (hw.trans hi)
    by_cases g : goodP (pairP y)
    · exact ⟨ie.1 g, g⟩
    · have : ((itemsL l).map itemL).any Option.isNone = true := List.any_eq_true.mpr ⟨_, List.mem_map.mpr ⟨y, hy, rfl⟩, by rw [ie.2 g]; rfl⟩
      rw [z] at this
      cases this
  refine ⟨?_, fun x hx => ?_⟩
  · rw [List.map_map]
    exact List.map_congr_left fun y hy => (each y hy).1
  · obtain ⟨y, hy, rfl⟩ := List.mem_map.mp hx
    exact (each y hy).2
theorem items_some {l : List Nat} (h : shortRuns l) : ((itemsL l).map itemL).any Option.isNone = true → ¬ ∀ x ∈ (itemsL l).map pairP, goodP x := by
  intro z g
  obtain ⟨o, ho, e⟩ := List.any_eq_true.mp z
  obtain ⟨y, hy, rfl⟩ := List.mem_map.mp ho
  have hi := items_inf hy
  have ie := item_eq (l := y) fun w hw => h w (hw.trans hi)
  rw [ie.1 (g _ (List.mem_map.mpr ⟨y, hy, rfl⟩))] at e
  cases e
section
variable {P : Program} {w : World} {K : PySem.W.Frag} {mg : Str → Option Value} {base : Heap} {f c pt : Addr} {fd : FuncData} {Ta : List Addr}
theorem scLRead : FnScope ["text", "found", "item", "at"] ["text"] (defScope sLRead) := ⟨rfl, rfl, rfl, by decide +kernel, rfl, by decide +kernel, by decide +kernel⟩
theorem ok_lRead (F : Fun K "_law_read_poly" "_law_read_poly" sLRead f fd) (T : Blt2 mg) (C : Call1 P w K mg base "_law_read_item" 2 ["text"] spItem) : FnOk P w K mg base CX0 3 f fd ["text"] spLRead := by
  obtain ⟨g1, d1, G1, b1, k1, m1⟩ := C.ex
  refine F.ok scLRead (fun vs H Q E h => ?_) (fun cdv A outer s H vs Q E hr h => ?_)
  · obtain ⟨x, rfl, _⟩ := h
    rfl
  obtain ⟨x, rfl, hl, hrun, q0, q⟩ := h
  have hu65 : (A.deeper (envOfC "_law_read_poly" (defScope sLRead) s.heap.objs.size f cdv)).units + 65 < cLine := by have := hr.un; omega
  refine ⟨_, pss_cons (ps_if (pt_cmpR op_eq (pv 0) pe_str (nomark _)) (pss_one (ps_ret (pe_tup pa_nil))) pss_nil)
    (pss_cons (ps_set (i := 1) scLRead.nd rfl (Or.inr rfl) (pe_lc (own := [("item", 2)]) (g := gName 2) (tt := tYes) rfl scLRead.nd (pi_list (pe_split (pv 0) pe_str))
      (blkOk_by (N := ["text", "found", "item", "at"]) (sc := defScope sLRead) (by decide +kernel)) (fun _ _ _ _ _ => pg_name (i := 2) scLRead.nd rfl (Or.inl rfl)) (fun _ _ _ _ _ => pts_nil) (fun _ _ _ _ _ => pe_call G1 hr rfl m1 k1 b1 .nil pass0 (pa_cons (pv 2) pa_nil))))
    (pss_cons (ps_if (PW.pt (pw_or (pt_cmpR (op_inD hu65) pe_non (pv 1) (by rfl)) (pw_or1 (pt_cmpR (op_neL0 hr.units0) (pe_lc (own := [("at", 3)]) (g := gName 3) (tt := _) rfl scLRead.nd (pi_range1 (by rfl) T.range (pa_cons (pe_op op_sub (pe_callB call_len_seq (by rfl) T.len PySem.boot_len (pa_cons (pv 1) pa_nil)) pe_int) pa_nil))
      (blkOk_by (N := ["text", "found", "item", "at"]) (sc := defScope sLRead) (by decide +kernel)) (fun _ _ _ _ _ => pg_name (i := 3) scLRead.nd rfl (Or.inl rfl)) (fun _ _ _ _ _ => pts_one (pt_cmpR op_le (pe_ix (r := rIxT K) ix_tup (pe_ix (r := rIxL K) ix_list (pv 1) (pv 3) (fun _ _ => rfl)) pe_int (fun _ _ => rfl)) (pe_ix (r := rIxT K) ix_tup (pe_ix (r := rIxL K) ix_list (pv 1) (pe_op op_add (pv 3) pe_int) (fun _ _ => rfl)) pe_int (fun _ _ => rfl)) (nomark _))) (fun _ _ _ _ _ => pv 3)) (pe_lst pa_nil) (nomark _))))) (pss_one (ps_ret pe_non)) pss_nil)
    (pss_one (ps_ret (pe_callTy call_tuple_of (by rfl) T.tuple (by decide +kernel) (pa_cons (pe_revL (pv 1)) pa_nil)))))), ?_⟩
  have e0 : ("0" : Str).cps.toList = [48] := by decide +kernel
  refine ⟨_, rfl, rfl, _, rfl, ?_⟩
  refine ite2 (fun z => ?_) (fun z => ?_)
  · have z := of_decide_eq_true z
    injection z with z
    have e : polyOf (tl x) = some [] := by unfold polyOf; rw [z, if_pos e0]
    refine ⟨by show 0 ≤ sizeLine; exact Nat.zero_le _, fun p hp => ?_⟩
    exact q _ e _ p (same_new hp _) ⟨[], upd_same, .nil⟩
  have nz : ¬ tl x = [48] := fun e => z (decide_eq_true (by rw [show x = ("0" : Str) from ext_tl (e.trans e0.symm)]))
  have es : tl (" + " : Str) = sepL := by decide +kernel
  have sp : (Txt.split x " + ").map tl = itemsL (tl x) := by
    have := split_spl x " + " (by rw [es]; decide) (kind_ok (by decide +kernel))
    rw [es] at this
    exact this
  have lx := len_tl x
  have li : (Txt.split x " + ").length ≤ 401 := by
    have e1 := congrArg List.length sp
    rw [List.length_map] at e1
    have := items_len (tl x).length (tl x) [] 0 (Nat.le_refl _)
    have e2 : (itemsL (tl x)).length ≤ (tl x).length + 1 := this
    omega
  have lit : (itemsL (tl x)).length = (Txt.split x " + ").length := by have := congrArg List.length sp; rw [List.length_map] at this; omega
  refine ⟨_, rfl, ⟨_, rfl⟩, x, " + ", rfl, rfl, by decide +kernel, by rw [sizeLine_eq]; omega, fun l hl0 => ?_⟩
  have sl1 := same_new hl0 (.lst ((Txt.split x " + ").map V.str))
  refine ⟨l, rfl, ⟨_, SqL.of upd_same⟩, fun D hD => ?_⟩
  have sD := sl1.trans (same_new hD (.lst []))
  have nlD : l ≠ D := ne_of_none upd_same hD
  have hD0 : H D = none := sl1.free hD
  refine lc_list (K := K) (a := l) (xs := (Txt.split x " + ").map V.str) (fun i H1 => ∃ vs, H1 D = some (.lst vs) ∧ OptVs H1 vs (((itemsL (tl x)).take i).map itemL) ∧ Same H H1 ∧ H1 l = some (.lst ((Txt.split x " + ").map V.str)))
    ⟨[], upd_same, .nil, sD, (upd_ne nlD).trans upd_same⟩ (fun i H1 _ ⟨_, _, _, _, e⟩ => SqL.of e) ?_ ?_
  · rintro i y H1 hy ⟨vs, eD, ov, s1, el⟩
    have hi : i < (Txt.split x " + ").length := by
      have := (List.getElem?_eq_some_iff.mp hy).1
      rwa [List.length_map] at this
    have hz : (Txt.split x " + ")[i]? = some (Txt.split x " + ")[i] := List.getElem?_eq_getElem hi
    rw [List.getElem?_map, hz] at hy
    obtain rfl : V.str (Txt.split x " + ")[i] = y := Option.some.inj hy
    generalize (Txt.split x " + ")[i] = y at hz
    have hit : (itemsL (tl x))[i]? = some (tl y) := by rw [← sp, List.getElem?_map, hz]; rfl
    have hyl : y.length ≤ 400 := by
      rw [len_tl]
      have := inf_len (items_inf (List.mem_of_getElem? hit))
      omega
    have lvs := OptVs.len ov
    rw [List.length_map, List.length_take] at lvs
    refine ⟨rfl, ?_⟩
    dsimp only [tYes]
    refine iteT ?_
    have put : ∀ H2 v, Same H1 H2 → OptV H2 v (itemL (tl y)) → ∃ acc, H2 D = some (.lst acc) ∧ acc.length < sizeLine ∧ ∃ ws, upd H2 D (.lst (acc ++ [v])) D = some (.lst ws) ∧ OptVs (upd H2 D (.lst (acc ++ [v]))) ws (((itemsL (tl x)).take (i + 1)).map itemL) ∧ Same H (upd H2 D (.lst (acc ++ [v]))) ∧ upd H2 D (.lst (acc ++ [v])) l = some (.lst ((Txt.split x " + ").map V.str)) := by
      intro H2 v s2 o2
      have eD2 := s2 _ _ eD
      have off : ∀ {w : V} {o : Option (Int × Int)}, OptV H2 w o → OptV (upd H2 D (.lst (vs ++ [v]))) w o := fun {w o} z => by
        cases o with
        | none => exact z
        | some x =>
          obtain ⟨t, e, h⟩ := z
          exact ⟨t, e, (upd_ne (ne_of h eD2 fun z => nomatch z)).trans h⟩
      refine ⟨vs, eD2, sl_lt (by omega), _, upd_same, ?_, same_at (s1.trans s2) hD0 _, (upd_ne nlD).trans (s2 _ _ el)⟩
      rw [List.take_add_one, hit, List.map_append]
      exact OptVs.app (Paired.mapP (OptVs.sm s2 ov) fun _ _ z => off z) (.cons (off o2) .nil)
    refine ⟨_, rfl, y, rfl, hyl, fun hn H2 s2 => ?_, fun e c hs H2 b s2 eb => ?_⟩
    · exact put H2 .non s2 (by rw [hn]; exact rfl)
    · exact put H2 (.ref b) s2 (by rw [hs]; exact ⟨b, rfl, eb⟩)
  · rintro H1 ⟨vs, eD, ov, s1, el⟩
    rw [List.length_map, List.take_of_length_le (by omega)] at ov
    have lvs := OptVs.len ov
    rw [List.length_map] at lvs
    clear el sD sl1 hl0 hD nlD
    have dp : DpAll K H1 vs (((itemsL (tl x)).map itemL).map optD) := OptVs.dp ov
    refine ⟨_, rfl, .none, ((itemsL (tl x)).map itemL).map optD, .non, .lst (SqL.of eD) dp, by decide +kernel, optD_shaped _, _, rfl, ?_⟩
    rw [optD_any]
    refine ite2 (fun z => ?_) (fun z => ?_)
    · refine iteT (q0 ?_ _ s1)
      unfold polyOf
      rw [if_neg nz, if_neg fun y => items_some hrun z (poly_rev.mp y).1]
    have z : ((itemsL (tl x)).map itemL).any Option.isNone = false := by simpa using z
    obtain ⟨ie, ig⟩ := items_all hrun z
    rw [ie] at ov
    have pt := OptVs.pt ov
    generalize hps : (itemsL (tl x)).map pairP = ps at ie ig pt ov
    have lps : ps.length = vs.length := by rw [← hps, List.length_map]; omega
    have eP : polyOf (tl x) = if isPolyD (polyD ps.reverse) = true then some ps.reverse else none := by unfold polyOf; rw [if_neg nz, hps]
    refine ⟨_, rfl, D, vs, rfl, .inl (SqL.of eD), _, _, rfl, rfl, _, rfl, by omega, by omega, fun D2 hD2 => ?_⟩
    have nDD : D ≠ D2 := ne_of_none eD hD2
    have goes : ∀ i, i + 1 < ps.length → ∃ t1 t2, vs[i]? = some (.ref t1) ∧ vs[i + 1]? = some (.ref t2) ∧ H1 t1 = some (.tup [.int (ps.getD i (0, 0)).1, .int (ps.getD i (0, 0)).2]) ∧ H1 t2 = some (.tup [.int (ps.getD (i + 1) (0, 0)).1, .int (ps.getD (i + 1) (0, 0)).2]) := fun i hi => by
      have g1 : vs[i]? = some vs[i] := List.getElem?_eq_getElem (by omega)
      have g2 : vs[i + 1]? = some vs[i + 1] := List.getElem?_eq_getElem (by omega)
      obtain ⟨t1, y1, h1, p1, e1⟩ := PT.get pt g1
      obtain ⟨t2, y2, h2, p2, e2⟩ := PT.get pt g2
      refine ⟨t1, t2, by rw [g1, h1], by rw [g2, h2], ?_, ?_⟩
      · rw [List.getD_eq_getElem?_getD, p1]; exact e1
      · rw [List.getD_eq_getElem?_getD, p2]; exact e2
    refine lc_range (lo := 0) (n := ((vs.length : Int) - 1).toNat) (fun i H2 => ∃ ws, H2 = upd H1 D2 (.lst ws) ∧ ws.length ≤ i ∧ ws.isEmpty = (List.range i).all fun j => decide ((ps.getD (j + 1) (0, 0)).1 < (ps.getD j (0, 0)).1)) ⟨[], rfl, Nat.le_refl _, rfl⟩ ?_ ?_
    · rintro i H2 hi ⟨ws, rfl, lw, ew⟩
      obtain ⟨t1, t2, v1, v2, h1, h2⟩ := goes i (by omega)
      refine ⟨rfl, ?_⟩
      have n1 := (upd_ne (o := .lst ws) (ne_of_none h1 hD2)).trans h1
      have n2 := (upd_ne (o := .lst ws) (ne_of_none h2 hD2)).trans h2
      have n3 := (upd_ne (o := .lst ws) nDD).trans eD
      refine ⟨_, rfl, _, rfl, D, vs, _, .ref t1, rfl, rfl, SqL.of n3, by rw [Int.zero_add]; exact atI_nat v1, t1, _, 0, .int (ps.getD i (0, 0)).1, rfl, rfl, SqT.of n1, atI_nat (j := 0) rfl, _, rfl, _, rfl, ?_⟩
      refine ⟨_, _, rfl, rfl, D, vs, _, .ref t2, rfl, rfl, SqL.of n3, ?_, t2, _, 0, .int (ps.getD (i + 1) (0, 0)).1, rfl, rfl, SqT.of n2, atI_nat (j := 0) rfl, _, _, rfl, rfl, _, rfl, ?_⟩
      · have e : (0 + (i : Int) + 1) = ((i + 1 : Nat) : Int) := by omega
        rw [e]
        exact atI_nat v2
      have nx : ((List.range (i + 1)).all fun j => decide ((ps.getD (j + 1) (0, 0)).1 < (ps.getD j (0, 0)).1)) = (ws.isEmpty && decide ((ps.getD (i + 1) (0, 0)).1 < (ps.getD i (0, 0)).1)) := by
        rw [List.range_succ, List.all_append, ew]
        simp
      refine ite2 (fun z => ?_) (fun z => ?_)
      · have z : (ps.getD i (0, 0)).1 ≤ (ps.getD (i + 1) (0, 0)).1 := of_decide_eq_true z
        exact ⟨_, rfl, ws, upd_same, sl_lt (by omega), ws ++ [.int (0 + (i : Int))], by rw [upd_upd], by rw [List.length_append]; show ws.length + 1 ≤ _; omega, by rw [nx, decide_eq_false (by omega), Bool.and_false]; simp⟩
      · have z : ¬ (ps.getD i (0, 0)).1 ≤ (ps.getD (i + 1) (0, 0)).1 := fun y => z (decide_eq_true y)
        exact ⟨ws, rfl, by omega, by rw [nx, decide_eq_true (show (ps.getD (i + 1) (0, 0)).1 < (ps.getD i (0, 0)).1 by omega), Bool.and_true]⟩
    rintro H2 ⟨ws, rfl, lw, ew⟩
    refine ⟨Nat.zero_le _, fun e he => ?_⟩
    have sE := (same_new hD2 (.lst ws)).trans (same_new he (.lst []))
    have nDe : D2 ≠ e := ne_of_none upd_same he
    refine ⟨D2, e, ws, rfl, rfl, SqL.of ((upd_ne nDe).trans upd_same), SqL.of upd_same, _, rfl, ?_⟩
    have asc : ws.isEmpty = true ↔ desc ps := by
      rw [ew, List.all_eq_true]
      constructor
      · intro h i hi
        have := of_decide_eq_true (h i (List.mem_range.mpr (by omega)))
        rwa [List.getD_eq_getElem?_getD, List.getD_eq_getElem?_getD, List.getElem?_eq_getElem (show i < ps.length by omega), List.getElem?_eq_getElem hi] at this
      · intro h i hi
        have hi := List.mem_range.mp hi
        have h1 : i + 1 < ps.length := by omega
        refine decide_eq_true ?_
        rw [List.getD_eq_getElem?_getD, List.getD_eq_getElem?_getD, List.getElem?_eq_getElem (show i < ps.length by omega), List.getElem?_eq_getElem h1]
        exact h i h1
    have s2 := s1.trans sE
    refine ite2 (fun z => ?_) (fun z => ?_)
    · refine q0 ?_ _ s2
      rw [eP, if_neg fun y => ?_]
      have := asc.mpr (poly_rev.mp y).2
      rw [this] at z
      cases z
    · have z : ws.isEmpty = true := by simpa using z
      have e2 := eP.trans (if_pos (poly_rev.mpr ⟨ig, asc.mp z⟩))
      refine ⟨_, rfl, D, vs, rfl, SqL.of (sE _ _ eD), fun r hr0 => ⟨r, vs.reverse, rfl, .inl ⟨SqL.of upd_same, fun b hb => ?_⟩⟩⟩
      have sF := (same_new hr0 (.lst vs.reverse)).trans (same_new hb (.tup vs.reverse))
      exact q _ e2 _ b (s2.trans sF) ⟨vs.reverse, upd_same, PT.rev (PT.sm (Same.sm (sE.trans sF)) pt)⟩
end
end Zk

set_option maxHeartbeats 1000000
set_option exponentiation.threshold 2000
/-! L9: _law_told. -/
namespace Zk
open PySem PySem.Spec PyProof.Rows L2 GxR TL RT
open PySem.W (findIn subIn typeIn keepIn excTail kitOne kitAny exmOne clsIn)
abbrev sTold : Stmt := top 30
def toldD : PyData → PyData
  | .str x => match polyOf (tl x) with
    | none => .tuple [.str "wrong", .int 1]
    | some ps => .tuple [.str "poly", polyD ps]
  | _ => .tuple [.str "wrong", .int 0]
def spTold (Ta : List Addr) : Sp := fun vs H Q _ => ∃ (v : V) (d : PyData) (i : Int), vs = [v, .int i] ∧ Sd H v d ∧ Tb Ta H ∧ (∀ x, d = .str x → x.length ≤ 400) ∧ ∀ H' b, Sm H H' → Tb Ta H' → Sd H' b (toldD d) → Q b H'
/-- what a call of poly_read that may raise needs -/
structure CallX (P : Program) (w : World) (K : PySem.W.Frag) (mg : Str → Option Value) (base : Heap) (x : Str) (k : Nat) (ps : List Str) (sp : Sp) : Prop where
  ex : ∃ f fd, FnOk P w K mg base (L2.CX P w) k f fd ps sp ∧ Binds K fd ps [] ∧ KBinds K fd ps ps kg1 kv1 ∧ PySem.W.keepIn K (.ref f) = true ∧ mg x = some (.ref f)
def tsT (C : Addr) (a : Addr) (cls : Value) (d : Option Addr) : TS := fun D σ H => ∃ v, σ[2]? = some (some (.ref a)) ∧ cls = .ref C ∧ XdF H "at" v d ∧ ∀ t H', Same H H' → H' t = some (.tup [.str "wrong", v]) → D.rt (.ref t) H'
section
variable {P : Program} {w : World} {K : PySem.W.Frag} {mg : Str → Option Value} {base : Heap} {f c pt B C : Addr} {fd : FuncData} {Ta : List Addr}
theorem scTold : FnScope ["text", "way", "e"] ["text", "way"] (defScope sTold) := ⟨rfl, rfl, rfl, by decide +kernel, rfl, by decide +kernel, by decide +kernel⟩
theorem ok_told (F : Fun K "_law_told" "_law_told" sTold f fd) (T : Blt2 mg) (O : BaseC K mg "PlayError" B) (GK : ClsG K) (G : ErrM' P w K mg base B "BadText" "at" C) (C1 : CallX P w K mg base "poly_read" 6 ["text"] (spPRead Ta C)) : FnOk P w K mg base CX0 7 f fd ["text", "way"] (spTold Ta) := by
  obtain ⟨g1, d1, G1, b1, kb1, k1, m1⟩ := C1.ex
  refine F.ok scTold (fun vs H Q E h => ?_) (fun cdv A outer s H vs Q E hr h => ?_)
  · obtain ⟨v, d, i, rfl, _⟩ := h
    rfl
  obtain ⟨v, d, i, rfl, sd, tb, hl, q⟩ := h
  have neB : ¬ ("BadText" : Str) = "PlayError" := by decide +kernel
  refine ⟨_, pss_one (ps_try_all (i := 2) (l := [(Value.ref C, tsT C)]) (tb := fun W => tRet (tTup (tCons (tC (.str "poly")) (tCons (tIf (tTest (tOp rEq (tVar 1) (tC (.int 0)))) (tCallS (spPRead Ta C) (WE W) (tCons (tVar 0) tNil)) (tCallKS (spPRead Ta C) kv1 (WE W) (tCons (tVar 0) tNil))) tNil)))) (Wout := fun _ _ _ _ => False) rfl rfl scTold.nd rfl rfl takes0
    (fun W pn xe tk _ => pss_one (ps_ret (pe_tup (pa_cons pe_str (pa_cons (pe_ifExp (pt_cmpR op_eq (pv 1) pe_int (nomark _)) (by exact pe_callS G1 hr (by rfl) m1 k1 b1 (fun σ => passAt tk σ) (by exact pa_cons (pv 0) pa_nil)) (by exact pe_callKS G1 hr (by rfl) m1 k1 kb1 (fun σ => passAt tk σ) (by exact pk_cons (pv 0) pk_nil))) pa_nil)))))
    (.cons ⟨by rfl, by decide +kernel, .inl G.err.gC⟩ (fun a oe cls d pn hz hf => ⟨fun pins s σ H D I h => (pss_one (ps_ret (pe_ifExp (pt_val (pe_callB (call_isPn (pp := (a, oe)) List.mem_cons_self) (by rfl) T.isinstance PyProof.Rows.boot_isinstance (pa_cons (pv 2) (pa_cons (pe_glob (v := .ref B) (by rfl) O.gB (show Value.ref B = Value.ref B from rfl)) pa_nil)))) (pe_tup (pa_cons pe_str (pa_cons (pe_xf G.err.own.xf' G.no hz hf (pv 2)) pa_nil))) (pe_tup (pa_cons pe_str (pa_cons pe_non pa_nil)))))).run pins s σ H D I ?suite⟩) .nil)), ?_⟩
  case suite =>
    obtain ⟨v, hv, e, ⟨dd, e1, e2⟩, q⟩ := h
    refine ⟨_, hv, C, _, _, true, rfl, ClsV.own _, G.err.own, GK, hz.1.trans e, hf, .inr ⟨dd, _, hz.2.trans e1, e2⟩, kit_base G.err O neB, _, rfl, iteT ?_⟩
    exact ⟨_, hv, rfl, e, dd, _, v, e1, e2, by simp [List.lookup], (by show 2 ≤ sizeLine; decide), fun t ht => q t _ (same_new ht _) upd_same⟩
  have core : ∀ {Q' : VK} {E' : XK}, (∀ H' y ps, (∃ x, d = .str x ∧ polyOf (tl x) = some ps) → Sm H H' → Tb Ta H' → PolyAt H' y ps → Q' (.ref y) H') → (∀ H' dd n, toldD d = .tuple [.str "wrong", .int n] → Sm H H' → Tb Ta H' → XdF H' "at" (.int n) dd → E' (.ref C) dd H') → spPRead Ta C [v] H Q' E' := fun {Q' E'} h1 h2 =>
    ⟨v, d, rfl, sd, tb, hl, fun z dd H' s t x => h2 H' dd 0 (by cases d <;> first | rfl | cases z) s t x, fun x e hn dd H' s t y => h2 H' dd 1 (by rw [e]; simp only [toldD, hn]) s t y, fun x e ps hp H' b s t y => h1 H' b ps ⟨x, e, hp⟩ s t y⟩
  have good : ∀ H' y ps, (∃ x, d = .str x ∧ polyOf (tl x) = some ps) → Sm H H' → Tb Ta H' → PolyAt H' y ps → 2 ≤ sizeLine ∧ ∀ p, H' p = none → Q (.ref p) (upd H' p (.tup [.str "poly", .ref y])) := fun H' y ps ⟨x, e, hp⟩ s t pa => by
    refine ⟨by decide, fun p hp2 => ?_⟩
    have sn := same_new hp2 (.tup [.str "poly", .ref y])
    refine q _ _ (s.trans (Same.sm sn)) (t.same sn) ?_
    rw [e]
    simp only [toldD, hp]
    exact .tup upd_same (.cons (.str _) (.cons (pa.sm (Same.sm sn)).sd .nil))
  have bad : ∀ H' dd n, toldD d = .tuple [.str "wrong", .int n] → Sm H H' → Tb Ta H' → XdF H' "at" (.int n) dd → wAll K 2 (fun _ _ _ _ => False) { nx := fun _ H' => Q .non H', rt := Q } [(Value.ref C, tsT C)] (.ref C) dd [some v, some (.int i), none] H' := fun H' dd n e s t x => by
    refine ⟨true, exm_self G.err, fun _ a na => ?_, fun z => Bool.noConfusion z⟩
    refine ⟨.int n, rfl, rfl, x, fun t2 H2 s2 e2 => ?_⟩
    refine q H2 (.ref t2) (s.trans (Same.sm s2)) (t.same s2) ?_
    rw [e]
    exact .tup e2 (.cons (.str _) (.cons (.int _) .nil))
  refine ⟨_, rfl, rfl, _, rfl, ?_⟩
  refine ite2 (fun z => ?_) (fun z => ?_)
  · refine ⟨_, rfl, ?_⟩
    dsimp only [tNil, kv1]
    refine core ?_ ?_
    · exact good
    · exact bad
  · refine ⟨_, rfl, ?_⟩
    dsimp only [tNil, kv1]
    refine core ?_ ?_
    · exact good
    · exact bad
end
end Zk

set_option maxHeartbeats 1000000
set_option exponentiation.threshold 2000
/-! La: _law_bent_text. -/
namespace Zk
open PySem PySem.Spec PyProof.Rows L2 GxR TL RT
abbrev sBentT : Stmt := top 31
def signs16 : List Str := ["1", "0", "n", "*", "^", " ", "+", " + ", "1*", "^1", "0*", "-", "n^2 + ", "N", "9", "_"]
def ends5 : List Str := [" + 0", " + 1", " + n", " ", "\n"]
theorem signs_ok {y : Str} (h : y ∈ signs16) : y.length ≤ 6 ∧ dgs (tl y) ≤ 1 := by
  simp only [signs16, List.mem_cons, List.not_mem_nil, or_false] at h
  rcases h with rfl | rfl | rfl | rfl | rfl | rfl | rfl | rfl | rfl | rfl | rfl | rfl | rfl | rfl | rfl | rfl <;> exact ⟨by decide +kernel, by decide +kernel⟩
theorem ends_ok {y : Str} (h : y ∈ ends5) : y.length ≤ 6 ∧ dgs (tl y) ≤ 1 := by
  simp only [ends5, List.mem_cons, List.not_mem_nil, or_false] at h
  rcases h with rfl | rfl | rfl | rfl | rfl <;> exact ⟨by decide +kernel, by decide +kernel⟩
theorem tl_take (x : Str) (k : Nat) : tl (cutS x none (some (k : Int))) = (tl x).take k := by
  show (((tl x).drop (HT.sIx x.length 0 none)).take (HT.sIx x.length x.length (some (k : Int)) - HT.sIx x.length 0 none)) = _
  rw [HT.sIx_none, HT.sIx_nat, List.drop_zero, Nat.sub_zero, len_tl]
  by_cases z : k ≤ (tl x).length
  · rw [Nat.min_eq_left z]
  · rw [Nat.min_eq_right (by omega), List.take_of_length_le (Nat.le_refl _), List.take_of_length_le (by omega)]
theorem W.ins' {j b : Nat} {l s : List Nat} (k : Nat) (h : W j b l) (hs : dgs s ≤ 1) : W j (b + 1) (l.take k ++ (s ++ l.drop k)) := W.ins (by rw [List.take_append_drop]; exact h) hs
theorem W.del' {j b : Nat} {l : List Nat} (k : Nat) (h : W (j + 1) b l) : W j b (l.take k ++ l.drop (k + 1)) := by
  by_cases z : k < l.length
  · have e : l = l.take k ++ l[k] :: l.drop (k + 1) := by
      rw [List.getElem_cons_drop z, List.take_append_drop]
    rw [e] at h
    exact h.del
  · rw [List.take_of_length_le (by omega), List.drop_of_length_le (by omega), List.append_nil]
    exact h.mono (by omega) (Nat.le_refl _)
theorem joinL_len {s : List Nat} : ∀ {ps : List (List Nat)}, ps ≠ [] → (joinL s ps).length + s.length = (ps.map (·.length)).sum + ps.length * s.length
  | [], h => absurd rfl h
  | [p], _ => by simp [joinL]
  | p :: q :: r, _ => by
    have ih := joinL_len (s := s) (ps := q :: r) (by simp)
    show (p ++ (s ++ joinL s (q :: r))).length + s.length = _
    rw [List.length_append, List.length_append, List.map_cons, List.sum_cons, List.length_cons, Nat.succ_mul]
    omega
theorem joinL_rev_len {s : List Nat} (ps : List (List Nat)) : (joinL s ps.reverse).length = (joinL s ps).length := by
  by_cases h : ps = []
  · subst h; rfl
  · have h1 := joinL_len (s := s) h
    have h2 := joinL_len (s := s) (ps := ps.reverse) (by simpa using h)
    rw [List.map_reverse, List.sum_reverse, List.length_reverse] at h2
    omega
/-- the items turned -/
theorem turned (x : Str) : tl (Txt.join " + " (Txt.split x " + ").reverse) = joinL sepL (itemsL (tl x)).reverse := by
  have es : tl (" + " : Str) = sepL := by decide +kernel
  have sp : (Txt.split x " + ").map tl = itemsL (tl x) := by
    have := split_spl x " + " (by rw [es]; decide) (kind_ok (by decide +kernel))
    rw [es] at this
    exact this
  show tl (Builtin.Str.glued " + " _) = _
  rw [StrLaws.glued_eq_join, tl_join, es, List.map_reverse, sp]
theorem turned_len (x : Str) : (Txt.join " + " (Txt.split x " + ").reverse).length = x.length := by
  rw [len_tl, turned, joinL_rev_len, items_join, len_tl]
/-- _law_bent_text(deck, text) -/
def spBentT : Sp := fun vs H Q _ => ∃ (H0 : Hp) (dk lf : Addr) (B : Nat) (x : Str), vs = [.ref dk, .str x] ∧ DeckAt H0 H dk lf B ∧ B + 4 < 2 ^ 59 ∧ x.length ≤ 300 ∧
  ∀ (y : Str) H0' H', Grow dk lf H0 H H0' H' → DeckAt H0' H' dk lf (B + 4) → y.length ≤ x.length + 6 → (∀ j b, j ≤ 2 → W (j + 1) b (tl x) → W j (b + 1) (tl y)) → Q (.str y) H'
section
variable {P : Program} {w : World} {K : PySem.W.Frag} {mg : Str → Option Value} {base : Heap} {f : Addr} {fd : FuncData}
theorem scBentT : FnScope ["deck", "text", "at", "way", "sign"] ["deck", "text"] (defScope sBentT) := ⟨rfl, rfl, rfl, by decide +kernel, rfl, by decide +kernel, by decide +kernel⟩
theorem ok_bentT (F : Fun K "_law_bent_text" "_law_bent_text" sBentT f fd) (T : Blt2 mg) (C1 : Call1 P w K mg base "_law_draw" 1 ["deck", "many"] spDraw) (C2 : Call1 P w K mg base "_law_pick" 2 ["deck", "some"] spPick) : FnOk P w K mg base CX0 3 f fd ["deck", "text"] spBentT := by
  obtain ⟨f1, d1, G1, b1, k1, m1⟩ := C1.ex
  obtain ⟨f2, d2, G2, b2, k2, m2⟩ := C2.ex
  refine F.ok scBentT (fun vs H Q E h => ?_) (fun cdv A outer s H vs Q E hr h => ?_)
  · obtain ⟨H0, dk, lf, B, x, rfl, _⟩ := h
    rfl
  obtain ⟨H0, dk, lf, B, x, rfl, hD, hB, hl, q⟩ := h
  have hr1 : Room 1 _ := hr.mono (by omega)
  have hr2 : Room 2 _ := hr.mono (by omega)
  refine ⟨_, pss_cons (ps_par (i := 2) (j := 3) rfl scBentT.nd rfl rfl (by decide) rfl rfl (pa_cons (pe_call G1 hr1 rfl m1 k1 b1 .nil pass0 (pa_cons (pv 0) (pa_cons (pe_op op_add (pe_callB call_len_str (by rfl) T.len PySem.boot_len (pa_cons (pv 1) pa_nil)) pe_int) pa_nil))) (pa_cons (pe_call G1 hr1 rfl m1 k1 b1 .nil pass0 (pa_cons (pv 0) (pa_cons pe_int pa_nil))) pa_nil)) rfl)
    (pss_cons (ps_set (i := 4) scBentT.nd rfl (Or.inl rfl) (pe_call G2 hr2 rfl m2 k2 b2 .nil pass0 (pa_cons (pv 0) (pa_cons (pe_lst (pa_cons pe_str (pa_cons pe_str (pa_cons pe_str (pa_cons pe_str (pa_cons pe_str (pa_cons pe_str (pa_cons pe_str (pa_cons pe_str (pa_cons pe_str (pa_cons pe_str (pa_cons pe_str (pa_cons pe_str (pa_cons pe_str (pa_cons pe_str (pa_cons pe_str (pa_cons pe_str pa_nil))))))))))))))))) pa_nil))))
    (pss_cons (ps_if (pt_cmpR op_eq (pv 3) pe_int (nomark _)) (pss_one (ps_ret (pe_op op_add_str (pe_slice sl_str (pv 1) po_none (po_some (pv 2))) (pe_slice sl_str (pv 1) (po_some (pe_op op_add (pv 2) pe_int)) po_none)))) pss_nil)
    (pss_cons (ps_if (pt_cmpR op_eq (pv 3) pe_int (nomark _)) (pss_one (ps_ret (pe_op op_add_str (pe_op op_add_str (pe_slice sl_str (pv 1) po_none (po_some (pv 2))) (pv 4)) (pe_slice sl_str (pv 1) (po_some (pe_op op_add (pv 2) pe_int)) po_none)))) pss_nil)
    (pss_cons (ps_if (pt_cmpR op_eq (pv 3) pe_int (nomark _)) (pss_one (ps_ret (pe_join pe_str (pe_revL (pe_split (pv 1) pe_str))))) pss_nil)
    (pss_cons (ps_if (pt_cmpR op_eq (pv 3) pe_int (nomark _)) (pss_one (ps_ret (pe_slice sl_str (pv 1) po_none (po_some (pv 2))))) pss_nil)
    (pss_cons (ps_if (pt_cmpR op_eq (pv 3) pe_int (nomark _)) (pss_one (ps_ret (pe_op op_add_str (pv 1) (pe_call G2 hr2 rfl m2 k2 b2 .nil pass0 (pa_cons (pv 0) (pa_cons (pe_lst (pa_cons pe_str (pa_cons pe_str (pa_cons pe_str (pa_cons pe_str (pa_cons pe_str pa_nil)))))) pa_nil)))))) pss_nil)
    (pss_one (ps_ret (pe_op op_add_str (pe_op op_add_str (pe_slice sl_str (pv 1) po_none (po_some (pv 2))) (pv 4)) (pe_slice sl_str (pv 1) (po_some (pv 2)) po_none)))))))))), ?_⟩
  refine ⟨_, rfl, _, rfl, x, rfl, sl_small (by omega), _, _, rfl, rfl, H0, dk, lf, B, (x.length : Int) + 1, rfl, hD, by omega, by omega, by omega, fun at' H1 a0 a1 g1 D1 => ?_⟩
  refine ⟨_, rfl, H0, dk, lf, B + 1, 8, rfl, D1, by omega, by decide, by decide, fun way H2 w0 w1 g2 D2 => ?_⟩
  refine ⟨_, _, rfl, ?_⟩
  refine ⟨_, rfl, (by show 16 ≤ sizeLine; decide), fun l hl0 => ?_⟩
  have gl := Grow.drop (dk := dk) (lf := lf) (H0 := H0) hl0 (o := .lst (signs16.map V.str))
  have Dx := D2.drop hl0 (o := .lst (signs16.map V.str))
  refine ⟨H0, dk, lf, l, B + 1 + 1, signs16.map V.str, rfl, Dx, by omega, upd_same, (D2.ned hl0).symm, (D2.nel hl0).symm, by decide, by decide, fun v H3 hv g3 D3 => ?_⟩
  obtain ⟨y, hya, rfl⟩ := List.mem_map.mp hv
  obtain ⟨y1, y2⟩ := signs_ok hya
  have gA := (((g1.trans hD D1 g2).trans hD D2 gl).trans hD Dx g3)
  clear gl Dx hv g3 g2 g1 D1 hl0 D2
  obtain ⟨k, rfl⟩ : ∃ k : Nat, at' = (k : Int) := ⟨at'.toNat, by omega⟩
  have fin := fun (z : Str) H' (gz : Grow dk lf H0 H H0 H') (Dz : DeckAt H0 H' dk lf (B + 1 + 1 + 1)) hz hw => q z H0 H' gz (Dz.mono (by omega)) hz hw
  have c1 := cutS_length x none (some (k : Int))
  have c2 := cutS_length x (some (k : Int)) none
  have c3 := cutS_length x (some ((k : Int) + 1)) none
  have e3 : tl (cutS x (some ((k : Int) + 1)) none) = (tl x).drop (k + 1) := tl_drop x (k + 1)
  have lx := len_tl x
  have lt1 : (cutS x none (some (k : Int))).length = min k x.length := by rw [len_tl, tl_take, List.length_take, lx]
  have lt2 : (cutS x (some (k : Int)) none).length = x.length - k := by rw [len_tl, tl_drop, List.length_drop, lx]
  have lt3 : (cutS x (some ((k : Int) + 1)) none).length = x.length - (k + 1) := by rw [len_tl, e3, List.length_drop, lx]
  refine ⟨_, rfl, rfl, _, rfl, ?_⟩
  refine ite2 (fun z => ?_) (fun z => ?_)
  · refine ⟨_, rfl, _, rfl, _, rfl, x, rfl, sl_small (by omega), _, rfl, _, rfl, _, _, rfl, rfl, _, rfl, x, rfl, sl_small (by omega), _, _, rfl, rfl, sl_small (by omega), ?_⟩
    refine fin _ H3 gA D3 (by rw [Str.length_append]; omega) fun j b hj hw => ?_
    rw [tl_append, tl_take, e3]
    exact (W.del' k hw).mono (Nat.le_refl _) (by omega)
  refine ⟨_, rfl, rfl, _, rfl, ?_⟩
  refine ite2 (fun z => ?_) (fun z => ?_)
  · refine ⟨_, rfl, _, rfl, _, rfl, x, rfl, sl_small (by omega), _, rfl, _, _, rfl, rfl, sl_small (by omega), _, rfl, _, rfl, _, _, rfl, rfl, _, rfl, x, rfl, sl_small (by omega), _, _, rfl, rfl, sl_small (by rw [Str.length_append]; omega), ?_⟩
    refine fin _ H3 gA D3 (by rw [Str.length_append, Str.length_append]; omega) fun j b hj hw => ?_
    rw [tl_append, tl_append, tl_take, e3, List.append_assoc]
    exact W.ins (W.del' k hw) y2
  refine ⟨_, rfl, rfl, _, rfl, ?_⟩
  refine ite2 (fun z => ?_) (fun z => ?_)
  · have es : tl (" + " : Str) = sepL := by decide +kernel
    have sp : (Txt.split x " + ").map tl = itemsL (tl x) := by
      have := split_spl x " + " (by rw [es]; decide) (kind_ok (by decide +kernel))
      rw [es] at this
      exact this
    have li : (Txt.split x " + ").length ≤ 301 := by
      have e1 := congrArg List.length sp
      rw [List.length_map] at e1
      have := items_len (tl x).length (tl x) [] 0 (Nat.le_refl _)
      have e2 : (itemsL (tl x)).length ≤ (tl x).length + 1 := this
      omega
    refine ⟨⟨_, rfl⟩, _, rfl, ⟨_, rfl⟩, x, " + ", rfl, rfl, by decide +kernel, by rw [sizeLine_eq]; omega, fun l hl0 => ?_⟩
    refine ⟨l, _, rfl, SqL.of upd_same, fun r hr0 => ⟨" + ", r, (Txt.split x " + ").reverse, rfl, rfl, .inl (SqL.of ?_), ?_, ?_⟩⟩
    · rw [upd_same, List.map_reverse]
    · have h1 := sum_le (k := 300) (ys := ((Txt.split x " + ").reverse).map (·.length)) fun n hn => by
        obtain ⟨p, hp, rfl⟩ := List.mem_map.mp hn
        have hp2 : tl p ∈ itemsL (tl x) := by rw [← sp]; exact List.mem_map.mpr ⟨p, List.mem_reverse.mp hp, rfl⟩
        have := inf_len (items_inf hp2)
        rw [len_tl]
        omega
      simp only [List.length_map, List.length_reverse] at h1 ⊢
      have e3 : (" + " : Str).length = 3 := by decide +kernel
      rw [e3]
      have : (Txt.split x " + ").length * 300 ≤ 301 * 300 := Nat.mul_le_mul_right _ li
      omega
    · refine fin _ _ ((gA.trans hD D3 (Grow.drop hl0)).trans hD (D3.drop hl0) (Grow.drop hr0)) ((D3.drop hl0).drop hr0) (by rw [turned_len]; omega) fun j b hj hw => ?_
      rw [turned]
      exact (W_turn (by rw [items_join]; exact hw.mono (by omega) (Nat.le_refl _)) hj).mono (Nat.le_refl _) (by omega)
  refine ⟨_, rfl, rfl, _, rfl, ?_⟩
  refine ite2 (fun z => ?_) (fun z => ?_)
  · refine ⟨_, rfl, _, rfl, _, rfl, x, rfl, sl_small (by omega), ?_⟩
    refine fin _ H3 gA D3 (by omega) fun j b hj hw => ?_
    rw [tl_take]
    exact (hw.inf (List.take_prefix _ _).isInfix).mono (by omega) (by omega)
  refine ⟨_, rfl, rfl, _, rfl, ?_⟩
  refine ite2 (fun z => ?_) (fun z => ?_)
  · refine ⟨_, rfl, _, rfl, (by show 5 ≤ sizeLine; decide), fun l hl0 => ?_⟩
    have gl := Grow.drop (dk := dk) (lf := lf) (H0 := H0) hl0 (o := .lst (ends5.map V.str))
    have Dx := D3.drop hl0 (o := .lst (ends5.map V.str))
    refine ⟨H0, dk, lf, l, B + 1 + 1 + 1, ends5.map V.str, rfl, Dx, by omega, upd_same, (D3.ned hl0).symm, (D3.nel hl0).symm, by decide, by decide, fun v H4 hv g4 D4 => ?_⟩
    obtain ⟨u, hua, rfl⟩ := List.mem_map.mp hv
    obtain ⟨u1, u2⟩ := ends_ok hua
    refine ⟨_, _, rfl, rfl, sl_small (by omega), ?_⟩
    refine q _ H0 H4 ((gA.trans hD D3 gl).trans hD Dx g4) D4 (by rw [Str.length_append]; omega) fun j b hj hw => ?_
    rw [tl_append]
    have := W.ins' (s := tl u) (tl x).length (hw.mono (show j ≤ j + 1 by omega) (Nat.le_refl _)) u2
    rwa [List.take_length, List.drop_length, List.append_nil] at this
  · refine ⟨_, rfl, _, rfl, _, rfl, x, rfl, sl_small (by omega), _, rfl, _, _, rfl, rfl, sl_small (by omega), _, rfl, _, rfl, _, rfl, x, rfl, sl_small (by omega), _, _, rfl, rfl, sl_small (by rw [Str.length_append]; omega), ?_⟩
    refine fin _ H3 gA D3 (by rw [Str.length_append, Str.length_append]; omega) fun j b hj hw => ?_
    rw [tl_append, tl_append, tl_take, tl_drop, List.append_assoc]
    exact W.ins' k (hw.mono (by omega) (Nat.le_refl _)) y2
end
end Zk

set_option maxHeartbeats 1000000
set_option exponentiation.threshold 2000
/-! Lb: the texts of polynomials are read back. -/
namespace Zk
open PySem PySem.Spec PyProof.Rows L2 GxR TL RT
theorem tl_nT {i : Int} (h : 0 ≤ i) : tl (nT i) = dg i.toNat := by
  obtain ⟨m, rfl⟩ := Int.eq_ofNat_of_zero_le h
  exact PySem.W.KIN.signs_num m
theorem tl_powT {e : Int} (h : 1 ≤ e) : tl (powT e) = powS e.toNat := by
  have eN : tl ("n" : Str) = [110] := by decide +kernel
  have eP : tl ("n^" : Str) = [110, 94] := by decide +kernel
  unfold powT powS
  by_cases z : e = 1
  · rw [if_pos z, if_pos (by omega), eN]
  · rw [if_neg z, if_neg (by omega), tl_append, eP, tl_nT (by omega)]
    rfl
theorem tl_pairT {x : IQ} (h0 : 0 ≤ x.1) (h1 : 1 ≤ x.2) : tl (pairT x) = pairS x.1.toNat x.2.toNat := by
  have eS : tl ("*" : Str) = [42] := by decide +kernel
  unfold pairT pairS
  by_cases z : x.1 = 0
  · rw [if_pos z, if_pos (by omega), tl_nT (by omega)]
  · rw [if_neg z, if_neg (show ¬ x.1.toNat = 0 by omega)]
    by_cases y : x.2 = 1
    · rw [if_pos y, if_pos (show x.2.toNat = 1 by omega), tl_powT (by omega)]
    · rw [if_neg y, if_neg (show ¬ x.2.toNat = 1 by omega), tl_append, tl_append, tl_nT (by omega), tl_powT (by omega), eS]
      simp
theorem tl_joinT (l : List Str) : tl (Txt.join " + " l) = joinL sepL (l.map tl) := by
  have es : tl (" + " : Str) = sepL := by decide +kernel
  show tl (Builtin.Str.glued " + " _) = _
  rw [StrLaws.glued_eq_join, tl_join, es]
def pairN (x : IQ) : List Nat := pairS x.1.toNat x.2.toNat
theorem tl_polyT {p : List IQ} (h : p ≠ []) (hg : ∀ x ∈ p, 0 ≤ x.1 ∧ 1 ≤ x.2) : tl (polyT p) = joinL sepL (p.reverse.map pairN) := by
  unfold polyT
  rw [if_neg h, tl_joinT, List.map_map]
  congr 1
  exact List.map_congr_left fun x hx => by
    obtain ⟨a, b⟩ := hg x (List.mem_reverse.mp hx)
    exact tl_pairT a b
theorem good_pos {m c : Int} {p : List IQ} (hg : Good m c p) : ∀ x ∈ p, 0 ≤ x.1 ∧ 1 ≤ x.2 := fun x hx => by
  obtain ⟨a, _, b, _⟩ := hg.all x hx
  exact ⟨a, b⟩
theorem items_polyT {p : List IQ} (h : p ≠ []) (hg : ∀ x ∈ p, 0 ≤ x.1 ∧ 1 ≤ x.2) : itemsL (tl (polyT p)) = p.reverse.map pairN := by
  rw [tl_polyT h hg]
  refine items_glued (by simpa using h) fun l hl => ?_
  obtain ⟨x, _, rfl⟩ := List.mem_map.mp hl
  exact pairS_blank _ _
theorem pairN_pair {x : IQ} (h : 0 ≤ x.1 ∧ 1 ≤ x.2) : pairP (pairN x) = x := by
  unfold pairN
  rw [pairS_pair (by omega)]
  have e1 : ((x.1.toNat : Nat) : Int) = x.1 := by omega
  have e2 : ((x.2.toNat : Nat) : Int) = x.2 := by omega
  rw [e1, e2]
theorem polyOf_polyT {m c : Int} {p : List IQ} (hg : Good m c p) : polyOf (tl (polyT p)) = some p := by
  by_cases h : p = []
  · subst h
    have e0 : tl (polyT []) = [48] := by decide +kernel
    unfold polyOf
    rw [e0, if_pos rfl]
  · have hp := good_pos hg
    have ei := items_polyT h hp
    have em : ((itemsL (tl (polyT p))).map pairP).reverse = p := by
      rw [ei, List.map_map, ← List.map_reverse, List.reverse_reverse]
      have : p.map (pairP ∘ pairN) = p.map id := List.map_congr_left fun x hx => pairN_pair (hp x hx)
      rw [this, List.map_id]
    have n0 : ¬ tl (polyT p) = [48] := fun z => by
      have e : itemsL [48] = [[48]] := by decide
      rw [z, e] at ei
      cases hr : p.reverse with
      | nil => exact h (by simpa using hr)
      | cons x r =>
        rw [hr] at ei
        injection ei with e1 _
        obtain ⟨_, b⟩ := hp x (List.mem_reverse.mp (by rw [hr]; exact List.mem_cons_self))
        exact pairS_zero (e := x.1.toNat) (c := x.2.toNat) (by omega) e1.symm
    unfold polyOf
    rw [if_neg n0, em, if_pos hg.poly]
theorem small_dgs {x : IQ} (h : 0 ≤ x.1 ∧ x.1 ≤ 12 ∧ 1 ≤ x.2 ∧ x.2 ≤ 10 ^ 12) : dgs (pairN x) ≤ 15 ∧ (pairN x).length ≤ 18 := by
  have e12 : (10 : Int) ^ 12 = 1000000000000 := by decide
  have n12 : (10 : Nat) ^ 13 = 10000000000000 := by decide
  have n2 : (10 : Nat) ^ 2 = 100 := by decide
  refine ⟨pairS_dgs (k := 2) (j := 13) (by decide) (by decide) (by omega) (by omega), ?_⟩
  have l1 := dg_len 13 x.2.toNat (by decide) (by omega)
  have l2 := dg_len 2 x.1.toNat (by decide) (by omega)
  have lp : (powS x.1.toNat).length ≤ 4 := by
    unfold powS
    split
    · decide
    · simp only [List.length_cons]; omega
  unfold pairN pairS
  split
  · omega
  · split
    · omega
    · rw [List.length_append, List.length_cons]; omega
theorem W_polyT {p : List IQ} (hg : Good 12 (10 ^ 12) p) : W 3 30 (tl (polyT p)) := by
  by_cases h : p = []
  · subst h
    have e0 : tl (polyT []) = [48] := by decide +kernel
    rw [e0]
    exact W.all (by decide)
  · rw [tl_polyT h (good_pos hg)]
    refine W_join3 (b := 15) fun l hl => ?_
    obtain ⟨x, hx, rfl⟩ := List.mem_map.mp hl
    obtain ⟨h1, h2, h3, h4⟩ := hg.all x (List.mem_reverse.mp hx)
    exact W.all (small_dgs ⟨h1, h2, h3, h4⟩).1
theorem polyT_len {p : List IQ} (hg : Good 12 (10 ^ 12) p) (hl : p.length ≤ 8) : (polyT p).length ≤ 170 := by
  by_cases h : p = []
  · subst h
    have : (polyT []).length = 1 := by decide +kernel
    omega
  · rw [len_tl, tl_polyT h (good_pos hg)]
    have h1 := joinL_len (s := sepL) (ps := p.reverse.map pairN) (by simpa using h)
    have h2 := sum_le (k := 18) (ys := (p.reverse.map pairN).map (·.length)) fun n hn => by
      obtain ⟨l, hl, rfl⟩ := List.mem_map.mp hn
      obtain ⟨x, hx, rfl⟩ := List.mem_map.mp hl
      obtain ⟨h1, h2, h3, h4⟩ := hg.all x (List.mem_reverse.mp hx)
      exact (small_dgs ⟨h1, h2, h3, h4⟩).2
    have e3 : sepL.length = 3 := rfl
    rw [e3] at h1
    simp only [List.length_map, List.length_reverse] at h1 h2
    omega
/-- a text of a polynomial, cut between two items -/
theorem polyT_cut {p : List IQ} {k : Nat} (h0 : 0 < k) (h1 : k < p.length) (hg : ∀ x ∈ p, 0 ≤ x.1 ∧ 1 ≤ x.2) : polyT (p.drop k) ++ (" + " : Str) ++ polyT (p.take k) = polyT p := by
  have es : tl (" + " : Str) = sepL := by decide +kernel
  have n0 : p ≠ [] := fun e => by rw [e] at h1; simp at h1
  have n1 : p.drop k ≠ [] := fun e => by have := congrArg List.length e; rw [List.length_drop] at this; simp at this; omega
  have n2 : p.take k ≠ [] := fun e => by
    have := congrArg List.length e
    rw [List.length_take, Nat.min_eq_left (by omega)] at this
    have : k = 0 := this
    omega
  refine ext_tl ?_
  rw [tl_append, tl_append, tl_polyT n0 hg, tl_polyT n1 (fun x hx => hg x (List.mem_of_mem_drop hx)), tl_polyT n2 (fun x hx => hg x (List.mem_of_mem_take hx)), es]
  have glue : ∀ {as bs : List (List Nat)}, as ≠ [] → bs ≠ [] → joinL sepL as ++ sepL ++ joinL sepL bs = joinL sepL (as ++ bs) := by
    intro as
    induction as with
    | nil => intro bs h _; exact absurd rfl h
    | cons a r ih =>
      intro bs _ hb
      cases r with
      | nil =>
        cases bs with
        | nil => exact absurd rfl hb
        | cons b t => show a ++ sepL ++ joinL sepL (b :: t) = a ++ (sepL ++ joinL sepL (b :: t)); rw [List.append_assoc]
      | cons c t =>
        have := ih (bs := bs) (by simp) hb
        show (a ++ (sepL ++ joinL sepL (c :: t))) ++ sepL ++ joinL sepL bs = a ++ (sepL ++ joinL sepL ((c :: t) ++ bs))
        rw [← this]
        simp
  rw [glue (by simpa using n1) (by simpa using n2), ← List.map_append, ← List.reverse_append, List.take_append_drop]
/-- a polynomial cut and summed up is itself -/
theorem acc_self : ∀ {p d : List IQ}, ((d ++ p).map (·.1)).Nodup → p.foldl (fun d x => addK d x.1 x.2) d = d ++ p
  | [], d, _ => by simp
  | x :: p, d, h => by
    have hx : ¬ (d.any fun y => decide (y.1 = x.1)) = true := fun z => by
      have := any_key.mp z
      rw [List.map_append, List.map_cons] at h
      exact (List.nodup_append.mp h).2.2 _ this _ List.mem_cons_self rfl
    have e : addK d x.1 x.2 = d ++ [x] := by unfold addK; rw [if_neg hx]
    rw [List.foldl_cons, e, acc_self (p := p) (d := d ++ [x]) (by rw [List.append_assoc]; exact h)]
    simp
theorem canon_self {p : List IQ} (h : Asc p) : Canon p p := by
  have nd : (p.map (·.1)).Nodup := List.pairwise_map.mpr (List.Pairwise.imp (fun {a b} q => by intro e; omega) h)
  have : accP p = p := acc_self (p := p) (d := []) (by simpa using nd)
  exact ⟨by rw [this], h⟩
end Zk

set_option maxHeartbeats 1000000
set_option exponentiation.threshold 2000
/-! Lc: what the law's body of k02 needs besides. -/
namespace Zk
open PySem PySem.Spec PyProof.Rows L2 GxR TL RT
/-- where nothing is raised -/
theorem fnOk_quiet {P : Program} {w : World} {K : PySem.W.Frag} {mg : Str → Option Value} {base : Heap} {k : Nat} {f : Addr} {fd : FuncData} {ps : List Str} {sp : Sp} (F : FnOk P w K mg base (L2.CX P w) k f fd ps sp) :
    FnOk P w K mg base CX0 k f fd ps (fun vs H Q _ => sp vs H Q (fun _ _ _ => False)) :=
  ⟨fun vs H Q E q => F.len vs H Q _ q, fun A outer s H args us vs Q E hr he hb hv hs => codeAny_mono (F.run A outer s H args us vs Q _ hr he hb hv hs) fun r s' z => by
    match r, z with
    | .ok (.ret u), z => exact z
    | .ok .next, z => exact z.elim
    | .ok .brk, z => exact z.elim
    | .ok .cont, z => exact z.elim
    | .error e, ⟨_, _, _, _, _, _, _, _, _, _, _, _, q⟩ => exact q.elim⟩
/-- poly_read of a text that can be read -/
def spPReadG (Ta : List Addr) : Sp := fun vs H Q _ => ∃ (x : Str) (ps : List IQ), vs = [.str x] ∧ x.length ≤ 400 ∧ Tb Ta H ∧ polyOf (tl x) = some ps ∧ ∀ H' b, Sm H H' → Tb Ta H' → PolyAt H' b ps → Q (.ref b) H'
theorem pread_good {P : Program} {w : World} {K : PySem.W.Frag} {mg : Str → Option Value} {base : Heap} {k : Nat} {f C : Addr} {fd : FuncData} {Ta : List Addr} (F : FnOk P w K mg base (L2.CX P w) k f fd ["text"] (spPRead Ta C)) : FnOk P w K mg base CX0 k f fd ["text"] (spPReadG Ta) :=
  by
  refine (fnOk_quiet F).imp fun vs H Q E h => ?_
  obtain ⟨x, ps, e, hl, tb, hp, q⟩ := h
  refine ⟨.str x, .str x, e, .str x, tb, ?_, fun z => Bool.noConfusion z, ?_, ?_⟩
  · intro y ey
    cases ey
    exact hl
  · intro y ey hn
    cases ey
    rw [hp] at hn
    cases hn
  · intro y ey ps' hp' H' b s t pa
    cases ey
    rw [hp] at hp'
    cases hp'
    exact q H' b s t pa
/-! ### what repr shows -/
def okP (p : List IQ) : Prop := p.length ≤ 20 ∧ ∀ x ∈ p, x.1.natAbs < 2 ^ 51 ∧ x.2.natAbs < 2 ^ 51
theorem fine_polyD {p : List IQ} (h : okP p) : Fine 3 80000 (polyD p) := by
  have h1 : ∀ d ∈ p.map pairD, Fine 1 3848 d := fun d hd => by
    obtain ⟨x, hx, rfl⟩ := List.mem_map.mp hd
    obtain ⟨a, b⟩ := h.2 x hx
    have := fine_tup (a := 0) (b := 1921) (ds := [.int x.1, .int x.2]) fun d hd => by
      simp only [List.mem_cons, List.not_mem_nil, or_false] at hd
      rcases hd with rfl | rfl
      · exact fine_int (log_small a)
      · exact fine_int (log_small b)
    exact this.mono (by omega) (by show 2 * (1921 + 2) + 2 ≤ 3848; omega)
  have h2 := fine_tup h1
  refine h2.mono (by omega) ?_
  rw [List.length_map]
  have := h.1
  have : p.length * (3848 + 2) ≤ 20 * 3850 := Nat.mul_le_mul_right _ h.1
  omega
theorem fine_toldW (n : Int) (h : n.natAbs < 2 ^ 51) : Fine 5 200000 (.tuple [.str "wrong", .int n]) := by
  have := fine_tup (a := 0) (b := 1921) (ds := [.str "wrong", .int n]) fun d hd => by
    simp only [List.mem_cons, List.not_mem_nil, or_false] at hd
    rcases hd with rfl | rfl
    · exact (fine_str (by decide +kernel)).mono (by omega) (by decide +kernel)
    · exact fine_int (log_small h)
  exact this.mono (by omega) (by show 2 * (1921 + 2) + 2 ≤ 200000; omega)
theorem fine_toldP {p : List IQ} (h : okP p) : Fine 5 200000 (.tuple [.str "poly", polyD p]) := by
  have := fine_tup (a := 3) (b := 80000) (ds := [.str "poly", polyD p]) fun d hd => by
    simp only [List.mem_cons, List.not_mem_nil, or_false] at hd
    rcases hd with rfl | rfl
    · exact (fine_str (by decide +kernel)).mono (by omega) (by decide +kernel)
    · exact fine_polyD h
  exact this.mono (by omega) (by show 2 * (80000 + 2) + 2 ≤ 200000; omega)
theorem fine_told2 {d e : PyData} (h : Fine 5 200000 d) (k : Fine 5 200000 e) : Fine 6 500000 (.tuple [d, e]) := by
  have := fine_tup (a := 5) (b := 200000) (ds := [d, e]) fun z hz => by
    simp only [List.mem_cons, List.not_mem_nil, or_false] at hz
    rcases hz with rfl | rfl
    · exact h
    · exact k
  exact this.mono (by omega) (by show 2 * (200000 + 2) + 2 ≤ 500000; omega)
theorem mem_joinL {s : List Nat} {c : Nat} : ∀ {ps : List (List Nat)}, c ∈ joinL s ps → c ∈ s ∨ ∃ p ∈ ps, c ∈ p
  | [], h => by cases h
  | [p], h => .inr ⟨p, List.mem_cons_self, h⟩
  | p :: q :: r, h => by
    rcases List.mem_append.mp (show c ∈ p ++ (s ++ joinL s (q :: r)) from h) with h | h
    · exact .inr ⟨p, List.mem_cons_self, h⟩
    · rcases List.mem_append.mp h with h | h
      · exact .inl h
      · rcases mem_joinL h with h | ⟨u, hu, h⟩
        · exact .inl h
        · exact .inr ⟨u, List.mem_cons_of_mem _ hu, h⟩
theorem pairN_low {x : IQ} {c : Nat} (h : c ∈ pairN x) : c < 16 ^ 8 := by
  have dl : ∀ m, c ∈ dg m → c < 16 ^ 8 := fun m hm => by
    have := of_decide_eq_true (List.all_eq_true.mp (dg_all m) c hm)
    omega
  have pl : ∀ e, c ∈ powS e → c < 16 ^ 8 := fun e he => by
    unfold powS at he
    split at he
    · rw [List.mem_singleton.mp he]; decide
    · rcases List.mem_cons.mp he with q | he
      · rw [q]; decide
      · rcases List.mem_cons.mp he with q | he
        · rw [q]; decide
        · exact dl _ he
  unfold pairN pairS at h
  split at h
  · exact dl _ h
  · split at h
    · exact pl _ h
    · rcases List.mem_append.mp h with h | h
      · exact dl _ h
      · rcases List.mem_cons.mp h with q | h
        · rw [q]; decide
        · exact pl _ h
theorem sml_polyT {p : List IQ} (hg : ∀ x ∈ p, 0 ≤ x.1 ∧ 1 ≤ x.2) : ∀ c ∈ (polyT p).cps.toList, c < 16 ^ 8 := by
  intro c hc
  have hc : c ∈ tl (polyT p) := hc
  by_cases h : p = []
  · subst h
    have e0 : tl (polyT []) = [48] := by decide +kernel
    rw [e0, List.mem_singleton] at hc
    rw [hc]; decide
  · rw [tl_polyT h hg] at hc
    rcases mem_joinL hc with h | ⟨l, hl, h⟩
    · have : ∀ c ∈ sepL, c < 16 ^ 8 := by decide
      exact this c h
    · obtain ⟨x, _, rfl⟩ := List.mem_map.mp hl
      exact pairN_low h
theorem okP_of {p : List IQ} (hg : Good 12 (10 ^ 12) p) (hl : p.length ≤ 20) : okP p := ⟨hl, fun x hx => by
  obtain ⟨h1, h2, h3, h4⟩ := hg.all x hx
  have : (10 : Int) ^ 12 = 1000000000000 := by decide
  omega⟩
theorem fine_four {p : List IQ} (hg : Good 12 (10 ^ 12) p) (hl : p.length ≤ 8) : Fine 6 500000 (.tuple [.str (polyT p), .str (polyT p), polyD p, polyD p]) := by
  have hs : Fine 3 80000 (.str (polyT p)) := (fine_str (sml_polyT (good_pos hg))).mono (by omega) (by have := polyT_len hg hl; omega)
  have := fine_tup (a := 3) (b := 80000) (ds := [.str (polyT p), .str (polyT p), polyD p, polyD p]) fun d hd => by
    simp only [List.mem_cons, List.not_mem_nil, or_false] at hd
    rcases hd with rfl | rfl | rfl | rfl
    · exact hs
    · exact hs
    · exact fine_polyD (okP_of hg (by omega))
    · exact fine_polyD (okP_of hg (by omega))
  exact this.mono (by omega) (by show 4 * (80000 + 2) + 2 ≤ 500000; omega)
theorem polyOf_facts {l : List Nat} {ps : List IQ} (h : polyOf l = some ps) : ps.length ≤ l.length + 1 ∧ isPolyD (polyD ps) = true := by
  unfold polyOf at h
  split at h
  · injection h with h
    subst h
    exact ⟨by simp, rfl⟩
  · split at h
    · next z =>
      injection h with h
      subst h
      refine ⟨?_, z⟩
      rw [List.length_reverse, List.length_map]
      exact items_len l.length l [] 0 (Nat.le_refl _)
    · cases h
theorem okP_low {p : List IQ} (h : lowB p = true) (k : isPolyD (polyD p) = true) : okP p := by
  unfold lowB at h
  rw [Bool.and_eq_true, List.all_eq_true] at h
  have k : ((p.map pairD).all isPairD && ascB ((p.map pairD).map fstD)) = true := k
  rw [Bool.and_eq_true, List.all_eq_true] at k
  refine ⟨of_decide_eq_true h.1, fun x hx => ?_⟩
  have h2 := h.2 x hx
  rw [Bool.and_eq_true] at h2
  have a := of_decide_eq_true h2.1
  have b := of_decide_eq_true h2.2
  obtain ⟨c, d⟩ := (pairD_good x).mp (k.1 _ (List.mem_map.mpr ⟨x, hx, rfl⟩))
  have : (10 : Int) ^ 12 = 1000000000000 := by decide
  omega
def ends19 : List Str := ["", "1*n", "n^1", "n^0", "0*n", "00", "n+1", "n + 0", "01", "2*n^02", "n*2", "n + n", "-1", "n^ 2", "1 + n", "+ n", "1_0", "1_0*n", "n^1_0"]
theorem ends_none {y : Str} (h : y ∈ ends19) : polyOf (tl y) = none ∧ y.length ≤ 10 := by
  have : ends19.all (fun y => (polyOf (tl y)).isNone && decide (y.length ≤ 10)) = true := by decide +kernel
  have := List.all_eq_true.mp this y h
  rw [Bool.and_eq_true] at this
  exact ⟨by simpa using this.1, of_decide_eq_true this.2⟩
/-! ### cut polynomials -/
theorem cutV_drop (xs : List V) (k : Nat) : cutV xs (some (k : Int)) none = xs.drop k := by
  unfold cutV
  rw [HT.sIx_none, HT.sIx_nat, List.take_of_length_le (by rw [List.length_drop]; omega)]
  by_cases h : k ≤ xs.length
  · rw [Nat.min_eq_left h]
  · rw [Nat.min_eq_right (by omega), List.drop_length, List.drop_of_length_le (by omega)]
theorem cutV_take (xs : List V) (k : Nat) : cutV xs none (some (k : Int)) = xs.take k := by
  unfold cutV
  rw [HT.sIx_none, HT.sIx_nat, List.drop_zero, Nat.sub_zero]
  by_cases h : k ≤ xs.length
  · rw [Nat.min_eq_left h]
  · rw [Nat.min_eq_right (by omega), List.take_of_length_le (Nat.le_refl _), List.take_of_length_le (by omega)]
theorem PT.cut {H : Hp} : ∀ {ts : List V} {p : List IQ} (k : Nat), PT H ts p → PT H (ts.drop k) (p.drop k) ∧ PT H (ts.take k) (p.take k)
  | _, _, 0, h => ⟨h, .nil⟩
  | _, _, _ + 1, .nil => ⟨.nil, .nil⟩
  | _, _, k + 1, .cons h t => ⟨(PT.cut k t).1, .cons h (PT.cut k t).2⟩
theorem Good.sub {m c : Int} {p q : List IQ} (h : Good m c p) (s : q.Sublist p) : Good m c q := ⟨List.Pairwise.sublist s h.asc, fun x hx => h.all x (s.mem hx)⟩
end Zk

set_option maxHeartbeats 1000000
set_option exponentiation.threshold 2000
/-! Ld: the law of k02. -/
namespace Zk
open PySem PySem.Spec PyProof.Rows L2 GxR TL RT
abbrev sLaw2 : Stmt := top 32
def spLaw2 (K : PySem.W.Frag) (Ta : List Addr) : Sp := fun vs H Q _ => ∃ (a : Addr) (ns : List Int), vs = [.ref a] ∧ SqL K H a (ns.map V.int) ∧ ns.length ≤ 63 ∧ Tb Ta H ∧ ∀ H', Q (.bl true) H'
structure Used2 (P : Program) (w : World) (K : PySem.W.Frag) (mg : Str → Option Value) (base : Heap) (Ta : List Addr) : Prop where
  deck : Call1 P w K mg base "_law_deck" 1 ["script", "seed"] (spDeck K)
  draw : Call1 P w K mg base "_law_draw" 1 ["deck", "many"] spDraw
  pick : Call1 P w K mg base "_law_pick" 2 ["deck", "some"] spPick
  dpoly : Call1 P w K mg base "_law_drawn_poly" 3 ["deck", "many", "most"] spDPoly
  lpt : Call1 P w K mg base "_law_poly_text" 1 ["poly"] spLPT
  low : Call1 P w K mg base "_law_is_low" 1 ["poly"] spLow
  bent : Call1 P w K mg base "_law_bent_text" 3 ["deck", "text"] spBentT
  lread : Call1 P w K mg base "_law_read_poly" 3 ["text"] spLRead
  told : Call1 P w K mg base "_law_told" 7 ["text", "way"] (spTold Ta)
  sum : Call1 P w K mg base "sum_of" 6 ["poly", "other"] (spTwo Ta fun p r => p ++ r)
  ptext : Call1 P w K mg base "poly_text" 5 ["poly"] (spPolyT Ta)
  ptextK : CallK P w K mg base "poly_text" 5 ["poly"] ["poly"] (spPolyT Ta) kg1 kv1
  pread : Call1 P w K mg base "poly_read" 6 ["text"] (spPReadG Ta)
  preadK : CallK P w K mg base "poly_read" 6 ["text"] ["text"] (spPReadG Ta) kg1 kv1
  sys : SysB base
abbrev nmL2 : List Str := ["script", "deck", "turn", "poly", "text", "k", "again", "near", "more", "right", "due", "thing"]
section
variable {P : Program} {w : World} {K : PySem.W.Frag} {mg : Str → Option Value} {base : Heap} {f : Addr} {fd : FuncData} {Ta : List Addr}
theorem scLaw2 : FnScope nmL2 ["script"] (defScope sLaw2) := ⟨rfl, rfl, rfl, by decide +kernel, rfl, by decide +kernel, by decide +kernel⟩
theorem ok_law2 (F : Fun K "law" "law" sLaw2 f fd) (T : Blt2 mg) (U : Used2 P w K mg base Ta) : LawAt P w K mg base f fd ["script"] (spLaw2 K Ta) := by
  refine law_at (N := nmL2) F scLaw2 (fun cdv s H vs Q h => ?_)
  obtain ⟨a, ns, rfl, hS, hl, tb, q⟩ := h
  obtain ⟨f_deck, d_deck, G_deck, b_deck, k_deck, m_deck⟩ := U.deck.ex
  obtain ⟨f_draw, d_draw, G_draw, b_draw, k_draw, m_draw⟩ := U.draw.ex
  obtain ⟨f_pick, d_pick, G_pick, b_pick, k_pick, m_pick⟩ := U.pick.ex
  obtain ⟨f_dpoly, d_dpoly, G_dpoly, b_dpoly, k_dpoly, m_dpoly⟩ := U.dpoly.ex
  obtain ⟨f_lpt, d_lpt, G_lpt, b_lpt, k_lpt, m_lpt⟩ := U.lpt.ex
  obtain ⟨f_low, d_low, G_low, b_low, k_low, m_low⟩ := U.low.ex
  obtain ⟨f_bent, d_bent, G_bent, b_bent, k_bent, m_bent⟩ := U.bent.ex
  obtain ⟨f_lread, d_lread, G_lread, b_lread, k_lread, m_lread⟩ := U.lread.ex
  obtain ⟨f_told, d_told, G_told, b_told, k_told, m_told⟩ := U.told.ex
  obtain ⟨f_sum, d_sum, G_sum, b_sum, k_sum, m_sum⟩ := U.sum.ex
  obtain ⟨f_pt, d_pt, G_pt, b_pt, k_pt, m_pt⟩ := U.ptext.ex
  obtain ⟨f_ptK, d_ptK, G_ptK, b_ptK, k_ptK, m_ptK⟩ := U.ptextK.ex
  obtain ⟨f_pr, d_pr, G_pr, b_pr, k_pr, m_pr⟩ := U.pread.ex
  obtain ⟨f_prK, d_prK, G_prK, b_prK, k_prK, m_prK⟩ := U.preadK.ex
  have hr : Room 8 (topX P w K mg base nmL2 "law" (defScope sLaw2) f cdv s H).A := ⟨rfl, (by show callerA.depth + 1 + 3 * 8 + 5 < recursionLimit; decide), (by show callerA.units + 3 + 16 * 8 + 200 < cLine; decide)⟩
  have r1 : Room 1 (topX P w K mg base nmL2 "law" (defScope sLaw2) f cdv s H).A := hr.mono (by decide)
  have r2 : Room 2 (topX P w K mg base nmL2 "law" (defScope sLaw2) f cdv s H).A := hr.mono (by decide)
  have r3 : Room 3 (topX P w K mg base nmL2 "law" (defScope sLaw2) f cdv s H).A := hr.mono (by decide)
  have r5 : Room 5 (topX P w K mg base nmL2 "law" (defScope sLaw2) f cdv s H).A := hr.mono (by decide)
  have r6 : Room 6 (topX P w K mg base nmL2 "law" (defScope sLaw2) f cdv s H).A := hr.mono (by decide)
  have r7 : Room 7 (topX P w K mg base nmL2 "law" (defScope sLaw2) f cdv s H).A := hr.mono (by decide)
  have hu : (topX P w K mg base nmL2 "law" (defScope sLaw2) f cdv s H).A.units + 110 < cLine := by have := hr.un; omega
  have bR : bootBuiltins "repr" = some (.builtin "repr") := by decide +kernel
  refine ⟨_, (pss_cons (ps_set (i := 1) scLaw2.nd rfl (Or.inl rfl) (pe_call G_deck r1 rfl m_deck k_deck b_deck .nil pass0 (pa_cons (pv 0) (pa_cons pe_int pa_nil))))
    (pss_cons (ps_for PassesOwn.never rfl (pi_range1 (by rfl) T.range (pa_cons pe_int pa_nil)) (pg_name (i := 2) scLaw2.nd rfl (Or.inl rfl))
      (pss_cons (ps_set (i := 3) scLaw2.nd rfl (Or.inl rfl) (pe_call G_dpoly r3 rfl m_dpoly k_dpoly b_dpoly .nil pass0 (pa_cons (pv 1) (pa_cons pe_int (pa_cons pe_int pa_nil)))))
      (pss_cons (ps_set (i := 4) scLaw2.nd rfl (Or.inl rfl) (pe_call G_lpt r1 rfl m_lpt k_lpt b_lpt .nil pass0 (pa_cons (pv 3) pa_nil)))
      (pss_cons (ps_if (pt_cmpR op_ne (pe_callB (call_repr U.sys rfl hu) (by rfl) T.repr bR (pa_cons (pe_tup (pa_cons (pe_call G_pt r5 rfl m_pt k_pt b_pt .nil pass0 (pa_cons (pv 3) pa_nil)) (pa_cons (pe_callK0 G_ptK r5 rfl m_ptK k_ptK b_ptK pass0 (pk_cons (pv 3) pk_nil)) (pa_cons (pe_call G_pr r6 rfl m_pr k_pr b_pr .nil pass0 (pa_cons (pv 4) pa_nil)) (pa_cons (pe_callK0 G_prK r6 rfl m_prK k_prK b_prK pass0 (pk_cons (pv 4) pk_nil)) pa_nil))))) pa_nil)) (pe_callB (call_repr U.sys rfl hu) (by rfl) T.repr bR (pa_cons (pe_tup (pa_cons (pv 4) (pa_cons (pv 4) (pa_cons (pv 3) (pa_cons (pv 3) pa_nil))))) pa_nil)) (nomark _)) (pss_one (ps_ret pe_bl)) pss_nil)
      (pss_cons (ps_set (i := 5) scLaw2.nd rfl (Or.inl rfl) (pe_call G_draw r1 rfl m_draw k_draw b_draw .nil pass0 (pa_cons (pv 1) (pa_cons (pe_op op_add (pe_callB call_len_seq (by rfl) T.len PySem.boot_len (pa_cons (pv 3) pa_nil)) pe_int) pa_nil))))
      (pss_cons (ps_if (PW.pt (pw_and (pt_cmpR op_gt (pv 5) pe_int (nomark _)) (pw_and1 (pt_cmpR op_lt (pv 5) (pe_callB call_len_seq (by rfl) T.len PySem.boot_len (pa_cons (pv 3) pa_nil)) (nomark _)))))
        (pss_one (ps_if (pt_cmpR op_ne (pe_callB (call_repr U.sys rfl hu) (by rfl) T.repr bR (pa_cons (pe_call G_pt r5 rfl m_pt k_pt b_pt .nil pass0 (pa_cons (pe_call G_sum r6 rfl m_sum k_sum b_sum .nil pass0 (pa_cons (pe_slice sl_tupA (pv 3) (po_some (pv 5)) po_none) (pa_cons (pe_slice sl_tupA (pv 3) po_none (po_some (pv 5))) pa_nil))) pa_nil)) pa_nil))
          (pe_callB (call_repr U.sys rfl hu) (by rfl) T.repr bR (pa_cons (pe_op op_add_str (pe_op op_add_str (pe_call G_lpt r1 rfl m_lpt k_lpt b_lpt .nil pass0 (pa_cons (pe_slice sl_tupA (pv 3) (po_some (pv 5)) po_none) pa_nil)) pe_str) (pe_call G_lpt r1 rfl m_lpt k_lpt b_lpt .nil pass0 (pa_cons (pe_slice sl_tupA (pv 3) po_none (po_some (pv 5))) pa_nil))) pa_nil)) (nomark _)) (pss_one (ps_ret pe_bl)) pss_nil)) pss_nil)
      (pss_cons (ps_for PassesOwn.never rfl (pi_range1 (by rfl) T.range (pa_cons pe_int pa_nil)) (pg_name (i := 6) scLaw2.nd rfl (Or.inl rfl))
        (pss_cons (ps_set (i := 7) scLaw2.nd rfl (Or.inl rfl) (pv 4))
        (pss_cons (ps_for PassesOwn.never rfl (pi_range1 (by rfl) T.range (pa_cons (pe_call G_pick r2 rfl m_pick k_pick b_pick .nil pass0 (pa_cons (pv 1) (pa_cons (pe_lst (pa_cons pe_int (pa_cons pe_int (pa_cons pe_int (pa_cons pe_int pa_nil))))) pa_nil))) pa_nil)) (pg_name (i := 8) scLaw2.nd rfl (Or.inl rfl))
          (pss_one (ps_set (i := 7) scLaw2.nd rfl (Or.inl rfl) (pe_call G_bent r3 rfl m_bent k_bent b_bent .nil pass0 (pa_cons (pv 1) (pa_cons (pv 7) pa_nil))))))
        (pss_cons (ps_set (i := 9) scLaw2.nd rfl (Or.inl rfl) (pe_call G_lread r3 rfl m_lread k_lread b_lread .nil pass0 (pa_cons (pv 7) pa_nil)))
        (pss_cons (ps_if (PW.pt (pw_and (pt_cmp (pc_notN (pv 9))) (pw_and1 (pt_not (pt_val (pe_call G_low r1 rfl m_low k_low b_low .nil pass0 (pa_cons (pv 9) pa_nil))))))) (pss_one ps_continue) pss_nil)
        (pss_cons (ps_set (i := 10) scLaw2.nd rfl (Or.inl rfl) (pe_ifExp (pt_cmp (pc_isN (pv 9))) (pe_tup (pa_cons pe_str (pa_cons pe_int pa_nil))) (pe_tup (pa_cons pe_str (pa_cons (pv 9) pa_nil)))))
        (pss_one (ps_if (pt_cmpR op_ne (pe_callB (call_repr U.sys rfl hu) (by rfl) T.repr bR (pa_cons (pe_call G_told r7 rfl m_told k_told b_told .nil pass0 (pa_cons (pv 7) (pa_cons (pe_op op_mod (pe_callTy call_int1 (by rfl) T.int (by decide +kernel) (pa_cons (pv 6) pa_nil)) pe_int) pa_nil))) pa_nil)) (pe_callB (call_repr U.sys rfl hu) (by rfl) T.repr bR (pa_cons (pv 10) pa_nil)) (nomark _)) (pss_one (ps_ret pe_bl)) pss_nil))))))))
      (pss_cons (ps_set (i := 11) scLaw2.nd rfl (Or.inl rfl) (pe_call G_pick r2 rfl m_pick k_pick b_pick .nil pass0 (pa_cons (pv 1) (pa_cons (pe_lst (pa_cons pe_non (pa_cons pe_int (pa_cons pe_bl (pa_cons (pe_lst (pa_cons (pv 4) pa_nil)) (pa_cons (pe_tup pa_nil) (pa_cons (pv 3) (pa_cons pe_dnewK (pa_cons (pe_tup (pa_cons pe_str pa_nil)) pa_nil))))))))) pa_nil))))
      (pss_one (ps_if (pt_cmpR op_ne (pe_callB (call_repr U.sys rfl hu) (by rfl) T.repr bR (pa_cons (pe_tup (pa_cons (pe_call G_told r7 rfl m_told k_told b_told .nil pass0 (pa_cons (pv 11) (pa_cons pe_int pa_nil))) (pa_cons (pe_call G_told r7 rfl m_told k_told b_told .nil pass0 (pa_cons (pv 11) (pa_cons pe_int pa_nil))) pa_nil))) pa_nil)) (pe_callB (call_repr U.sys rfl hu) (by rfl) T.repr bR (pa_cons (pe_op op_repT (pe_tup (pa_cons (pe_tup (pa_cons pe_str (pa_cons pe_int pa_nil))) pa_nil)) pe_int) pa_nil)) (nomark _)) (pss_one (ps_ret pe_bl)) pss_nil))))))))))
    (pss_cons (ps_set (i := 7) scLaw2.nd rfl (Or.inl rfl) (pe_call G_pick r2 rfl m_pick k_pick b_pick .nil pass0 (pa_cons (pv 1) (pa_cons (pe_lst (pa_cons pe_str (pa_cons pe_str (pa_cons pe_str (pa_cons pe_str (pa_cons pe_str (pa_cons pe_str (pa_cons pe_str (pa_cons pe_str (pa_cons pe_str (pa_cons pe_str (pa_cons pe_str (pa_cons pe_str (pa_cons pe_str (pa_cons pe_str (pa_cons pe_str (pa_cons pe_str (pa_cons pe_str (pa_cons pe_str (pa_cons pe_str pa_nil)))))))))))))))))))) pa_nil))))
    (pss_one (ps_ret (pe_cmpR op_eq (pe_callB (call_repr U.sys rfl hu) (by rfl) T.repr bR (pa_cons (pe_call G_told r7 rfl m_told k_told b_told .nil pass0 (pa_cons (pv 7) (pa_cons pe_int pa_nil))) pa_nil)) (pe_callB (call_repr U.sys rfl hu) (by rfl) T.repr bR (pa_cons (pe_tup (pa_cons pe_str (pa_cons pe_int pa_nil))) pa_nil)) (nomark _))))))), ?_⟩
  refine ⟨_, rfl, a, ns, 15365002, rfl, hS, hl, by decide, by decide, fun dk lf H1 D1 => ?_⟩
  have tb1 := tb.same D1.same
  have neS : ∀ y : Str, (!decide (V.str y = V.str y)) = false := fun y => by rw [decide_eq_true rfl]; rfl
  have dp6 : ∀ {d : PyData}, Fine 6 500000 d → d.depth ≤ 100 := fun h => Nat.le_trans h.deep (by decide)
  have ln6 : ∀ {d : PyData}, Fine 6 500000 d → d.shown.length ≤ sizeLine := fun h => Nat.le_trans h.long (by decide)
  refine ⟨4, rfl, by decide, by decide, ?_⟩
  refine for_range (lo := 0) (n := 4) (fun i σ H' => ∃ H0 u2 u3 u4 u5 u6 u7 u8 u9 u10 u11, σ = [some (.ref a), some (.ref dk), u2, u3, u4, u5, u6, u7, u8, u9, u10, u11] ∧ DeckAt H0 H' dk lf (1000 * i) ∧ Tb Ta H')
    ⟨H, none, none, none, none, none, none, none, none, none, none, rfl, D1, tb1⟩ ?turn ?fin
  case fin =>
    rintro σ H2 ⟨H0, u2, u3, u4, u5, u6, u7, u8, u9, u10, u11, rfl, D2, tb2⟩
    refine ⟨_, rfl, (by show 19 ≤ sizeLine; decide), fun l hl0 => ?_⟩
    have Dl := D2.drop hl0 (o := .lst (ends19.map V.str))
    refine ⟨H0, dk, lf, l, 1000 * 4, ends19.map V.str, rfl, Dl, by omega, upd_same, (D2.ned hl0).symm, (D2.nel hl0).symm, by decide, by decide, fun v Hc hv gc Dc => ?_⟩
    obtain ⟨y, hy, rfl⟩ := List.mem_map.mp hv
    obtain ⟨hn, ly⟩ := ends_none hy
    have tbc := tb_grow Dl gc (tb2.same (same_new hl0 _))
    have et : toldD (.str y) = .tuple [.str "wrong", .int 1] := by simp only [toldD, hn]
    have f := (fine_toldW 1 (by decide)).mono (show 5 ≤ 6 by omega) (show 200000 ≤ 500000 by omega)
    refine ⟨_, rfl, .str y, .str y, _, rfl, .str y, tbc, fun z e => by cases e; omega, fun H5 v5 s5 t5 sd5 => ?_⟩
    rw [et] at sd5
    refine ⟨_, _, rfl, sd5, f.able, dp6 f, ln6 f, ?_⟩
    refine ⟨(by show 2 ≤ sizeLine; decide), fun p hp => ?_⟩
    refine ⟨_, .tuple [.str "wrong", .int 1], rfl, .tup upd_same (.cons (.str _) (.cons (.int _) .nil)), f.able, dp6 f, ln6 f, rfl, ?_⟩
    rw [decide_eq_true rfl]
    exact q _
  rintro i σ H2 hi ⟨H0, u2, u3, u4, u5, u6, u7, u8, u9, u10, u11, rfl, D2, tb2⟩
  clear hS D1 tb1 tb
  refine ⟨_, rfl, H0, dk, lf, 1000 * i, 8, 12, rfl, by decide, by decide, D2, by omega, fun pa pP H03 H3 g3 D3 hpP gpP lpP => ?_⟩
  have gP : Good 12 (10 ^ 12) pP := gpP
  have gP13 : Good 1000 (10 ^ 13) pP := gP.mono (by omega) (by decide)
  have gP1 : Good 1000 (10 ^ 12) pP := gP.mono (by omega) (by decide)
  have lT := polyT_len gP lpP
  have tb3 := tb_grow D2 g3 tb2
  have hp3 := hpP.sm (Same.sm D3.same)
  refine ⟨_, rfl, pa, pP, rfl, hp3, gP13, by omega, fun H4 s4 => ?_⟩
  have hp4 := hp3.sm (Same.sm s4)
  have tb4 := tb3.same s4
  have f4 := fine_four gP lpP
  -- the first look
  refine ⟨_, rfl, pa, pP, rfl, hp4, gP13, by omega, tb4, fun H5 s5 t5 => ?_⟩
  refine ⟨_, rfl, pa, pP, rfl, hp4.sm s5, gP13, by omega, t5, fun H6 s6 t6 => ?_⟩
  refine ⟨_, rfl, _, pP, rfl, by omega, t6, polyOf_polyT gP, fun H7 b7 s7 t7 p7 => ?_⟩
  refine ⟨_, rfl, _, pP, rfl, by omega, t7, polyOf_polyT gP, fun H8 b8 s8 t8 p8 => ?_⟩
  refine ⟨(by show 4 ≤ sizeLine; decide), fun p hp => ?_⟩
  have sp := same_new hp (.tup [.str (polyT pP), .str (polyT pP), .ref b7, .ref b8])
  refine ⟨_, .tuple [.str (polyT pP), .str (polyT pP), polyD pP, polyD pP], rfl, Sd.tup upd_same (.cons (.str _) (.cons (.str _) (.cons ((p7.sm s8).sm (Same.sm sp)).sd (.cons (p8.sm (Same.sm sp)).sd .nil)))), f4.able, dp6 f4, ln6 f4, ?_⟩
  refine ⟨_, rfl, _, rfl, _, rfl, _, rfl, (by show 4 ≤ sizeLine; decide), fun p' hp' => ?_⟩
  have sp' := same_new hp' (.tup [.str (polyT pP), .str (polyT pP), .ref pa, .ref pa])
  have hpa' := ((((hp4.sm ((s5.trans s6).trans (s7.trans s8))).sm (Same.sm sp)).sm (Same.sm sp'))).sd
  refine ⟨_, .tuple [.str (polyT pP), .str (polyT pP), polyD pP, polyD pP], rfl, Sd.tup upd_same (.cons (.str _) (.cons (.str _) (.cons hpa' (.cons hpa' .nil)))), f4.able, dp6 f4, ln6 f4, rfl, false, congrArg V.bl (neS _), iteF ?_⟩
  have sall := (Same.sm s4).trans (((s5.trans s6).trans (s7.trans s8)).trans ((Same.sm sp).trans (Same.sm sp')))
  have Dx := deck_sm D3 sall
  have tbx := (t8.same sp).same sp'
  have hN := hpP.sm (noT_sm H03)
  refine (?_ : (fun Hx => _) (upd (upd H8 p (.tup [.str (polyT pP), .str (polyT pP), .ref b7, .ref b8])) p' (.tup [.str (polyT pP), .str (polyT pP), .ref pa, .ref pa])))
  generalize upd (upd H8 p (.tup [.str (polyT pP), .str (polyT pP), .ref b7, .ref b8])) p' (.tup [.str (polyT pP), .str (polyT pP), .ref pa, .ref pa]) = Hx at Dx tbx
  generalize noT H03 = N0 at Dx hN
  clear sall hpa' sp' hp' sp hp p8 t8 s8 p7 t7 s7 t6 s6 t5 s5 tb4 hp4 s4 hp3 tb3 hpP gpP g3 D2 D3 tb2 f4
  clear b8 H8 b7 H7 H6 H5 H4 H3 H03 H2 H0 p p'
  unfold tNext
  dsimp only
  obtain ⟨ts, hts, hpt⟩ := hN.sm (Same.sm Dx.same)
  have lts := PT.len hpt
  refine ⟨_, rfl, _, rfl, pa, ts, rfl, .inr (SqT.of hts), _, _, rfl, rfl, N0, dk, lf, 1000 * i + 40, (ts.length : Int) + 1, rfl, Dx, by omega, by omega, by omega, fun k Hk k0 k1 gk Dk => ?_⟩
  obtain ⟨kk, rfl⟩ : ∃ n : Nat, k = (n : Int) := ⟨k.toNat, by omega⟩
  dsimp only [gName]
  refine (seq_if (fun σ' H' => σ' = [some (.ref a), some (.ref dk), some (.int (0 + (i : Nat))), some (.ref pa), some (.str (polyT pP)), some (.int (kk : Int)), u6, u7, u8, u9, u10, u11] ∧ ∃ N1, DeckAt N1 H' dk lf (1000 * i + 41) ∧ Tb Ta H' ∧ PolyAt N1 pa pP) ?_ ?_ : tSeq _ _ _ _ _)
  · rintro σ' Hy ⟨rfl, N1, Dy, tby, hy⟩
    clear hpt hts lts Dx hN tbx gk Dk k0 k1
    clear ts Hk Hx N0
    refine ⟨4, rfl, by decide, by decide, ?_⟩
    refine for_range (lo := 0) (n := 4) (fun j σ H' => ∃ N2 v6 v7 v8 v9 v10, σ = [some (.ref a), some (.ref dk), some (.int (0 + (i : Nat))), some (.ref pa), some (.str (polyT pP)), some (.int (kk : Int)), v6, v7, v8, v9, v10, u11] ∧ DeckAt N2 H' dk lf (1000 * i + 41 + 50 * j) ∧ Tb Ta H' ∧ PolyAt N2 pa pP)
      ⟨N1, u6, u7, u8, u9, u10, rfl, Dy, tby, hy⟩ ?again ?after
    case again =>
      rintro j σ H2 hj ⟨N2, v6, v7, v8, v9, v10, rfl, D2, tb2, h2⟩
      refine ⟨_, rfl, ?_⟩
      refine ⟨_, rfl, (by show 4 ≤ sizeLine; decide), fun l hl0 => ?_⟩
      have Dl := D2.drop hl0 (o := .lst [.int 1, .int 1, .int 2, .int 3])
      have tbl := tb2.same (same_new hl0 (.lst [.int 1, .int 1, .int 2, .int 3]))
      refine ⟨N2, dk, lf, l, 1000 * i + 41 + 50 * j, _, rfl, Dl, by omega, upd_same, (D2.ned hl0).symm, (D2.nel hl0).symm, (by show 0 < 4; decide), (by show 4 < 2 ^ 59; decide), fun v Hc hv gc Dc => ?_⟩
      obtain ⟨m, rfl, hm⟩ : ∃ m : Nat, v = .int (m : Int) ∧ m ≤ 3 := by
        simp only [List.mem_cons, List.not_mem_nil, or_false] at hv
        rcases hv with rfl | rfl | rfl | rfl
        · exact ⟨1, rfl, by omega⟩
        · exact ⟨1, rfl, by omega⟩
        · exact ⟨2, rfl, by omega⟩
        · exact ⟨3, rfl, by omega⟩
      refine ⟨_, rfl, by omega, by omega, ?_⟩
      rw [show ((m : Int)).toNat = m from rfl]
      refine for_range (lo := 0) (n := m) (fun t σ H' => ∃ N3 x w8, σ = [some (.ref a), some (.ref dk), some (.int (0 + (i : Nat))), some (.ref pa), some (.str (polyT pP)), some (.int (kk : Int)), some (.int (0 + (j : Nat))), some (.str x), w8, v9, v10, u11] ∧ DeckAt N3 H' dk lf (1000 * i + 41 + 50 * j + 1 + 4 * t) ∧ Tb Ta H' ∧ PolyAt N3 pa pP ∧ x.length ≤ 170 + 6 * t ∧ W (3 - t) (30 + t) (tl x))
        ⟨N2, polyT pP, v8, rfl, Dc, tb_grow Dl gc tbl, h2, lT, W_polyT gP⟩ ?bend ?seen
      case bend =>
        rintro t σ H3 ht ⟨N3, x, w8, rfl, D3, tb3, h3, lx, wx⟩
        refine ⟨_, rfl, _, rfl, N3, dk, lf, 1000 * i + 41 + 50 * j + 1 + 4 * t, x, rfl, D3, by omega, by omega, fun y N4 H4 g4 D4 ly wy => ?_⟩
        refine ⟨N4, y, _, rfl, D4.mono (by omega), tb_grow D3 g4 tb3, h3.sm (Same.sm g4.same), by omega, ?_⟩
        have e1 : 3 - t = (3 - (t + 1)) + 1 := by omega
        rw [e1] at wx
        exact wy _ _ (by omega) wx
      case seen =>
        rintro σ H3 ⟨N3, x, w8, rfl, D3, tb3, h3, lx, wx⟩
        have runs : shortRuns (tl x) := (wx.mono (Nat.zero_le _) (Nat.le_refl _)).runs (by omega)
        have again : ∀ {H' : Hp} {y9 y10 : Option V}, Sm H3 H' → Tb Ta H' → ∃ N2 v6 v7 v8 v9 v10, [some (V.ref a), some (.ref dk), some (.int (0 + (i : Nat))), some (.ref pa), some (.str (polyT pP)), some (.int (kk : Int)), some (.int (0 + (j : Nat))), some (.str x), w8, y9, y10, u11] = [some (.ref a), some (.ref dk), some (.int (0 + (i : Nat))), some (.ref pa), some (.str (polyT pP)), some (.int (kk : Int)), v6, v7, v8, v9, v10, u11] ∧ DeckAt N2 H' dk lf (1000 * i + 41 + 50 * (j + 1)) ∧ Tb Ta H' ∧ PolyAt N2 pa pP := fun s t => ⟨_, _, _, _, _, _, rfl, (deck_sm D3 s).mono (by omega), t, h3.sm (noT_sm _)⟩
        clear D2 h2 tb2 Dl tbl gc Dc hl0 hv
        refine ⟨_, rfl, x, rfl, by omega, runs, fun hn H4 s4 => ?_, fun ps hs H4 b s4 pb => ?_⟩
        · have tb4 := tb3.same s4
          refine ⟨_, rfl, _, rfl, iteF (iteF ?_)⟩
          refine ⟨_, rfl, _, rfl, iteT ⟨(by show 2 ≤ sizeLine; decide), fun p hp => ?_⟩⟩
          have sp := same_new hp (.tup [.str "wrong", .int 1])
          have et : toldD (.str x) = .tuple [.str "wrong", .int 1] := by simp only [toldD, hn]
          have f := (fine_toldW 1 (by decide)).mono (show 5 ≤ 6 by omega) (show 200000 ≤ 500000 by omega)
          refine ⟨_, rfl, _, rfl, .inl ⟨_, rfl, _, _, rfl, rfl, (by show (0 : Int) < 2; decide), .str x, .str x, _, rfl, .str x, tb4.same sp, fun y e => by cases e; omega, fun H5 v5 s5 t5 sd5 => ?_⟩⟩
          rw [et] at sd5
          refine ⟨_, _, rfl, sd5, f.able, dp6 f, ln6 f, ?_⟩
          refine ⟨_, rfl, _, .tuple [.str "wrong", .int 1], rfl, .tup (s5 _ _ upd_same (fun _ z => nomatch z)) (.cons (.str _) (.cons (.int _) .nil)), f.able, dp6 f, ln6 f, rfl, false, congrArg V.bl (neS _), iteF ?_⟩
          exact again ((Same.sm (s4.trans sp)).trans s5) t5
        · have tb4 := tb3.same s4
          obtain ⟨lps, ip⟩ := polyOf_facts hs
          have lxx := len_tl x
          refine ⟨_, rfl, _, rfl, iteT ?_⟩
          refine ⟨_, rfl, b, ps, rfl, pb, by omega, fun H5 s5 => ⟨_, rfl, ?_⟩⟩
          have tb5 := tb4.same s5
          refine ite2 (fun z => ?_) (fun z => ?_)
          · exact again (Same.sm (s4.trans s5)) tb5
          · have z : lowB ps = true := by simpa using z
            have pb5 := pb.sm (Same.sm s5)
            refine ⟨_, rfl, _, rfl, iteF ⟨_, rfl, (by show 2 ≤ sizeLine; decide), fun p hp => ?_⟩⟩
            have sp := same_new hp (.tup [.str "poly", .ref b])
            have et : toldD (.str x) = .tuple [.str "poly", polyD ps] := by simp only [toldD, hs]
            have f := (fine_toldP (okP_low z ip)).mono (show 5 ≤ 6 by omega) (show 200000 ≤ 500000 by omega)
            refine ⟨_, rfl, _, rfl, .inl ⟨_, rfl, _, _, rfl, rfl, (by show (0 : Int) < 2; decide), .str x, .str x, _, rfl, .str x, tb5.same sp, fun y e => by cases e; omega, fun H6 v6 s6 t6 sd6 => ?_⟩⟩
            rw [et] at sd6
            refine ⟨_, _, rfl, sd6, f.able, dp6 f, ln6 f, ?_⟩
            have sd := (pb5.sm ((Same.sm sp).trans s6)).sd
            refine ⟨_, rfl, _, .tuple [.str "poly", polyD ps], rfl, .tup (s6 _ _ upd_same (fun _ z => nomatch z)) (.cons (.str _) (.cons sd .nil)), f.able, dp6 f, ln6 f, rfl, false, congrArg V.bl (neS _), iteF ?_⟩
            exact again ((Same.sm ((s4.trans s5).trans sp)).trans s6) t6
    case after =>
      rintro σ H2 ⟨N2, v6, v7, v8, v9, v10, rfl, D2, tb2, h2⟩
      clear hy Dy tby
      refine ⟨_, rfl, _, rfl, (by show 1 ≤ sizeLine; decide), fun l1 g1 => ⟨(by show 0 ≤ sizeLine; exact Nat.zero_le _), fun t1 g2 => ⟨_, rfl, fun d1 g3 => ⟨(by show 1 ≤ sizeLine; decide), fun t2 g4 => ⟨(by show 8 ≤ sizeLine; decide), fun l g5 => ?_⟩⟩⟩⟩⟩
      have E1 := D2.new g1 (o := .lst [.str (polyT pP)])
      have E2 := E1.new g2 (o := .tup [])
      have E3 := E2.new g3 (o := .dK [])
      have E4 := E3.new g4 (o := .tup [.str "n"])
      have n1 := same_new (D2.free g1) (.lst [.str (polyT pP)])
      have n2 := same_new (E1.free g2) (.tup [])
      have n3 := same_new (E2.free g3) (.dK [])
      have n4 := same_new (E3.free g4) (.tup [.str "n"])
      have tb4 := (((tb2.same (same_new g1 (.lst [.str (polyT pP)]))).same (same_new g2 (.tup []))).same (same_new g3 (.dK []))).same (same_new g4 (.tup [.str "n"]))
      have things : ∀ v ∈ [V.non, .int 0, .bl true, .ref l1, .ref t1, .ref pa, .ref d1, .ref t2], ∃ d, Sd (upd (upd (upd (upd N2 l1 (.lst [.str (polyT pP)])) t1 (.tup [])) d1 (.dK [])) t2 (.tup [.str "n"])) v d ∧ toldD d = .tuple [.str "wrong", .int 0] ∧ ∀ y, d ≠ .str y := fun v hv => by
        simp only [List.mem_cons, List.not_mem_nil, or_false] at hv
        rcases hv with rfl | rfl | rfl | rfl | rfl | rfl | rfl | rfl
        · exact ⟨_, .non, rfl, fun _ z => nomatch z⟩
        · exact ⟨_, .int _, rfl, fun _ z => nomatch z⟩
        · exact ⟨_, .bl _, rfl, fun _ z => nomatch z⟩
        · exact ⟨.list [.str (polyT pP)], .lst (n4 _ _ (n3 _ _ (n2 _ _ upd_same))) (.cons (.str _) .nil), rfl, fun _ z => nomatch z⟩
        · exact ⟨.tuple [], .tup (n4 _ _ (n3 _ _ upd_same)) .nil, rfl, fun _ z => nomatch z⟩
        · exact ⟨polyD pP, (h2.sm (Same.sm (((n1.trans n2).trans n3).trans n4))).sd, rfl, fun _ z => nomatch z⟩
        · exact ⟨.dict [], .dic (n4 _ _ upd_same) .nil, rfl, fun _ z => nomatch z⟩
        · exact ⟨.tuple [.str "n"], .tup upd_same (.cons (.str _) .nil), rfl, fun _ z => nomatch z⟩
      have tb5 := tb4.same (same_new g5 (.lst [V.non, .int 0, .bl true, .ref l1, .ref t1, .ref pa, .ref d1, .ref t2]))
      have E5 := E4.drop g5 (o := .lst [V.non, .int 0, .bl true, .ref l1, .ref t1, .ref pa, .ref d1, .ref t2])
      refine ⟨_, dk, lf, l, 1000 * i + 41 + 50 * 4, _, rfl, E5, by omega, upd_same, (E4.ned g5).symm, (E4.nel g5).symm, (by show 0 < 8; decide), (by show 8 < 2 ^ 59; decide), fun v Hc hv gc Dc => ?_⟩
      have tbc := tb_grow E5 gc tb5
      obtain ⟨d, sd, et, ns⟩ := things v hv
      have sdc := (sd.same gc.same).same Dc.same
      clear things sd E1 E2 E3 E4 E5 n1 n2 n3 n4 tb4 tb5 g1 g2 g3 g4 g5 tb2 h2 D2 gc hv
      have f := fine_toldW 0 (by decide)
      have f2 := fine_told2 f f
      refine ⟨_, rfl, v, d, _, rfl, sdc, tbc, fun y e => absurd e (ns y), fun H3 v3 s3 t3 sd3 => ?_⟩
      refine ⟨_, rfl, v, d, _, rfl, sdc.sm s3, t3, fun y e => absurd e (ns y), fun H4 v4 s4 t4 sd4 => ⟨(by show 2 ≤ sizeLine; decide), fun p hp => ?_⟩⟩
      rw [et] at sd3 sd4
      have sp := same_new hp (.tup [v3, v4])
      refine ⟨_, .tuple [.tuple [.str "wrong", .int 0], .tuple [.str "wrong", .int 0]], rfl, .tup upd_same (.cons ((sd3.sm s4).same sp) (.cons (sd4.same sp) .nil)), f2.able, dp6 f2, ln6 f2, ?_⟩
      refine ⟨(by show 2 ≤ sizeLine; decide), fun q1 hq1 => ⟨(by show 1 ≤ sizeLine; decide), fun q2 hq2 => ?_⟩⟩
      refine ⟨q2, 2, [.ref q1], rfl, rfl, SqT.of upd_same, by simp, by decide, by decide, (by show 1 ≤ 1000; decide), fun q3 hq3 => ?_⟩
      have s1 := same_new hq1 (.tup [.str "wrong", .int 0])
      have s2 := same_new hq2 (.tup [.ref q1])
      have s5 := same_new hq3 (.tup (List.replicate (2 : Int).toNat [V.ref q1]).flatten)
      have eq1 : ∀ {Hz : Hp}, Hz q3 = some (.tup (List.replicate (2 : Int).toNat [V.ref q1]).flatten) → Hz q1 = some (.tup [.str "wrong", .int 0]) → Sd Hz (.ref q3) (.tuple [.tuple [.str "wrong", .int 0], .tuple [.str "wrong", .int 0]]) := fun h h1 =>
        .tup h (.cons (.tup h1 (.cons (.str _) (.cons (.int _) .nil))) (.cons (.tup h1 (.cons (.str _) (.cons (.int _) .nil))) .nil))
      refine ⟨_, _, rfl, eq1 upd_same (s5 _ _ (s2 _ _ upd_same)), f2.able, dp6 f2, ln6 f2, rfl, false, congrArg V.bl (neS _), iteF ?_⟩
      have sZ := (s3.trans s4).trans (Same.sm (((sp.trans s1).trans s2).trans s5))
      exact ⟨_, _, _, _, _, _, _, _, _, _, _, rfl, (deck_sm Dc sZ).mono (by omega), (((t4.same sp).same s1).same s2).same s5⟩
  · intro fin
    have tbk := tb_grow Dx gk tbx
    have hNk := hN.sm (Same.sm gk.same)
    refine ⟨_, rfl, _, _, rfl, rfl, _, rfl, ?_⟩
    refine ite2 (fun z => ?_) (fun z => ?_)
    · obtain ⟨ts, hts, hpt⟩ := hNk.sm (Same.sm Dk.same)
      have lts := PT.len hpt
      have z : (kk : Int) > 0 := of_decide_eq_true z
      refine ⟨_, rfl, _, rfl, pa, ts, rfl, .inr (SqT.of hts), _, _, rfl, rfl, _, rfl, ?_⟩
      refine ite2 (fun y => ?_) (fun y => ?_)
      · have y : (kk : Int) < (ts.length : Int) := of_decide_eq_true y
        have nw : ¬ (HT.sIx ts.length 0 (some (kk : Int)) = 0 ∧ HT.sIx ts.length ts.length none = ts.length) := fun e => by
          rw [HT.sIx_nat] at e
          omega
        have nw2 : ¬ (HT.sIx ts.length 0 none = 0 ∧ HT.sIx ts.length ts.length (some (kk : Int)) = ts.length) := fun e => by
          rw [HT.sIx_nat] at e
          omega
        have gD := gP1.sub (List.drop_sublist kk pP)
        have gT := gP1.sub (List.take_sublist kk pP)
        have ld : (pP.drop kk).length ≤ 8 := by rw [List.length_drop]; omega
        have lt : (pP.take kk).length ≤ 8 := by rw [List.length_take]; omega
        obtain ⟨hd, ht⟩ := PT.cut kk hpt
        have cutD : ∀ {H' : Hp} {e : Addr}, Sm Hk H' → H' e = some (.tup (ts.drop kk)) → PolyAt H' e (pP.drop kk) := fun s h => ⟨_, h, PT.sm s hd⟩
        have cutT : ∀ {H' : Hp} {e : Addr}, Sm Hk H' → H' e = some (.tup (ts.take kk)) → PolyAt H' e (pP.take kk) := fun s h => ⟨_, h, PT.sm s ht⟩
        refine ⟨_, rfl, _, rfl, _, rfl, pa, ts, rfl, SqT.of hts, fun e => absurd e nw, fun _ e1 he1 => ?_⟩
        rw [cutV_drop]
        have s1 := Same.sm (same_new he1 (.tup (ts.drop kk)))
        refine ⟨_, rfl, _, rfl, _, rfl, pa, ts, rfl, SqT.of (same_new he1 _ _ _ hts), fun e => absurd e nw2, fun _ e2 he2 => ?_⟩
        rw [cutV_take]
        have s2 := Same.sm (same_new he2 (.tup (ts.take kk)))
        refine ⟨e1, e2, _, _, rfl, cutD (s1.trans s2) (same_new he2 _ _ _ upd_same), cutT (s1.trans s2) upd_same, gD, gT, by omega, by omega, (tbk.same (same_new he1 _)).same (same_new he2 _), fun H3 x ys s3 t3 px cn => ?_⟩
        have ey : ys = pP := canon_uniq (by
          have := List.perm_append_comm (l₁ := pP.drop kk) (l₂ := pP.take kk)
          rwa [List.take_append_drop] at this) cn (canon_self gP.asc)
        subst ey
        refine ⟨x, ys, rfl, px, gP13, by omega, t3, fun H4 s4 t4 => ?_⟩
        have fS : Fine 3 80000 (.str (polyT ys)) := (fine_str (sml_polyT (good_pos gP))).mono (by omega) (by omega)
        have fS6 := fS.mono (show 3 ≤ 6 by omega) (show 80000 ≤ 500000 by omega)
        refine ⟨_, .str (polyT ys), rfl, .str _, fS6.able, dp6 fS6, ln6 fS6, ?_⟩
        have sA := ((s1.trans s2).trans s3).trans s4
        refine ⟨_, rfl, _, rfl, _, rfl, pa, ts, rfl, SqT.of (sA _ _ hts (fun _ z => nomatch z)), fun e => absurd e nw, fun _ e3 he3 => ?_⟩
        rw [cutV_drop]
        have s5 := Same.sm (same_new he3 (.tup (ts.drop kk)))
        refine ⟨e3, _, rfl, cutD (sA.trans s5) upd_same, gD.mono (by omega) (by decide), by omega, fun H5 s6 => ?_⟩
        have sB := (sA.trans s5).trans (Same.sm s6)
        have l1 := polyT_len (gP.sub (List.drop_sublist kk ys)) ld
        have l2 := polyT_len (gP.sub (List.take_sublist kk ys)) lt
        have e3l : (" + " : Str).length = 3 := by decide +kernel
        refine ⟨_, _, rfl, rfl, sl_small (by omega), _, rfl, _, rfl, _, rfl, pa, ts, rfl, SqT.of (sB _ _ hts (fun _ z => nomatch z)), fun e => absurd e nw2, fun _ e4 he4 => ?_⟩
        rw [cutV_take]
        have s7 := Same.sm (same_new he4 (.tup (ts.take kk)))
        refine ⟨e4, _, rfl, cutT (sB.trans s7) upd_same, gT.mono (by omega) (by decide), by omega, fun H6 s8 => ?_⟩
        refine ⟨_, _, rfl, rfl, sl_small (by rw [Str.length_append]; omega), ?_⟩
        rw [polyT_cut (by omega) (by omega) (good_pos gP)]
        refine ⟨_, .str (polyT ys), rfl, .str _, fS6.able, dp6 fS6, ln6 fS6, rfl, false, congrArg V.bl (neS _), iteF ?_⟩
        have sC := (sB.trans s7).trans (Same.sm s8)
        exact fin _ _ ⟨rfl, _, (deck_sm Dk sC).mono (by omega), (((t4.same (same_new he3 _)).same s6).same (same_new he4 _)).same s8, hNk.sm (noT_sm _)⟩
      · exact fin _ _ ⟨rfl, _, Dk.mono (by omega), tbk, hNk⟩
    · exact iteF (fin _ _ ⟨rfl, _, Dk.mono (by omega), tbk, hNk⟩)
end
end Zk

set_option maxHeartbeats 4000000
/-! F0: what the head says of defs and error classes (no text of a program here). -/
namespace Zk
open PySem PySem.Spec PyProof.Rows L2
open PySem.W (findIn subIn typeIn keepIn excTail kitOne kitAny exmOne clsIn nsIn)
/-- what the written part says of one error class -/
structure ClsF (K : PySem.W.Frag) (x f qual : Str) (st : Stmt) (B C fI : Addr) : Prop where
  gC : nsIn K mainGlobals x = some (some (.ref C))
  xL : ∃ q N bs sn sub ab col dd k0 k1 k2 k3 k5, K.lookup C = some (excClassObj x q C N bs [.ref B, .type "Exception", .type "BaseException", .type "object"] true sn sub ab col dd k0 k1 k2 k3 k5 "Exception.__new__")
  sa : findIn K (.ref C) "__setattr__" = some (some (.builtin "object.__setattr__"))
  ga : findIn K (.ref C) "__getattribute__" = some (some (.builtin "BaseException.__getattribute__"))
  gg : findIn K (.ref C) "__getattr__" = some none
  ca : findIn K (.ref C) "__class__" = some (some (.builtin "object.__class__"))
  exC : subIn K (.ref C) (.type "BaseException") = some true
  tyC : typeIn K (.ref C) = some (.type "type")
  kC : keepIn K (.ref C) = true
  no : findIn K (.ref C) f = some none
  iC : findIn K (.ref C) "__init__" = some (some (.ref fI))
  tI : typeIn K (.ref fI) = some (.type "function")
  fn : ∃ fd, Fun K "__init__" qual st fI fd
section
variable {K : PySem.W.Frag} {x f qual : Str} {st : Stmt} {B C fI : Addr}
theorem clsF_mk {q : Str} {N : Addr} {bs : List Value} {sn : List Str} {sub : List Value} {ab : Bool} {col : Option Bool} {dd : Option Addr} {k0 k1 k2 k3 k5 : Option Value} {oc kV dc pm cd ct : Value} {od an : Option Addr} {sl : Array (Option Value)}
    (gC : nsIn K mainGlobals x = some (some (.ref C)))
    (xL : K.lookup C = some (excClassObj x q C N bs [.ref B, .type "Exception", .type "BaseException", .type "object"] true sn sub ab col dd k0 k1 k2 k3 k5 "Exception.__new__"))
    (sa : findIn K (.ref C) "__setattr__" = some (some (.builtin "object.__setattr__"))) (ga : findIn K (.ref C) "__getattribute__" = some (some (.builtin "BaseException.__getattribute__"))) (gg : findIn K (.ref C) "__getattr__" = some none)
    (ca : findIn K (.ref C) "__class__" = some (some (.builtin "object.__class__"))) (exC : subIn K (.ref C) (.type "BaseException") = some true) (tyC : typeIn K (.ref C) = some (.type "type")) (kC : keepIn K (.ref C) = true) (no : findIn K (.ref C) f = some none)
    (iC : findIn K (.ref C) "__init__" = some (some (.ref fI))) (tI : typeIn K (.ref fI) = some (.type "function"))
    (l1 : K.lookup fI = some ⟨oc, od, .func (PySem.W.fnOf "__init__" qual (defArgs st) (defBody st) (defScope st) .none kV dc pm an cd ct), sl⟩) (c1 : PySem.W.codeIn K cd qual = true) (k1' : keepIn K (.ref fI) = true) : ClsF K x f qual st B C fI :=
  ⟨gC, ⟨q, N, bs, sn, sub, ab, col, dd, k0, k1, k2, k3, k5, xL⟩, sa, ga, gg, ca, exC, tyC, kC, no, iC, tI, _, fun_mk l1 c1 k1'⟩
theorem ClsF.err {h : Heap} {mg : Str → Option Value} (T : ClsF K x f qual st B C fI) (X : K.In h) (G : h.Ns mainGlobals mg) : ErrC K mg B x C := by
  obtain ⟨q, N, bs, sn, sub, ab, col, dd, k0, k1, k2, k3, k5, xL⟩ := T.xL
  have cl : ∃ cd, clsIn K C = some cd ∧ cd.name = x ∧ cd.mro = [.ref C, .ref B, .type "Exception", .type "BaseException", .type "object"] := by
    refine ⟨{ name := x, bases := bs, mro := .ref C :: [.ref B, .type "Exception", .type "BaseException", .type "object"], ns := N, qualname := q, hasDict := true, slotNames := sn, subclasses := sub, abstract := ab, collection := col, hasDel := false }, ?_, rfl, rfl⟩
    unfold clsIn
    rw [xL]
  exact ⟨⟨⟨x, q, N, bs, _, sn, sub, ab, col, dd, k0, k1, k2, k3, k5, xL, rfl⟩, T.sa, T.ga, T.gg, T.ca, T.exC, T.tyC, T.kC⟩, PySem.W.mg_of X G T.gC, cl⟩
theorem baseC_mk {h : Heap} {mg : Str → Option Value} (X : K.In h) (G : h.Ns mainGlobals mg) {q : Str} {N : Addr} {bs bm : List Value} {hdct : Bool} {sn : List Str} {sub : List Value} {ab : Bool} {col : Option Bool} {dd : Option Addr} {k0 k1 k2 k3 k5 : Option Value}
    (gB : nsIn K mainGlobals x = some (some (.ref B))) (xB : K.lookup B = some (excClassObj x q B N bs bm hdct sn sub ab col dd k0 k1 k2 k3 k5 "Exception.__new__"))
    (ty : typeIn K (.ref B) = some (.type "type")) (ex : subIn K (.ref B) (.type "BaseException") = some true) (sp : PySem.W.specialIn K (.ref B) "__getattribute__" = some (some (.builtin "type.__getattribute__")))
    (rd : PySem.W.readsIn K B (.type "type") = true) (fc : PySem.W.findCls K (.ref B) (.type "type") "__init__" = some (.val (.builtin "Exception.__init__"))) : BaseC K mg x B := by
  refine ⟨PySem.W.mg_of X G gB, ⟨{ name := x, bases := bs, mro := .ref B :: bm, ns := N, qualname := q, hasDict := hdct, slotNames := sn, subclasses := sub, abstract := ab, collection := col, hasDel := false }, ?_, rfl⟩, ty, ex, sp, rd, fc⟩
  unfold clsIn
  rw [xB]
end
/-- a def of the top -/
structure DefF (K : PySem.W.Frag) (x : Str) (st : Stmt) (f : Addr) : Prop where
  a : nsIn K mainGlobals x = some (some (.ref f))
  fn : ∃ fd, Fun K x x st f fd
theorem defF_mk {K : PySem.W.Frag} {x : Str} {st : Stmt} {f : Addr} {od an : Option Addr} {sl : Array (Option Value)} {oc kV dc pm cd ct : Value} (a : nsIn K mainGlobals x = some (some (.ref f)))
    (l : K.lookup f = some ⟨oc, od, .func (PySem.W.fnOf x x (defArgs st) (defBody st) (defScope st) .none kV dc pm an cd ct), sl⟩) (c : PySem.W.codeIn K cd x = true) (k : keepIn K (.ref f) = true) : DefF K x st f := ⟨a, _, fun_mk l c k⟩

end Zk

set_option maxHeartbeats 4000000
/-! Le: what the program's top has written, gathered. (written by genLe.py) -/
namespace Zk
open PySem PySem.Spec PyProof.Rows L2 GxR
open PySem.W (keepIn nsIn)
theorem all_mk {l : PySem.W.OpenLaw} {q : Program} {loose : List Str} {mean : ExcName → Option Value} {w : World} {K : PySem.W.Frag} {h : Heap} {mg mb : Str → Option Value} {fa : Addr} (X : K.In h) (T0 : Top q loose mean mg mb h) (hfa : mg "law" = some (.ref fa)) (hn : (K.all fun p => !isTab p.2) = true)
    (q1 : ((recsOf q).any fun d => d.name == ("is_ascending" : Str)) = true)
    (q2 : ((recsOf q).any fun d => d.name == ("is_poly" : Str)) = true)
    (q3 : ((recsOf q).any fun d => d.name == ("numeral_read" : Str)) = true)
    {B : Addr} (bs : BaseC K mg "PlayError" B) (gk : ClsG K)
    {C_BadText I_BadText : Addr} (c_BadText : ClsF K "BadText" "at" "BadText.__init__" (inClass (top 6) 0) B C_BadText I_BadText)
    {f_sDeck : Addr} (d_sDeck : DefF K "_law_deck" sDeck f_sDeck)
    {f_sDraw : Addr} (d_sDraw : DefF K "_law_draw" sDraw f_sDraw)
    {f_sPick : Addr} (d_sPick : DefF K "_law_pick" sPick f_sPick)
    {f_sLLow : Addr} (d_sLLow : DefF K "_law_is_low" sLLow f_sLLow)
    {f_sDPoly : Addr} (d_sDPoly : DefF K "_law_drawn_poly" sDPoly f_sDPoly)
    {f_sLPT : Addr} (d_sLPT : DefF K "_law_poly_text" sLPT f_sLPT)
    {f_sLFig : Addr} (d_sLFig : DefF K "_law_are_figures" sLFig f_sLFig)
    {f_sLItem : Addr} (d_sLItem : DefF K "_law_read_item" sLItem f_sLItem)
    {f_sLRead : Addr} (d_sLRead : DefF K "_law_read_poly" sLRead f_sLRead)
    {f_sTold : Addr} (d_sTold : DefF K "_law_told" sTold f_sTold)
    {f_sBentT : Addr} (d_sBentT : DefF K "_law_bent_text" sBentT f_sBentT)
    {f_sLaw2 : Addr} (d_sLaw2 : DefF K "law" sLaw2 f_sLaw2)
    {f_sIsInt : Addr} (d_sIsInt : DefF K "is_integer" sIsInt f_sIsInt)
    {f_sIsAsc : Addr} (d_sIsAsc : DefF K "is_ascending" sIsAsc f_sIsAsc)
    {f_sIsPoly : Addr} (d_sIsPoly : DefF K "is_poly" sIsPoly f_sIsPoly)
    {f_sIsPair : Addr} (d_sIsPair : DefF K "is_pair" sIsPair f_sIsPair)
    {f_sSum : Addr} (d_sSum : DefF K "sum_of" sSum f_sSum)
    {f_sCheck : Addr} (d_sCheck : DefF K "check_both" sCheck f_sCheck)
    {f_sGath : Addr} (d_sGath : DefF K "gathered" sGath f_sGath)
    {f_sPolyT : Addr} (d_sPolyT : DefF K "poly_text" sPolyT f_sPolyT)
    {f_sPairT : Addr} (d_sPairT : DefF K "pair_text" sPairT f_sPairT)
    {f_sPRead : Addr} (d_sPRead : DefF K "poly_read" sPRead f_sPRead)
    {f_sPN : Addr} (d_sPN : DefF K "poly_or_none" sPN f_sPN)
    {f_sPairR : Addr} (d_sPairR : DefF K "pair_read" sPairR f_sPairR)
    {f_sExpR : Addr} (d_sExpR : DefF K "exponent_read" sExpR f_sExpR)
    {f_sNumR : Addr} (d_sNumR : DefF K "numeral_read" sNumR f_sNumR)
    (z_int : nsIn K mainGlobals "int" = some none)
    (z_list : nsIn K mainGlobals "list" = some none)
    (z_max : nsIn K mainGlobals "max" = some none)
    (z_len : nsIn K mainGlobals "len" = some none)
    (z_range : nsIn K mainGlobals "range" = some none)
    (z_tuple : nsIn K mainGlobals "tuple" = some none)
    (z_repr : nsIn K mainGlobals "repr" = some none)
    (z_isinstance : nsIn K mainGlobals "isinstance" = some none)
    (z_bool : nsIn K mainGlobals "bool" = some none)
    (z_str : nsIn K mainGlobals "str" = some none)
    (z_all : nsIn K mainGlobals "all" = some none)
    (z_sum : nsIn K mainGlobals "sum" = some none)
    (z_sorted : nsIn K mainGlobals "sorted" = some none)
    (z_min : nsIn K mainGlobals "min" = some none)
    (z_reversed : nsIn K mainGlobals "reversed" = some none)
    (z_ord : nsIn K mainGlobals "ord" = some none)
    : TopAt l w K 63 "script" mg fa h := by
  have G := T0.g
  have mz : ∀ {x : Str}, nsIn K mainGlobals x = some none → mg x = none := fun z => PySem.W.mg_none_of X G z
  have T1 : Blt mg := ⟨mz z_int, mz z_list, mz z_max, mz z_len, mz z_range, mz z_tuple, mz z_repr⟩
  have T : Blt2 mg := ⟨T1, mz z_isinstance, mz z_bool, mz z_str, mz z_all, mz z_sum, mz z_sorted, mz z_min⟩
  have e := hfa.symm.trans (PySem.W.mg_of X G d_sLaw2.a)
  cases e
  obtain ⟨fd_sDeck, F_sDeck⟩ := d_sDeck.fn
  have b_sDeck : Binds K fd_sDeck ["script", "seed"] [] := F_sDeck.binds fun _ _ _ _ _ _ us hl => match us, hl with | [_, _], _ => rfl
  have m_sDeck := PySem.W.mg_of X G d_sDeck.a
  obtain ⟨fd_sDraw, F_sDraw⟩ := d_sDraw.fn
  have b_sDraw : Binds K fd_sDraw ["deck", "many"] [] := F_sDraw.binds fun _ _ _ _ _ _ us hl => match us, hl with | [_, _], _ => rfl
  have m_sDraw := PySem.W.mg_of X G d_sDraw.a
  obtain ⟨fd_sPick, F_sPick⟩ := d_sPick.fn
  have b_sPick : Binds K fd_sPick ["deck", "some"] [] := F_sPick.binds fun _ _ _ _ _ _ us hl => match us, hl with | [_, _], _ => rfl
  have m_sPick := PySem.W.mg_of X G d_sPick.a
  obtain ⟨fd_sLLow, F_sLLow⟩ := d_sLLow.fn
  have b_sLLow : Binds K fd_sLLow ["poly"] [] := F_sLLow.binds fun _ _ _ _ _ _ us hl => match us, hl with | [_], _ => rfl
  have m_sLLow := PySem.W.mg_of X G d_sLLow.a
  obtain ⟨fd_sDPoly, F_sDPoly⟩ := d_sDPoly.fn
  have b_sDPoly : Binds K fd_sDPoly ["deck", "many", "most"] [] := F_sDPoly.binds fun _ _ _ _ _ _ us hl => match us, hl with | [_, _, _], _ => rfl
  have m_sDPoly := PySem.W.mg_of X G d_sDPoly.a
  obtain ⟨fd_sLPT, F_sLPT⟩ := d_sLPT.fn
  have b_sLPT : Binds K fd_sLPT ["poly"] [] := F_sLPT.binds fun _ _ _ _ _ _ us hl => match us, hl with | [_], _ => rfl
  have m_sLPT := PySem.W.mg_of X G d_sLPT.a
  obtain ⟨fd_sLFig, F_sLFig⟩ := d_sLFig.fn
  have b_sLFig : Binds K fd_sLFig ["text"] [] := F_sLFig.binds fun _ _ _ _ _ _ us hl => match us, hl with | [_], _ => rfl
  have m_sLFig := PySem.W.mg_of X G d_sLFig.a
  obtain ⟨fd_sLItem, F_sLItem⟩ := d_sLItem.fn
  have b_sLItem : Binds K fd_sLItem ["text"] [] := F_sLItem.binds fun _ _ _ _ _ _ us hl => match us, hl with | [_], _ => rfl
  have m_sLItem := PySem.W.mg_of X G d_sLItem.a
  obtain ⟨fd_sLRead, F_sLRead⟩ := d_sLRead.fn
  have b_sLRead : Binds K fd_sLRead ["text"] [] := F_sLRead.binds fun _ _ _ _ _ _ us hl => match us, hl with | [_], _ => rfl
  have m_sLRead := PySem.W.mg_of X G d_sLRead.a
  obtain ⟨fd_sTold, F_sTold⟩ := d_sTold.fn
  have b_sTold : Binds K fd_sTold ["text", "way"] [] := F_sTold.binds fun _ _ _ _ _ _ us hl => match us, hl with | [_, _], _ => rfl
  have m_sTold := PySem.W.mg_of X G d_sTold.a
  obtain ⟨fd_sBentT, F_sBentT⟩ := d_sBentT.fn
  have b_sBentT : Binds K fd_sBentT ["deck", "text"] [] := F_sBentT.binds fun _ _ _ _ _ _ us hl => match us, hl with | [_, _], _ => rfl
  have m_sBentT := PySem.W.mg_of X G d_sBentT.a
  obtain ⟨fd_sLaw2, F_sLaw2⟩ := d_sLaw2.fn
  have b_sLaw2 : Binds K fd_sLaw2 ["script"] [] := F_sLaw2.binds fun _ _ _ _ _ _ us hl => match us, hl with | [_], _ => rfl
  have m_sLaw2 := PySem.W.mg_of X G d_sLaw2.a
  obtain ⟨fd_sIsInt, F_sIsInt⟩ := d_sIsInt.fn
  have b_sIsInt : Binds K fd_sIsInt ["thing"] [] := F_sIsInt.binds fun _ _ _ _ _ _ us hl => match us, hl with | [_], _ => rfl
  have m_sIsInt := PySem.W.mg_of X G d_sIsInt.a
  obtain ⟨fd_sIsAsc, F_sIsAsc⟩ := d_sIsAsc.fn
  have b_sIsAsc : Binds K fd_sIsAsc ["items"] [] := F_sIsAsc.binds fun _ _ _ _ _ _ us hl => match us, hl with | [_], _ => rfl
  have m_sIsAsc := PySem.W.mg_of X G d_sIsAsc.a
  obtain ⟨fd_sIsPoly, F_sIsPoly⟩ := d_sIsPoly.fn
  have b_sIsPoly : Binds K fd_sIsPoly ["thing"] [] := F_sIsPoly.binds fun _ _ _ _ _ _ us hl => match us, hl with | [_], _ => rfl
  have m_sIsPoly := PySem.W.mg_of X G d_sIsPoly.a
  obtain ⟨fd_sIsPair, F_sIsPair⟩ := d_sIsPair.fn
  have b_sIsPair : Binds K fd_sIsPair ["thing"] [] := F_sIsPair.binds fun _ _ _ _ _ _ us hl => match us, hl with | [_], _ => rfl
  have m_sIsPair := PySem.W.mg_of X G d_sIsPair.a
  obtain ⟨fd_sSum, F_sSum⟩ := d_sSum.fn
  have b_sSum : Binds K fd_sSum ["poly", "other"] [] := F_sSum.binds fun _ _ _ _ _ _ us hl => match us, hl with | [_, _], _ => rfl
  have m_sSum := PySem.W.mg_of X G d_sSum.a
  obtain ⟨fd_sCheck, F_sCheck⟩ := d_sCheck.fn
  have b_sCheck : Binds K fd_sCheck ["poly", "other"] [] := F_sCheck.binds fun _ _ _ _ _ _ us hl => match us, hl with | [_, _], _ => rfl
  have m_sCheck := PySem.W.mg_of X G d_sCheck.a
  obtain ⟨fd_sGath, F_sGath⟩ := d_sGath.fn
  have b_sGath : Binds K fd_sGath ["pairs"] [] := F_sGath.binds fun _ _ _ _ _ _ us hl => match us, hl with | [_], _ => rfl
  have m_sGath := PySem.W.mg_of X G d_sGath.a
  obtain ⟨fd_sPolyT, F_sPolyT⟩ := d_sPolyT.fn
  have b_sPolyT : Binds K fd_sPolyT ["poly"] [] := F_sPolyT.binds fun _ _ _ _ _ _ us hl => match us, hl with | [_], _ => rfl
  have m_sPolyT := PySem.W.mg_of X G d_sPolyT.a
  obtain ⟨fd_sPairT, F_sPairT⟩ := d_sPairT.fn
  have b_sPairT : Binds K fd_sPairT ["exponent", "coefficient"] [] := F_sPairT.binds fun _ _ _ _ _ _ us hl => match us, hl with | [_, _], _ => rfl
  have m_sPairT := PySem.W.mg_of X G d_sPairT.a
  obtain ⟨fd_sPRead, F_sPRead⟩ := d_sPRead.fn
  have b_sPRead : Binds K fd_sPRead ["text"] [] := F_sPRead.binds fun _ _ _ _ _ _ us hl => match us, hl with | [_], _ => rfl
  have m_sPRead := PySem.W.mg_of X G d_sPRead.a
  obtain ⟨fd_sPN, F_sPN⟩ := d_sPN.fn
  have b_sPN : Binds K fd_sPN ["text"] [] := F_sPN.binds fun _ _ _ _ _ _ us hl => match us, hl with | [_], _ => rfl
  have m_sPN := PySem.W.mg_of X G d_sPN.a
  obtain ⟨fd_sPairR, F_sPairR⟩ := d_sPairR.fn
  have b_sPairR : Binds K fd_sPairR ["item"] [] := F_sPairR.binds fun _ _ _ _ _ _ us hl => match us, hl with | [_], _ => rfl
  have m_sPairR := PySem.W.mg_of X G d_sPairR.a
  obtain ⟨fd_sExpR, F_sExpR⟩ := d_sExpR.fn
  have b_sExpR : Binds K fd_sExpR ["power"] [] := F_sExpR.binds fun _ _ _ _ _ _ us hl => match us, hl with | [_], _ => rfl
  have m_sExpR := PySem.W.mg_of X G d_sExpR.a
  obtain ⟨fd_sNumR, F_sNumR⟩ := d_sNumR.fn
  have b_sNumR : Binds K fd_sNumR ["text"] [] := F_sNumR.binds fun _ _ _ _ _ _ us hl => match us, hl with | [_], _ => rfl
  have m_sNumR := PySem.W.mg_of X G d_sNumR.a
  obtain ⟨c1, t1, FC1, h1, e1⟩ := funC_tab T0 X F_sIsAsc m_sIsAsc q1
  obtain ⟨c2, t2, FC2, h2, e2⟩ := funC_tab T0 X F_sIsPoly m_sIsPoly q2
  obtain ⟨c3, t3, FC3, h3, e3⟩ := funC_tab T0 X F_sNumR m_sNumR q3
  have each : ∀ {Z : Addr × Addr → Prop}, Z (c1, t1) → Z (c2, t2) → Z (c3, t3) → ∀ p ∈ [(c1, t1), (c2, t2), (c3, t3)], Z p := fun a1 a2 a3 p hp => by
    simp only [List.mem_cons, List.not_mem_nil, or_false] at hp
    rcases hp with rfl | rfl | rfl
    · exact a1
    · exact a2
    · exact a3
  refine ⟨fd_sLaw2, [(c1, t1), (c2, t2), (c3, t3)], spLaw2 K [t1, t2, t3], each e1 e2 e3, each (no_tab X hn e1) (no_tab X hn e2) (no_tab X hn e3), each h1 h2 h3, ?_, ?_, fun base _ _ sys TB => ?_⟩
  · intro s u
    obtain ⟨_, _, _, _, _, _, _, _, _, rfl, _⟩ := F_sLaw2.ex
    exact .of_eq rfl
  · intro H a ns hlen tabs hS
    have tg : ∀ p ∈ [(c1, t1), (c2, t2), (c3, t3)], TabG H p.2 := fun p hp => ⟨#[], tabs p hp, by trivial⟩
    refine ⟨a, ns, rfl, hS, hlen, fun z hz => ?_, fun _ => rfl⟩
    simp only [List.mem_cons, List.not_mem_nil, or_false] at hz
    rcases hz with rfl | rfl | rfl
    · exact tg (c1, _) (by simp)
    · exact tg (c2, _) (by simp)
    · exact tg (c3, _) (by simp)
  have TB1 := TB (c1, t1) (by simp)
  have TB2 := TB (c2, t2) (by simp)
  have TB3 := TB (c3, t3) (by simp)
  have E_BadText : ErrM' l.prog w K mg base B "BadText" "at" C_BadText := by
    obtain ⟨fdI, FI⟩ := c_BadText.fn
    refine ⟨c_BadText.err X G, c_BadText.no, I_BadText, fdI, c_BadText.iC, c_BadText.tI, ok_init FI ⟨rfl, rfl, rfl, by decide +kernel, rfl, by decide +kernel, by decide +kernel⟩ (Or.inl rfl) (Or.inl rfl) rfl rfl (fun _ => rfl) (c_BadText.err X G).own c_BadText.no bs rfl rfl, ?_⟩
    obtain ⟨_, _, _, _, _, _, _, _, _, rfl, _⟩ := FI.ex
    intro s a us ws _ h1 h2
    match us, ws, h1, h2 with
    | [_], [], _, _ => exact .of_eq rfl
  have Kdeck : Call1 l.prog w K mg base "_law_deck" 1 ["script", "seed"] (spDeck K) := ⟨_, _, ok_deck F_sDeck T1, b_sDeck, F_sDeck.kp, m_sDeck⟩
  have Kdraw : Call1 l.prog w K mg base "_law_draw" 1 ["deck", "many"] spDraw := ⟨_, _, ok_draw F_sDraw T1, b_sDraw, F_sDraw.kp, m_sDraw⟩
  have Kpick : Call1 l.prog w K mg base "_law_pick" 2 ["deck", "some"] spPick := ⟨_, _, ok_pick F_sPick T1 Kdraw, b_sPick, F_sPick.kp, m_sPick⟩
  have Kdpoly : Call1 l.prog w K mg base "_law_drawn_poly" 3 ["deck", "many", "most"] spDPoly := ⟨_, _, ok_dpoly F_sDPoly T Kdraw Kpick, b_sDPoly, F_sDPoly.kp, m_sDPoly⟩
  have Klow : Call1 l.prog w K mg base "_law_is_low" 1 ["poly"] spLow := ⟨_, _, ok_lLow F_sLLow T, b_sLLow, F_sLLow.kp, m_sLLow⟩
  have Klpt : Call1 l.prog w K mg base "_law_poly_text" 1 ["poly"] spLPT := ⟨_, _, ok_lPT F_sLPT T, b_sLPT, F_sLPT.kp, m_sLPT⟩
  have Kfig : Call1 l.prog w K mg base "_law_are_figures" 1 ["text"] spFig := ⟨_, _, ok_lFig F_sLFig T, b_sLFig, F_sLFig.kp, m_sLFig⟩
  have Kitem : Call1 l.prog w K mg base "_law_read_item" 2 ["text"] spItem := ⟨_, _, ok_lItem F_sLItem T Kfig, b_sLItem, F_sLItem.kp, m_sLItem⟩
  have Klread : Call1 l.prog w K mg base "_law_read_poly" 3 ["text"] spLRead := ⟨_, _, ok_lRead F_sLRead T Kitem, b_sLRead, F_sLRead.kp, m_sLRead⟩
  have Kbent : Call1 l.prog w K mg base "_law_bent_text" 3 ["deck", "text"] spBentT := ⟨_, _, ok_bentT F_sBentT T Kdraw Kpick, b_sBentT, F_sBentT.kp, m_sBentT⟩
  have Kint : Call1 l.prog w K mg base "is_integer" 1 ["thing"] (spD isIntD) := ⟨_, _, ok_isInt F_sIsInt T, b_sIsInt, F_sIsInt.kp, m_sIsInt⟩
  have Kpair : Call1 l.prog w K mg base "is_pair" 2 ["thing"] (spD isPairD) := ⟨_, _, ok_isPair F_sIsPair T Kint, b_sIsPair, F_sIsPair.kp, m_sIsPair⟩
  have Kasc : Call1 l.prog w K mg base "is_ascending" 2 ["items"] (spAsc [t1, t2, t3]) := ⟨_, _, ok_isAsc FC1 TB1 (by simp) T, b_sIsAsc, F_sIsAsc.kp, m_sIsAsc⟩
  have Kpoly : Call1 l.prog w K mg base "is_poly" 4 ["thing"] (spL [t1, t2, t3] isPolyD) := ⟨_, _, ok_isPoly FC2 TB2 (by simp) T Kpair Kasc, b_sIsPoly, F_sIsPoly.kp, m_sIsPoly⟩
  have Kcheck : Call1 l.prog w K mg base "check_both" 5 ["poly", "other"] (spCheck [t1, t2, t3]) := ⟨_, _, ok_check F_sCheck Kpoly, b_sCheck, F_sCheck.kp, m_sCheck⟩
  have Kgath : Call1 l.prog w K mg base "gathered" 1 ["pairs"] spGath := ⟨_, _, ok_gath F_sGath T, b_sGath, F_sGath.kp, m_sGath⟩
  have Ksum : Call1 l.prog w K mg base "sum_of" 6 ["poly", "other"] (spTwo [t1, t2, t3] fun p r => p ++ r) := ⟨_, _, ok_sum F_sSum T Kcheck Kgath, b_sSum, F_sSum.kp, m_sSum⟩
  have KpairT : Call1 l.prog w K mg base "pair_text" 1 ["exponent", "coefficient"] spPairT := ⟨_, _, ok_pairT F_sPairT T, b_sPairT, F_sPairT.kp, m_sPairT⟩
  have KpolyT : Call1 l.prog w K mg base "poly_text" 5 ["poly"] (spPolyT [t1, t2, t3]) := ⟨_, _, ok_polyT F_sPolyT T (mz z_reversed) Kpoly KpairT, b_sPolyT, F_sPolyT.kp, m_sPolyT⟩
  have Knum : Call1 l.prog w K mg base "numeral_read" 2 ["text"] (spTx [t1, t2, t3] fun l => ((numeral l : Nat) : Int)) := ⟨_, _, ok_numR FC3 TB3 (by simp) T (mz z_ord), b_sNumR, F_sNumR.kp, m_sNumR⟩
  have Kexp : Call1 l.prog w K mg base "exponent_read" 3 ["power"] (spTx [t1, t2, t3] expP) := ⟨_, _, ok_expR F_sExpR Knum, b_sExpR, F_sExpR.kp, m_sExpR⟩
  have KpairR : Call1 l.prog w K mg base "pair_read" 4 ["item"] (spPR [t1, t2, t3]) := ⟨_, _, ok_pairR F_sPairR Knum Kexp, b_sPairR, F_sPairR.kp, m_sPairR⟩
  have Kpn : Call1 l.prog w K mg base "poly_or_none" 5 ["text"] (spPN [t1, t2, t3]) := ⟨_, _, ok_PN F_sPN T (mz z_reversed) KpairR Kpoly, b_sPN, F_sPN.kp, m_sPN⟩
  have FR := ok_PRead (P := l.prog) (w := w) (base := base) F_sPRead T E_BadText Kpn
  have kpt : KBinds K fd_sPolyT ["poly"] ["poly"] kg1 kv1 := by
    obtain ⟨_, _, _, _, _, _, _, _, _, rfl, _⟩ := F_sPolyT.ex
    refine ⟨fun s us ws _ hl => ?_, kr1⟩
    cases us with
    | cons _ _ => cases hl
    | nil =>
      match ws, hl with
      | [_], _ => exact .of_eq rfl
  have kpr : KBinds K fd_sPRead ["text"] ["text"] kg1 kv1 := by
    obtain ⟨_, _, _, _, _, _, _, _, _, rfl, _⟩ := F_sPRead.ex
    refine ⟨fun s us ws _ hl => ?_, kr1⟩
    cases us with
    | cons _ _ => cases hl
    | nil =>
      match ws, hl with
      | [_], _ => exact .of_eq rfl
  have Ktold : Call1 l.prog w K mg base "_law_told" 7 ["text", "way"] (spTold [t1, t2, t3]) := ⟨_, _, ok_told F_sTold T bs gk E_BadText ⟨_, _, FR, b_sPRead, kpr, F_sPRead.kp, m_sPRead⟩, b_sTold, F_sTold.kp, m_sTold⟩
  refine ok_law2 F_sLaw2 T ⟨Kdeck, Kdraw, Kpick, Kdpoly, Klpt, Klow, Kbent, Klread, Ktold, Ksum, KpolyT, ?_, ?_, ?_, sys⟩
  · exact ⟨_, _, ok_polyT F_sPolyT T (mz z_reversed) Kpoly KpairT, kpt, F_sPolyT.kp, m_sPolyT⟩
  · exact ⟨_, _, pread_good FR, b_sPRead, F_sPRead.kp, m_sPRead⟩
  · exact ⟨_, _, pread_good FR, kpr, F_sPRead.kp, m_sPRead⟩
end Zk

open PySem PySem.W PyProof.Rows in
set_option maxRecDepth 100000 in
set_option maxHeartbeats 0 in
theorem PySem.Challenge.cw_narrowplay_k02_whole_texts_of_polynomial_holds : PySem.Challenge.rw_narrowplay_k02_whole_texts_of_polynomial.Holds := by
  w_on; o_law; k_head; (case hw => w_witness2)
  k_fill
  refine Zk.walk_topT (l := PySem.Challenge.rw_narrowplay_k02_whole_texts_of_polynomial) (n := 63) (x := "script") rfl (by decide) rfl (by decide +kernel) (fun w h Y => PySem.W.kIn_of Y) ?F
  case F =>
    intro w mean mg fb fa h KX T hmg
    refine' Zk.all_mk KX T hmg ?hn ?q1 ?q2 ?q3 (Zk.baseC_mk KX T.g ?gB ?xB ?ty ?ex ?sp ?rd ?fc) ⟨?g1, ?g2⟩
      (Zk.clsF_mk ?gC_BadText ?xL_BadText ?sa_BadText ?ga_BadText ?gg_BadText ?ca_BadText ?exC_BadText ?tyC_BadText ?kC_BadText ?no_BadText ?iC_BadText ?tI_BadText ?l1_BadText ?c1_BadText ?k1_BadText)
      (Zk.defF_mk ?a_sDeck ?l_sDeck ?c_sDeck ?k_sDeck)
      (Zk.defF_mk ?a_sDraw ?l_sDraw ?c_sDraw ?k_sDraw)
      (Zk.defF_mk ?a_sPick ?l_sPick ?c_sPick ?k_sPick)
      (Zk.defF_mk ?a_sLLow ?l_sLLow ?c_sLLow ?k_sLLow)
      (Zk.defF_mk ?a_sDPoly ?l_sDPoly ?c_sDPoly ?k_sDPoly)
      (Zk.defF_mk ?a_sLPT ?l_sLPT ?c_sLPT ?k_sLPT)
      (Zk.defF_mk ?a_sLFig ?l_sLFig ?c_sLFig ?k_sLFig)
      (Zk.defF_mk ?a_sLItem ?l_sLItem ?c_sLItem ?k_sLItem)
      (Zk.defF_mk ?a_sLRead ?l_sLRead ?c_sLRead ?k_sLRead)
      (Zk.defF_mk ?a_sTold ?l_sTold ?c_sTold ?k_sTold)
      (Zk.defF_mk ?a_sBentT ?l_sBentT ?c_sBentT ?k_sBentT)
      (Zk.defF_mk ?a_sLaw2 ?l_sLaw2 ?c_sLaw2 ?k_sLaw2)
      (Zk.defF_mk ?a_sIsInt ?l_sIsInt ?c_sIsInt ?k_sIsInt)
      (Zk.defF_mk ?a_sIsAsc ?l_sIsAsc ?c_sIsAsc ?k_sIsAsc)
      (Zk.defF_mk ?a_sIsPoly ?l_sIsPoly ?c_sIsPoly ?k_sIsPoly)
      (Zk.defF_mk ?a_sIsPair ?l_sIsPair ?c_sIsPair ?k_sIsPair)
      (Zk.defF_mk ?a_sSum ?l_sSum ?c_sSum ?k_sSum)
      (Zk.defF_mk ?a_sCheck ?l_sCheck ?c_sCheck ?k_sCheck)
      (Zk.defF_mk ?a_sGath ?l_sGath ?c_sGath ?k_sGath)
      (Zk.defF_mk ?a_sPolyT ?l_sPolyT ?c_sPolyT ?k_sPolyT)
      (Zk.defF_mk ?a_sPairT ?l_sPairT ?c_sPairT ?k_sPairT)
      (Zk.defF_mk ?a_sPRead ?l_sPRead ?c_sPRead ?k_sPRead)
      (Zk.defF_mk ?a_sPN ?l_sPN ?c_sPN ?k_sPN)
      (Zk.defF_mk ?a_sPairR ?l_sPairR ?c_sPairR ?k_sPairR)
      (Zk.defF_mk ?a_sExpR ?l_sExpR ?c_sExpR ?k_sExpR)
      (Zk.defF_mk ?a_sNumR ?l_sNumR ?c_sNumR ?k_sNumR)
      ?z_int ?z_list ?z_max ?z_len ?z_range ?z_tuple ?z_repr ?z_isinstance ?z_bool ?z_str ?z_all ?z_sum ?z_sorted ?z_min ?z_reversed ?z_ord
    (case hn => rfl)
    (case q1 => decide +kernel)
    (case q2 => decide +kernel)
    (case q3 => decide +kernel)
    (case gB => k_is)
    (case xB => k_is)
    (case ty => k_is)
    (case ex => k_is)
    (case sp => k_is)
    (case rd => k_is)
    (case fc => k_is)
    (case g1 => k_is)
    (case g2 => k_is)
    (case gC_BadText => k_is)
    (case xL_BadText => k_is)
    (case sa_BadText => k_is)
    (case ga_BadText => k_is)
    (case gg_BadText => k_is)
    (case ca_BadText => k_is)
    (case exC_BadText => k_is)
    (case tyC_BadText => k_is)
    (case kC_BadText => k_is)
    (case no_BadText => k_is)
    (case iC_BadText => k_is)
    (case tI_BadText => k_is)
    (case l1_BadText => k_is)
    (case c1_BadText => k_is)
    (case k1_BadText => k_is)
    (case a_sDeck => k_is)
    (case l_sDeck => k_is)
    (case c_sDeck => k_is)
    (case k_sDeck => k_is)
    (case a_sDraw => k_is)
    (case l_sDraw => k_is)
    (case c_sDraw => k_is)
    (case k_sDraw => k_is)
    (case a_sPick => k_is)
    (case l_sPick => k_is)
    (case c_sPick => k_is)
    (case k_sPick => k_is)
    (case a_sLLow => k_is)
    (case l_sLLow => k_is)
    (case c_sLLow => k_is)
    (case k_sLLow => k_is)
    (case a_sDPoly => k_is)
    (case l_sDPoly => k_is)
    (case c_sDPoly => k_is)
    (case k_sDPoly => k_is)
    (case a_sLPT => k_is)
    (case l_sLPT => k_is)
    (case c_sLPT => k_is)
    (case k_sLPT => k_is)
    (case a_sLFig => k_is)
    (case l_sLFig => k_is)
    (case c_sLFig => k_is)
    (case k_sLFig => k_is)
    (case a_sLItem => k_is)
    (case l_sLItem => k_is)
    (case c_sLItem => k_is)
    (case k_sLItem => k_is)
    (case a_sLRead => k_is)
    (case l_sLRead => k_is)
    (case c_sLRead => k_is)
    (case k_sLRead => k_is)
    (case a_sTold => k_is)
    (case l_sTold => k_is)
    (case c_sTold => k_is)
    (case k_sTold => k_is)
    (case a_sBentT => k_is)
    (case l_sBentT => k_is)
    (case c_sBentT => k_is)
    (case k_sBentT => k_is)
    (case a_sLaw2 => k_is)
    (case l_sLaw2 => k_is)
    (case c_sLaw2 => k_is)
    (case k_sLaw2 => k_is)
    (case a_sIsInt => k_is)
    (case l_sIsInt => k_is)
    (case c_sIsInt => k_is)
    (case k_sIsInt => k_is)
    (case a_sIsAsc => k_is)
    (case l_sIsAsc => k_is)
    (case c_sIsAsc => k_is)
    (case k_sIsAsc => k_is)
    (case a_sIsPoly => k_is)
    (case l_sIsPoly => k_is)
    (case c_sIsPoly => k_is)
    (case k_sIsPoly => k_is)
    (case a_sIsPair => k_is)
    (case l_sIsPair => k_is)
    (case c_sIsPair => k_is)
    (case k_sIsPair => k_is)
    (case a_sSum => k_is)
    (case l_sSum => k_is)
    (case c_sSum => k_is)
    (case k_sSum => k_is)
    (case a_sCheck => k_is)
    (case l_sCheck => k_is)
    (case c_sCheck => k_is)
    (case k_sCheck => k_is)
    (case a_sGath => k_is)
    (case l_sGath => k_is)
    (case c_sGath => k_is)
    (case k_sGath => k_is)
    (case a_sPolyT => k_is)
    (case l_sPolyT => k_is)
    (case c_sPolyT => k_is)
    (case k_sPolyT => k_is)
    (case a_sPairT => k_is)
    (case l_sPairT => k_is)
    (case c_sPairT => k_is)
    (case k_sPairT => k_is)
    (case a_sPRead => k_is)
    (case l_sPRead => k_is)
    (case c_sPRead => k_is)
    (case k_sPRead => k_is)
    (case a_sPN => k_is)
    (case l_sPN => k_is)
    (case c_sPN => k_is)
    (case k_sPN => k_is)
    (case a_sPairR => k_is)
    (case l_sPairR => k_is)
    (case c_sPairR => k_is)
    (case k_sPairR => k_is)
    (case a_sExpR => k_is)
    (case l_sExpR => k_is)
    (case c_sExpR => k_is)
    (case k_sExpR => k_is)
    (case a_sNumR => k_is)
    (case l_sNumR => k_is)
    (case c_sNumR => k_is)
    (case k_sNumR => k_is)
    (case z_int => k_is)
    (case z_list => k_is)
    (case z_max => k_is)
    (case z_len => k_is)
    (case z_range => k_is)
    (case z_tuple => k_is)
    (case z_repr => k_is)
    (case z_isinstance => k_is)
    (case z_bool => k_is)
    (case z_str => k_is)
    (case z_all => k_is)
    (case z_sum => k_is)
    (case z_sorted => k_is)
    (case z_min => k_is)
    (case z_reversed => k_is)
    (case z_ord => k_is)

