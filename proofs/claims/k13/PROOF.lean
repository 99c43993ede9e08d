import PyProof.Rows.All
import Wide.All
import OpenK.AllK
import Wide.FinOn
import PyProof.GenCompD
import PyProof.WalksMore
import HandS.ForMost
import HandS.EndTab
import HandS.EndOwn
import HandS.AnyAll
import HandS.IsInst
import PyProof.ReprRoads
import KE.KIndexOf
import KE.KRevSl
import HandS.Conv
import HandS.Style
import KE.KNest
import KE.DataEq
import KE.GoesEnum
import KE.GoesMore
import HandS.TupAny
import HandS.Walk
import KE.DataMinMax
import PySem.Challenge.RW_lowerboards_k13_whole_blocks_and_beside
set_option Elab.async false
set_option linter.all false
set_option maxRecDepth 100000
set_option maxHeartbeats 2000000
namespace Lb
open PySem PySem.Spec PyProof.Rows L2 GxR

section
variable {X : Cx} {pins : List (Addr × Obj)} {σ : L2.St} {H : Hp} {s : Shared}

/-- the element of a generator expression: a test of the item v, told for any frame of it -/
def EltD (X : Cx) (scope : Scope) (x : Str) (elt : Expr) (ok : V → Prop) (pb : V → Bool) : Prop :=
  ∀ (cenv : Env) (A' : Around) (E' : Value → Shared → Prop) (v : V) (u : Value) (s₂ : Shared) (m₂ : Str → Option Value),
    L2.Mod X.K X.mg X.base → RelV v u → ok v → A'.handled = none → A'.depth ≤ X.A.depth + 1 → A'.units ≤ X.A.units + 8 → cenv.scope = scope → cenv.globals = mainGlobals → cenv.builtins = builtinsNs →
    (∀ b o, X.base.get? b = some o → s₂.heap.get? b = some o) → s₂.heap.Ns cenv.locals m₂ → m₂ x = some u →
    wpAny (model X.prog X.w) A' (eval elt cenv) (fun y s₃ => y = .bool (pb v) ∧ Keeps s₂ s₃) E' s₂

def trL (pb : V → Bool) (l : List V) (j : Nat) : Bool := (l[j]?.map pb).getD false
theorem trL_some {pb : V → Bool} {l : List V} {j : Nat} {b : V} (h : l[j]? = some b) : trL pb l j = pb b := by
  unfold trL
  rw [h]
  rfl
theorem all_trL (pb : V → Bool) : ∀ l : List V, (List.range l.length).all (trL pb l) = l.all pb
  | [] => rfl
  | b :: r => by
    rw [List.length_cons, List.range_succ_eq_map, List.all_cons, List.all_map, List.all_cons, ← all_trL pb r]
    rfl

/-- the generator at g yields a truth for each item of xs; once it has been walked, the heap is as it was but for its def's table -/
def ReadyL (X : Cx) (pins : List (Addr × Obj)) (σ : L2.St) (H1 : Hp) (P : Addr) (xs : List V) (pb : V → Bool) (g : Addr) (s5 : Shared) : Prop :=
  ∃ fp wr Gs Yl At, WalksS X.prog X.w X.A.in1 g fp wr Gs xs.length Yl At ∧ At 0 s5 ∧ TruthOf X.prog X.w X.A.in1 Yl (trL pb xs) ∧ ∀ z, Moved wr Gs s5 z → ∃ H2, Tabbed P H1 H2 ∧ Inv X pins σ H2 z

/-- a list or a tuple, as it is read -/
def SeqLT (K : PySem.W.Frag) (H : Hp) (a : Addr) (xs : List V) : Prop := SqL K H a xs ∨ SqT K H a xs

/-- what the iterator over a seq at a is, as the generator sees it: the iterator is the next object, o -/
structure Feed (P : Program) (w : World) (h : Heap) (a : Addr) (xs : List V) (o : Obj) (its : List Value) (At : Nat → Heap → Prop) : Prop where
  rel : Vals xs its
  low : a < h.objs.size
  cls : ∀ p u, h.get? p = some u → u.cls = .none → p ≠ a
  walk : ∀ B : Around, B.handled = none → Walks P w B h.objs.size [h.objs.size, a] [h.objs.size] xs.length (fun i v => its[i]? = some v) At
  at0 : At 0 (h.push o)
theorem iter_seq {a : Addr} {xs : List V} {Q : Value → Shared → Prop} {E : Value → Shared → Prop} (I : Inv X pins σ H s) (hq : SeqLT X.K H a xs)
    (done : ∀ o its At, Feed X.prog X.w s.heap a xs o its At → Q (.ref s.heap.objs.size) { s with heap := s.heap.push o }) : wpAny (model X.prog X.w) X.A (pyIter (.ref a)) Q E s := by
  rcases hq with hq | hq
  · obtain ⟨its, rel, laid, _⟩ := I.list hq
    have isL := laid.isList
    obtain ⟨oa, ga, ca, _⟩ := id isL
    have nsz : its.toArray.size = xs.length := by rw [List.size_toArray, rel.length]
    refine wpAny_pyIter_list isL (done _ its (fun i m => m.IsListIter s.heap.objs.size a i ∧ m.IsList a its.toArray) ⟨rel, Heap.lt_size ga, fun p u gp cp e => ?_, fun B hB => ?_, ⟨⟨_, Heap.get?_push_size _ rfl, rfl, rfl⟩, isL.push _⟩⟩)
    · rw [e, ga] at gp
      cases gp
      rw [cp] at ca
      cases ca
    · have W := Walks.list (prog := X.prog) (w := X.w) hB s.heap.objs.size a (Nat.ne_of_lt (Heap.lt_size ga)) its.toArray
      rw [nsz] at W
      simpa using W
  · obtain ⟨its, rel, laid, _⟩ := I.tuple hq
    have isT : s.heap.IsTuple a its.toArray := laid
    obtain ⟨oa, ga, ca, _⟩ := id isT
    have nsz : its.toArray.size = xs.length := by rw [List.size_toArray, rel.length]
    refine wpAny_pyIter_tuple isT (done _ its (fun i m => m.IsTupleIter s.heap.objs.size a i ∧ m.IsTuple a its.toArray) ⟨rel, Heap.lt_size ga, fun p u gp cp e => ?_, fun B hB => ?_, ⟨⟨_, Heap.get?_push_size _ rfl, rfl, rfl⟩, isT.at fun _ e => Heap.get?_push_of_some _ e⟩⟩)
    · rw [e, ga] at gp
      cases gp
      rw [cp] at ca
      cases ca
    · have W := Walks.tuple (prog := X.prog) (w := X.w) hB s.heap.objs.size a (Nat.ne_of_lt (Heap.lt_size ga)) its.toArray
      rw [nsz] at W
      simpa using W

/-- the generator expression's code object is the one in the def's table, or one that is put there -/
theorem code_in_table {env : Env} {c P : Addr} {tab : Array Value} {pos : Pos} {qn : Str} {scope : Scope} {Q : Value → Shared → Prop} {E : Value → Shared → Prop} {P0 : Program} {w0 : World} {A : Around} (hc : env.code = .ref c) (cd : PySem.W.CodeHd s.heap c P)
    (gP : s.heap.get? P = some { cls := .none, data := .fields tab }) (tr : TriplesOk tab.toList)
    (done : ∀ code h' tk more, Heap.ExtBut P s.heap h' → s.heap.objs.size ≤ h'.objs.size → h'.get? P = some { cls := .none, data := .fields (tab ++ more) } → TriplesOk (tab ++ more).toList → Q code { s with heap := h', toks := tk }) :
    wpAny (model P0 w0) A (genexprCode env pos qn scope) Q E s := by
  match q : codeAmong pos tab.toList with
  | some k => exact wpAny_genexprCode_hit hc (cd.code gP tr) q (done k s.heap s.toks #[] (.refl _ _) (Nat.le_refl _) (by rw [Array.append_empty]; exact gP) (by rw [Array.append_empty]; exact tr))
  | none =>
    refine wpAny_genexprCodeX hc (cd.code gP tr) (cd.tab gP) q fun k h' tk ext ge lt is _ at_ _ => ?_
    obtain ⟨_, _, _, _, _, _, _, _, _, _, _, _, _, _, _, _, _, _, _, tr', _⟩ := is
    exact done _ h' tk _ ext (Nat.le_of_lt (Nat.lt_of_le_of_lt ge lt)) at_.2 tr'

theorem gen_seq {c P : Addr} {elt iter : Expr} {x : Str} {px gpos : Pos} {scope : Scope} {ok : V → Prop} {pb : V → Bool} {te : TE} {k : Nat} {Q' : Value → Shared → Prop} {R : List V → Hp → Prop}
    (room : Room k X.A) (TB : GxR.TabB X.base X.mg c P) (own : X.env.code = .ref c) (S : GenS X.env scope x) (src : PE X iter te) (hel : EltD X scope x elt ok pb) (nofold : ∀ v, genFold iter X.env v = pure v) (I : Inv X pins σ H s)
    (h : te σ H fun v H1 => ∃ (a : Addr) (xs : List V), v = .ref a ∧ SeqLT X.K H1 a xs ∧ (∀ v ∈ xs, ok v) ∧ TabG H1 P ∧ R xs H1) (hQ : ∀ xs H1 g s5, R xs H1 → ReadyL X pins σ H1 P xs pb g s5 → Q' (.ref g) s5) :
    wpAny (model X.prog X.w) X.A (eval (.GeneratorExp elt [⟨.Name x px, iter, [], 0⟩] scope gpos) X.env) Q' X.xe s := by
  have deep : X.A.depth < recursionLimit := by have := room.dp; omega
  refine wpAny_GeneratorExp_walksQD room.hd S.co (closure_ok S.free) S.cell S.dot S.loc S.kind deep (thn (src.run pins s σ H _ I h) fun u0 s1 ⟨v0, H1, I1, r0, a, xs, e0, hq, oks, ⟨tab, tP, tr⟩, hR⟩ => ?_) nofold
  subst e0
  cases (show u0 = Value.ref a from r0)
  refine iter_seq I1 hq fun o its At F => ?_
  -- the table's own place, and what stands elsewhere
  have gP : s1.heap.get? P = some { cls := .none, data := .fields tab } := I1.hok P _ tP
  have lowP := Heap.lt_size gP
  have grow : ∀ b u, s1.heap.get? b = some u → (s1.heap.push o).get? b = some u := fun b u e => Heap.get?_push_of_some _ e
  have nl := I1.nolimit.push o
  have stat : cStatics < s1.heap.objs.size ∧ cStatics ≠ P := by
    obtain ⟨_, ns, _⟩ := I1.nolimit
    refine ⟨ns.lt, fun e => ?_⟩
    obtain ⟨ob, _, _, g, d, _⟩ := ns
    rw [e, gP] at g
    cases g
    cases d
  refine ⟨nl, code_in_table own (TB.code.keeps fun b u e => grow b u (I1.bk b u e)) (grow P _ gP) tr fun code h3 tk more ext big gP3 tr3 => ?_⟩
  have szo : (s1.heap.push o).objs.size = s1.heap.objs.size + 1 := Heap.size_push ..
  have room3 : s1.heap.objs.size < h3.objs.size := by
    have b2 := big
    rw [szo] at b2
    exact b2
  have stays : ∀ b u, b ≠ P → s1.heap.get? b = some u → h3.get? b = some u := fun b u nb e => ext b u nb (grow b u e)
  have based : ∀ b u, X.base.get? b = some u → b ≠ P ∧ s1.heap.get? b = some u := fun b u e => by
    refine ⟨fun z => ?_, I1.bk b u e⟩
    have no := (I1.bs b u e).2
    rw [z, tP] at no
    cases no
  obtain ⟨bm, ob, b1, b2, b3, b4, b5, b6, b7, b8⟩ := TB.bm
  refine wpAny_builtinsFor (m := X.mg) (by rw [I1.ok.glob]; exact Heap.Ns.extBut ((I1.mod.glob.keeps I1.bk).push o) ext TB.gP) b1 b2 (stays _ _ b4 (I1.bk _ _ b5)) b6 b7 b8 ?_
  have foot : ∀ b ∈ [s1.heap.objs.size, a], b ≠ P ∧ b < h3.objs.size := fun b hb => by
    simp only [List.mem_cons, List.not_mem_nil, or_false] at hb
    rcases hb with e | e <;> rw [e]
    · exact ⟨(Nat.ne_of_lt lowP).symm, room3⟩
    · exact ⟨(F.cls P _ gP rfl).symm, Nat.lt_trans F.low room3⟩
  refine ⟨_, _, [s1.heap.objs.size], xs.length, fun i y => its[i]? = some y, At, fun _ => true, fun i y => ∃ d, xs[i]? = some d ∧ y = .bool (pb d), rfl, F.walk, ?_, fun b hb => (foot b hb).2, nl.extBut ext stat.2, fun e => Nat.ne_of_lt stat.1 (List.mem_singleton.mp e), fun later kept => ⟨?_, ?_⟩, ?_⟩
  · exact (F.walk X.A room.hd).frame _ _ _ F.at0 fun b hb u e => ext b u (foot b hb).1 e
  · intro B E' i y t mt _ _ _ _ _ _ _
    simp only [List.forIn_nil]
    exact wpAny_pure ⟨rfl, keeps_refl _⟩
  · intro B E' i y t mt hB dB uB hy _ ln lm lk
    have lt : i < xs.length := by
      rw [F.rel.length]
      exact (List.getElem?_eq_some_iff.mp hy).1
    have at_ := List.getElem?_eq_getElem lt
    obtain ⟨y', hy', ry⟩ := F.rel.get at_
    cases hy.symm.trans hy'
    refine wpAny_mono (hel _ B E' xs[i] y t mt I1.ok.mod ry (oks _ (List.getElem_mem lt)) hB dB uB rfl I1.ok.glob rfl (fun b u e => ?_) ln lm) (fun z t' r => ⟨⟨_, at_, r.1⟩, r.2⟩) fun _ _ e => e
    obtain ⟨nb, eb⟩ := based b u e
    have e3 := stays b u nb eb
    exact lk b (List.mem_range.mpr (Heap.lt_size e3)) (fun z => Nat.ne_of_lt (Heap.lt_size eb) (List.mem_singleton.mp z)) u (kept b u e3)
  · intro g h5 tk5 gen bare gt sz5 keep5 W5 start
    simp only [GxR.passing_true, List.length_range] at W5
    refine hQ xs H1 g _ hR ⟨_, _, _, _, _, W5.in4_1, start, fun j y t Qj Ej hy hj => ?_, fun z mv => ?_⟩
    · obtain ⟨i, hi, d, hd, rfl⟩ := hy
      obtain ⟨_, ei⟩ := List.getElem?_eq_some_iff.mp hi
      rw [List.getElem_range] at ei
      subst ei
      rw [trL_some hd] at hj
      exact wpAny_truthy_bool hj
    · have apart : ∀ b u, s1.heap.get? b = some u → b ∉ h3.objs.size :: [s1.heap.objs.size] := fun b u e hb => by
        have lb : (b : Nat) < s1.heap.objs.size := Heap.lt_size e
        simp only [List.mem_cons, List.not_mem_nil, or_false] at hb
        rcases hb with e' | e' <;> rw [e'] at lb
        · exact Nat.lt_irrefl _ (Nat.lt_trans lb room3)
        · exact Nat.lt_irrefl _ lb
      have fin := inv_tab (more := more) (h' := z.heap) (g' := z.gens) (d' := z.drawn) (t' := z.toks) I1 tP (fun b u nb e => mv.heap b u (apart b u e) (keep5 b u (stays b u nb e))) (mv.heap P _ (apart P _ gP) (keep5 P _ gP3)) (AllBare.movedS (I1.bare.push bare) mv)
      rw [sh_eta s1 z mv.os] at fin
      exact ⟨upd H1 P (.tbl (tab ++ more)), ⟨⟨tab ++ more, upd_same, tr3⟩, fun b hb => upd_ne hb⟩, fin⟩

/-- all(test for x in e), e a list or a tuple; behind it the def's table may have grown -/
def tAllD (K : PySem.W.Frag) (P : Addr) (ok : V → Prop) (pb : V → Bool) (te : TE) : TE := fun σ H Q => te σ H fun v H1 => ∃ (a : Addr) (xs : List V), v = .ref a ∧ SeqLT K H1 a xs ∧ (∀ v ∈ xs, ok v) ∧ TabG H1 P ∧ ∀ H2, Tabbed P H1 H2 → Q (.bl (xs.all pb)) H2
theorem pe_allD {c P : Addr} {elt iter : Expr} {x : Str} {px p pos gpos : Pos} {scope : Scope} {ok : V → Prop} {pb : V → Bool} {te : TE} {k : Nat}
    (hr : Room k X.A) (hg : Gl X "all") (hm : X.mg "all" = none) (hb : bootBuiltins "all" = some (.builtin "all")) (TB : GxR.TabB X.base X.mg c P) (hcode : X.env.code = .ref c) (S : GenS X.env scope x) (hi : PE X iter te) (hel : EltD X scope x elt ok pb)
    (hs : ∀ v, genFold iter X.env v = pure v)
    (he : starEach [.GeneratorExp elt [⟨.Name x px, iter, [], 0⟩] scope gpos] X.env = (false, eval (.GeneratorExp elt [⟨.Name x px, iter, [], 0⟩] scope gpos) X.env) :: starEach [] X.env := by rfl) :
    PE X (.Call (.Name "all" p) [.GeneratorExp elt [⟨.Name x px, iter, [], 0⟩] scope gpos] [] pos) (tAllD X.K P ok pb te) := by
  refine ⟨fun pins s σ H Q I h => ?_⟩
  refine wpAny_Call_Name_kw (ld_blt I hg hm hb ?_)
  refine PyProof.Rows.callWith_builtin1 ?_ he (by rfl)
  rw [he]
  show wpAny _ _ (spliced ((false, eval (.GeneratorExp elt [⟨.Name x px, iter, [], 0⟩] scope gpos) X.env) :: backTo pos (starEach [] X.env))) _ _ s
  refine Calls.spliced_cons (gen_seq (R := fun xs H1 => ∀ H2, Tabbed P H1 H2 → Q (.bl (xs.all pb)) H2) hr TB hcode S hi hel hs I h fun xs H1 g s5 hR hG => ?_)
  obtain ⟨fp, wr, G, F, St, W, hst, htr, hI⟩ := hG
  refine Calls.spliced_nil ?_
  refine call_all_walkS (W.self 0 _ _ _ hst ⟨g, fp, wr, G, _, F, St, _, rfl, W, hst, htr, fun s' hmv => ?_⟩)
  obtain ⟨H2, hT, J⟩ := hI s' hmv
  refine ⟨.bl _, H2, J, rfl, ?_⟩
  rw [all_trL pb xs]
  exact hR H2 hT
end
end Lb

set_option Elab.async false
set_option linter.all false
set_option maxRecDepth 100000
set_option maxHeartbeats 2000000
namespace Lb
open PySem PySem.Spec PyProof.Rows L2

section
variable {X : Cx}

/-! repr of data, where no repr is under way -/
def rReprD (K : PySem.W.Frag) (n : Nat) : List V → Hp → VK → Prop := fun xs H Q => ∃ (a : Addr) (d : PyData), xs = [.ref a] ∧ Dp K H (.ref a) d ∧ d.showable = true ∧ d.hasDict = false ∧ d.depth ≤ n ∧ d.shown.length ≤ sizeLine ∧ Q (.str d.shown) H
theorem cr_reprD {n : Nat} (hg : X.A.guards = some []) (hu : X.A.units + (n + 1) < cLine) : CallR X (.builtin "repr") (rReprD X.K n) := by
  intro pins s σ H xs us Q I r h
  obtain ⟨a, d, rfl, dp, hs, hd, hn, hz, q⟩ := h
  rw [Vals.ref1 r]
  obtain ⟨as, rd⟩ := Dp.reads I d (.ref a) (.ref a) dp rfl
  refine repr_of_reads' rd hs (fun e => ?_) hg (by omega) (fun _ _ e => e) (fun h' u tk hk => ?_) hz
  · rw [hd] at e
    cases e
  · exact ⟨.str d.shown, H, I.kept hk, ⟨u, rfl⟩, q⟩

/-! sorted of ints in a list or a tuple -/
theorem collect_tup {P : Program} {w : World} {A : Around} {E : Value → Shared → Prop} {s : Shared} {t : Addr} {vs : List Value} {Q : List Value → Shared → Prop} (ht : s.heap.IsTuple t vs.toArray) (hz : vs.length ≤ sizeLine)
    (h : Q vs { s with heap := (s.heap.push (seqObj "list" #[] 0)).update s.heap.objs.size (Obj.mapSeq (· ++ vs.toArray)) }) :
    wpAny (model P w) A (collect (.ref t)) Q E s := by
  obtain ⟨o, ho, hc, n, hd⟩ := id ht
  have hnew : (s.heap.push (seqObj "list" #[] 0)).get? s.heap.objs.size = some (seqObj "list" #[] 0) := Heap.get?_push_size _ rfl
  have hold : (s.heap.push (seqObj "list" #[] 0)).get? t = some o := Heap.get?_push_of_some _ ho
  unfold collect
  refine wpAny_bind (wpAny_runValue (codeAny_builtin entry_proto_collect' ?_))
  refine wpAny_bind (m := newList []) (wpAny_newList (wpAny_pure ⟨Code.quiet_builtin _ (by decide +kernel), codeAny_builtin entry_list_iadd' ?_⟩))
  show wpAny _ _ (Builtin.List.listExtendWith (.ref s.heap.objs.size) (.ref t) (.ref s.heap.objs.size)) _ _ ⟨s.heap.push (seqObj "list" #[] 0), _, _, _, _⟩
  unfold Builtin.List.listExtendWith
  refine wpAny_bind (wpAny_typeOf (T := "tuple") ⟨o, hold, hc⟩ ?_)
  have e2 : (Value.type "tuple" == Value.type "tuple") = true := rfl
  rw [if_pos (by rw [e2, Bool.or_true])]
  refine wpAny_bind (listItems_at hold hd (wpAny_bind (listItems_at (xs := #[]) (n := 0) hnew rfl ?_)))
  rw [if_neg (by simp)]
  refine wpAny_bind (listUpdate_at (xs := #[]) (n := 0) hnew rfl (wpAny_pure ?_) (Nat.zero_le _) (by show (#[] ++ vs.toArray).size ≤ sizeLine + 1; simp only [Array.size_append, List.size_toArray, List.length_nil]; omega))
  refine wpAny_bind (m := load s.heap.objs.size) (wpAny_load (get?_update_seq hnew _) ?_)
  have e3 : ((#[] : Array Value) ++ vs.toArray).toList = vs := by simp
  show wpAny _ _ (pure ((#[] : Array Value) ++ vs.toArray).toList) Q E _
  rw [e3]
  exact wpAny_pure h

theorem sorted_tupI {P : Program} {w : World} {A : Around} {E : Value → Shared → Prop} {s : Shared} {t : Addr} {vs : List Value} {ns : List Int} {Q : Value → Shared → Prop} (ht : s.heap.IsTuple t vs.toArray) (hI : IntsAre vs ns) (h64 : vs.length < 64)
    (h : ∀ (out : Array Value) (ns' : List Int), IntsAre out.toList ns' → ns'.Perm ns → ns'.Pairwise (· ≤ ·) → Q (.ref (s.heap.objs.size + 1)) { s with heap := sortedAll s.heap vs out }) :
    wpAny (model P w) A (call (.builtin "sorted") [.ref t]) Q E s := by
  refine Calls.call_function_entry kind_sorted plain_sorted entry_sorted (args_sorted1 _) ?_
  unfold Builtin.«sorted»
  refine wpAny_bind (m := checkCount "sorted" 1 1 _) (wpAny_pure (wpAny_bind (collect_tup ht (small64 h64) (wpAny_bind (wpAny_newList ?_)))))
  have z1 : ((s.heap.push (seqObj "list" #[] 0)).update s.heap.objs.size (Obj.mapSeq (· ++ vs.toArray))).objs.size = s.heap.objs.size + 1 := by rw [Heap.size_update, size_push']
  have z2 : (((s.heap.push (seqObj "list" #[] 0)).update s.heap.objs.size (Obj.mapSeq (· ++ vs.toArray))).push (seqObj "list" vs.toArray 0)).get? (s.heap.objs.size + 1) = some (seqObj "list" vs.toArray 0) := by
    rw [← z1]
    exact Heap.get?_push_size _ rfl
  show wpAny _ _ _ _ _ ⟨((s.heap.push (seqObj "list" #[] 0)).update s.heap.objs.size (Obj.mapSeq (· ++ vs.toArray))).push (seqObj "list" vs.toArray 0), _, _, _, _⟩
  rw [z1]
  exact wpAny_bind (wpAny_holding (wpAny_call_entry slot_list_sort ⟨_, z2, rfl⟩ entry_list_sort (list_sort_tree z2 hI h64 fun out ns' a1 a2 a3 => ⟨_, rfl, wpAny_pure ⟨_, rfl, h out ns' a1 a2 a3⟩⟩) (args_list_sort _)))

def rSortLT (K : PySem.W.Frag) : List V → Hp → VK → Prop := fun vs H Q => ∃ (a : Addr) (ns : List Int), vs = [V.ref a] ∧ SeqLT K H a (ns.map V.int) ∧ ns.length < 64 ∧
  ∀ (ns' : List Int) (p : Addr), ns'.Perm ns → ns'.Pairwise (· ≤ ·) → H p = none → Q (.ref p) (upd H p (.lst (ns'.map V.int)))
theorem cr_sortLT : CallR X (.builtin "sorted") (rSortLT X.K) := by
  intro pins s σ H vs us Q I r h
  obtain ⟨a, ns, rfl, hs, h64, q⟩ := h
  rcases hs with hs | hs
  · exact cr_sorted pins s σ H _ us Q I r ⟨a, ns, rfl, hs, h64, q⟩
  · obtain ⟨its, rv, pl, _⟩ := I.tuple hs
    rw [Vals.ref1 r]
    have hi := rv.ints
    refine sorted_tupI (show s.heap.IsTuple a its.toArray from pl) hi (by rw [hi.length]; exact h64) fun out ns' h1 h2 h3 => ?_
    obtain ⟨ep, he⟩ := sortedAll_at s.heap its out
    have hl : (ns'.map V.int).length ≤ sizeLine := by
      rw [List.length_map, h2.length_eq]
      exact small64 h64
    exact ⟨.ref _, upd H (s.heap.objs.size + 1) (.lst (ns'.map V.int)), I.laid (t' := s.toks) (fun _ _ => sortedAll_old) (Nat.le_succ _) ⟨hl, out.toList, ep, vals_of_ints h1, he⟩, rfl, q ns' _ h2 h3 (I.hok.fresh (Nat.le_succ _))⟩

/-- an order as a value: a list (false), or a tuple (true) that is known to have no dict of its own -/
def OrdK : Bool → Hp → Addr → List V → Prop
  | false, H, a, xs => H a = some (.lst xs)
  | true, H, a, xs => ∃ o : Obj, o.dict = none ∧ H a = some (.frz o (.tup xs))
theorem OrdK.lt {K : PySem.W.Frag} {b : Bool} {H : Hp} {a : Addr} {xs : List V} (h : OrdK b H a xs) : SeqLT K H a xs := by
  cases b with
  | false => exact .inl (.inl (.inl h))
  | true =>
    obtain ⟨o, _, h⟩ := h
    exact .inr (.inl (.inr ⟨o, h⟩))
theorem OrdK.sqT {K : PySem.W.Frag} {H : Hp} {a : Addr} {xs : List V} (h : OrdK true H a xs) : SqT K H a xs := by
  obtain ⟨o, _, h⟩ := h
  exact .inl (.inr ⟨o, h⟩)
theorem OrdK.sqL {K : PySem.W.Frag} {H : Hp} {a : Addr} {xs : List V} (h : OrdK false H a xs) : SqL K H a xs := .inl (.inl h)

/-! seq.index(k), seq a list or a tuple of ints that has k -/
theorem idx_run {pins : List (Addr × Obj)} {s : Shared} {σ : L2.St} {H : Hp} {a : Addr} {us : List Value} {ns : List Int} {k : Int} {Q : VK} (I : L2.Inv X pins σ H s) (ru : Vals [V.int k] us) (hk : k ∈ ns) (q : Q (.int ((ns.idxOf k : Nat) : Int)) H) :
    (SqL X.K H a (ns.map V.int) → wpAny (model X.prog X.w) X.A (call (.builtin "list.index") (.ref a :: us)) (EP X pins σ Q) X.xe s) ∧
    (SqT X.K H a (ns.map V.int) → wpAny (model X.prog X.w) X.A (call (.builtin "tuple.index") (.ref a :: us)) (EP X pins σ Q) X.xe s) := by
  obtain ⟨u, rfl, t, rfl⟩ := vals1 ru
  refine ⟨fun hl => ?_, fun ht => ?_⟩
  · obtain ⟨its, rv, pl, hz⟩ := I.list hl
    rw [List.length_map] at hz
    exact PySem.SeqAt.list_index_ints pl.isList rv.ints hz hk ⟨.int _, H, I.tok _, ⟨_, rfl⟩, q⟩
  · obtain ⟨its, rv, pl, hz⟩ := I.tuple ht
    exact PySem.SeqAt.tuple_index_ints (show s.heap.IsTuple a its.toArray from pl) rv.ints hk ⟨.int _, H, I.tok _, ⟨_, rfl⟩, q⟩
def tIdx (to : TE) (ta : TA) : TE := fun σ H Q => to σ H fun x H1 => ∃ (b : Bool) (a : Addr) (ns : List Int), x = .ref a ∧ OrdK b H1 a (ns.map V.int) ∧ ta σ H1 fun vs H2 => ∃ k : Int, vs = [.int k] ∧ OrdK b H2 a (ns.map V.int) ∧ k ∈ ns ∧ Q (.int ((ns.idxOf k : Nat) : Int)) H2
theorem pe_idx {o e : Expr} {to : TE} {ta : TA} {apos cpos : Pos} (ho : PE X o to) (ha : PA X [e] ta)
    (hbase : attributeBase o "index" X.env (eval o X.env) = eval o X.env := by rfl)
    (hfew : ((backTo cpos (starEach [e] X.env)).all (fun x => !x.1) && (backToKw cpos (keywordEach [] X.env)).all (fun x => x.1.isSome) && decide ([e].length + ([] : List Keyword).length + (if ([] : List Keyword).isEmpty then 0 else 1) < 30)) = true := by rfl)
    (hline : (apos.endLine == cpos.line) = true := by rfl) (hs : starEach [e] X.env = (false, eval e X.env) :: starEach [] X.env := by rfl) :
    PE X (.Call (.Attribute o "index" apos) [e] [] cpos) (tIdx to ta) := by
  refine ⟨fun pins s σ H Q I h => ?_⟩
  refine wpAny_Call_method_late hbase hfew hline rfl (thn (ho.run pins s σ H _ I h) fun v s1 ⟨x, H1, I1, r1, q0⟩ => ?_)
  obtain ⟨b, a, ns, ex, oa, q1⟩ := q0
  subst ex
  cases r1
  have arg := ha.run cpos pins s1 σ H1 _ I1 q1
  rw [hs] at arg ⊢
  cases b with
  | false =>
    obtain ⟨hz, its, n, rv, hob⟩ := I1.hok a _ oa
    refine ⟨"list", "list.index", PySem.F.plainAttrs_list, PySem.F.slot_list_index, PySem.F.type_list_index, ⟨_, hob, rfl⟩, fun b eb => ?_, ?_⟩
    · cases eb
      exact ⟨_, hob, rfl⟩
    · refine Calls.callWith_builtin (by rfl) (Calls.evalArgs_plain (thn arg fun us s2 ⟨vs, H2, I2, r2, k, ev, oa2, hk, q2⟩ => ?_))
      subst ev
      exact (idx_run I2 r2 hk q2).1 oa2.sqL
  | true =>
    obtain ⟨ob, hd, oa⟩ := oa
    obtain ⟨hob, _⟩ := I1.hok a _ oa
    obtain ⟨_, its, _, o3, e3, c3, _⟩ := (show ObjOk X.prog X.w H1 s1.heap a (.frz ob (.tup (ns.map V.int))) from I1.hok a _ oa).2
    rw [hob] at e3
    cases e3
    refine ⟨"tuple", "tuple.index", PySem.F.plainAttrs_tuple, PySem.F.slot_tuple_index, PySem.F.type_tuple_index, ⟨_, hob, c3⟩, fun b eb => ?_, ?_⟩
    · cases eb
      exact ⟨_, hob, hd⟩
    · refine Calls.callWith_builtin (by rfl) (Calls.evalArgs_plain (thn arg fun us s2 ⟨vs, H2, I2, r2, k, ev, oa2, hk, q2⟩ => ?_))
      subst ev
      exact (idx_run I2 r2 hk q2).2 oa2.sqT

/-! seq[::-1], seq a list or a tuple: a new one of the same kind -/
theorem applied_back {P : Program} {w : World} {A : Around} {E : Value → Shared → Prop} {s : Shared} {sl : Addr} {u : Tok} {n : Nat} {Q : Int × Int × Nat → Shared → Prop} (hs : s.heap.IsSliceOf sl .none .none (.int (-1) u)) (h : Q ((n : Int) - 1, -1, n) s) :
    wpAny (model P w) A (Builtin.Slice.sliceApplied (.ref sl) (pure (n : Int))) Q E s := by
  obtain ⟨os, hos, _, hds⟩ := id hs
  unfold Builtin.Slice.sliceApplied Builtin.Slice.sliceFields
  refine wpAny_bind (wpAny_bind (wpAny_field hos hds (x := .none) rfl (wpAny_bind (wpAny_field hos hds (x := .none) rfl (wpAny_bind (wpAny_field hos hds (x := .int (-1) u) rfl (wpAny_pure ?_)))))))
  refine wpAny_bind (slicePart_int ?_)
  show wpAny _ _ (if ((-1 : Int) == 0) = true then _ else _) _ _ s
  rw [if_neg (by decide)]
  refine wpAny_bind (slicePart_none (wpAny_bind (slicePart_none (wpAny_bind (wpAny_pure (wpAny_pure ?_))))))
  have e : Builtin.Slice.slicePlaces ((n : Int) - 1) (-1) (-1) = n := by
    unfold Builtin.Slice.slicePlaces
    rw [if_neg (by decide)]
    by_cases hn : (n : Int) - 1 > -1
    · rw [if_pos hn, show (- -1 : Int) = 1 by decide, Int.ediv_one]
      omega
    · rw [if_neg hn]
      omega
  show Q ((n : Int) - 1, -1, Builtin.Slice.slicePlaces ((n : Int) - 1) (-1) (-1)) s
  rw [e]
  exact h
theorem fm_congr {α β : Type} {f g : α → Option β} : ∀ l : List α, (∀ x ∈ l, f x = g x) → l.filterMap f = l.filterMap g
  | [], _ => rfl
  | x :: r, h => by
    rw [List.filterMap_cons, List.filterMap_cons, h x (.head _), fm_congr r fun y hy => h y (.tail _ hy)]
theorem pick_back (xs : Array Value) : ((List.range xs.size).filterMap fun (k : Nat) => xs[((xs.size : Int) - 1 + (k : Int) * (-1)).toNat]?).toArray = xs.toList.reverse.toArray := by
  have e : ((List.range xs.size).filterMap fun (k : Nat) => xs[((xs.size : Int) - 1 + (k : Int) * (-1)).toNat]?) = ((List.range xs.size).map fun k => xs.size - 1 - k).filterMap (xs[·]?) := by
    rw [List.filterMap_map]
    refine fm_congr _ fun k hk => ?_
    have hk2 := List.mem_range.mp hk
    have e1 : ((xs.size : Int) - 1 + (k : Int) * (-1)).toNat = xs.size - 1 - k := by omega
    rw [e1]
    rfl
  rw [e, PySem.W.krv_range, List.filterMap_reverse, PySem.W.krv_all]
theorem getItem_tuple_back {P : Program} {w : World} {A : Around} {E : Value → Shared → Prop} {s : Shared} {t sl : Addr} {xs : List Value} {u : Tok} {Q : Value → Shared → Prop} (ht : IsTup s.heap t xs.toArray) (hs : s.heap.IsSliceOf sl .none .none (.int (-1) u)) (hz : xs.length ≤ sizeLine)
    (h : Q (.ref s.heap.objs.size) { s with heap := s.heap.push { cls := .type "tuple", data := .seq xs.reverse.toArray } }) : wpAny (model P w) A (getItem (.ref t) (.ref sl)) Q E s := by
  have zOk : sizeOk (.seq xs.reverse.toArray) := by
    show xs.reverse.toArray.size ≤ sizeLine
    rw [List.size_toArray, List.length_reverse]
    exact hz
  obtain ⟨os, hos, hcs, _⟩ := id hs
  unfold getItem
  try with_reducible refine wpAny_holding ?_
  first | refine wpAny_bind (wpAny_pure ?_) | skip
  refine wpAny_bind (wpAny_sequenceKey ht.typeIs (by decide) ?_)
  refine wpAny_bind (wpAny_callSpecial?_slot (name := Str.ofString "__getitem__") ht.typeIs slot_tuple_getitem (wpAny_call_entry slot_tuple_getitem ht.typeIs entry_tuple_getitem ?_ (args_tuple_getitem _ _)))
  refine wpAny_bind (m := Builtin.Tuple.tupleItemsOf (.ref t)) (tupleItemsOf_ ht (wpAny_bind (wpAny_typeOf (show s.TypeIs (.ref sl) "slice" from ⟨os, hos, hcs⟩) ?_)))
  rw [if_pos (by decide)]
  refine wpAny_bind (applied_back hs ?_)
  have off : ¬ ((((xs.toArray.size : Int) - 1) == 0 && (-1 : Int) == 1 && xs.toArray.size == xs.toArray.size) = true) := by
    rw [show ((-1 : Int) == 1) = false by decide, Bool.and_false, Bool.false_and]
    exact Bool.false_ne_true
  show wpAny _ _ (if (((xs.toArray.size : Int) - 1) == 0 && (-1 : Int) == 1 && xs.toArray.size == xs.toArray.size) = true then _ else _) _ _ s
  rw [if_neg off, pick_back]
  exact wpAny_bind (m := Builtin.Tuple.tupleExact _) (wpAny_newObj_type (wpAny_pure ⟨_, rfl, wpAny_pure h⟩) zOk)
def tRev (te : TE) : TE := fun σ H Q => te σ H fun x H1 => ∃ (b : Bool) (a : Addr) (xs : List V), x = .ref a ∧ OrdK b H1 a xs ∧ ∀ p, H1 p = none → Q (.ref p) (upd H1 p (if b = true then .tup xs.reverse else .lst xs.reverse))
theorem pe_rev {e : Expr} {te : TE} {k : Nat} {p1 p2 p3 pos : Pos} (he : PE X e te) : PE X (.Subscript e (.Slice none none (some (.UnaryOp .USub (.Constant (.int 1) k p1) p2)) p3) pos) (tRev te) := by
  refine ⟨fun pins s σ H Q I h => ?_⟩
  refine Subscript_ (thn (he.run pins s σ H _ I h) fun v s1 ⟨x, H1, I1, r1, q0⟩ => ?_)
  obtain ⟨b, a, xs, ex, oa, q⟩ := q0
  subst ex
  cases r1
  have step : PO X (some (.UnaryOp .USub (.Constant (.int 1) k p1) p2)) (tPart (tUn (rU fun i => .int (-i)) (tC (.int 1)))) := po_some (pe_un un_neg pe_int)
  refine wpAny_Slice (thn (po_none.run pins s1 σ H1 (fun o H2 => o = none ∧ H2 = H1) I1 ⟨rfl, rfl⟩) fun vl s2 ⟨l, H2, I2, pl, el, e2⟩ => ?_)
  subst el e2
  refine thn (po_none.run pins s2 σ H2 (fun o H3 => o = none ∧ H3 = H2) I2 ⟨rfl, rfl⟩) fun vu s3 ⟨u, H3, I3, pu, eu, e3⟩ => ?_
  subst eu e3
  refine thn (step.run pins s3 σ H3 (fun o H4 => o = some (-1) ∧ H4 = H3) I3 ⟨1, rfl, -1, rfl, rfl, rfl⟩) fun vs s4 ⟨o, H4, I4, ps, eo, e4⟩ => ?_
  subst eo e4
  cases pl
  cases pu
  cases ps with
  | int _ tk =>
    have I5 : L2.Inv X pins σ H4 { s4 with heap := s4.heap.push { cls := .type "slice", data := .fields #[.none, .none, .int (-1) tk] } } := I4.kept (t' := s4.toks) fun b ob q => Heap.get?_push_of_some _ q
    cases b with
    | false =>
      obtain ⟨its, r, ht, hz⟩ := I5.list oa.sqL
      refine tail_any (ops := [.ref a, .ref s4.heap.objs.size]) ht.isList.typeIs (PySem.slot_list_getitem.lookup) ?_ (by with_unfolding_all rfl)
      refine wpAny_getItem_list_slice ht.isList (Heap.IsSliceOf.new _ _ _ _) .none .none (.int _ _) (by decide) ?_ (by rw [List.size_toArray, ← r.length]; exact hz)
      rw [PySem.W.krv_pick]
      refine ⟨.ref _, _, I5.laid (t' := s4.toks) (o := .lst xs.reverse) (fun b ob q => Heap.get?_push_of_some _ q) (Nat.le_refl _) ?_, rfl, q _ (I5.hok.fresh (Nat.le_refl _))⟩
      exact ⟨by rw [List.length_reverse]; exact hz, _, 0, r.reverse, Heap.get?_push_size _ rfl⟩
    | true =>
      obtain ⟨its, r, ht, hz⟩ := I5.tuple oa.sqT
      refine tail_any (ops := [.ref a, .ref s4.heap.objs.size]) (show IsTup _ a its.toArray from ht).typeIs (slot_tuple_getitem.lookup) ?_ (by with_unfolding_all rfl)
      refine getItem_tuple_back ht (Heap.IsSliceOf.new _ _ _ _) (by rw [← r.length]; exact hz) ?_
      refine ⟨.ref _, _, I5.laid (t' := s4.toks) (o := .tup xs.reverse) (fun b ob q => Heap.get?_push_of_some _ q) (Nat.le_refl _) ?_, rfl, q _ (I5.hok.fresh (Nat.le_refl _))⟩
      exact ⟨by rw [List.length_reverse]; exact hz, _, r.reverse, IsTup.new _ _⟩

/-! tuple(list), tuple(range): new tuples of which the object is told -/
/-- the object is known and has no dict of its own -/
theorem inv_frz {pins : List (Addr × Obj)} {σ : L2.St} {H : Hp} {s : Shared} {h' : Heap} {xs : List V} {its : List Value} (I : L2.Inv X pins σ H s) (hk : ∀ b o, s.heap.get? b = some o → h'.get? b = some o) (hz : xs.length ≤ sizeLine) (rv : Vals xs its) (tk : Nat) :
    L2.Inv X pins σ (upd H h'.objs.size (.frz { cls := .type "tuple", data := .seq its.toArray } (.tup xs))) { s with heap := h'.push { cls := .type "tuple", data := .seq its.toArray }, toks := tk } := by
  have I1 : L2.Inv X pins σ H { s with heap := h', toks := tk } := I.kept hk
  refine I1.laid (t' := tk) (fun b o e => Heap.get?_push_of_some _ e) (Nat.le_refl _) ?_
  exact ⟨Heap.get?_push_size _ rfl, hz, its, rv, IsTup.new _ _⟩
def kTupF (x : V) (H : Hp) (Q : VK) : Prop := ∃ (b : Bool) (p : Addr) (xs : List V), x = .ref p ∧ OrdK b H p xs ∧ (b = true → Q (.ref p) H) ∧ (b = false → ∀ (q : Addr) (o : Obj), o.dict = none → H q = none → Q (.ref q) (upd H q (.frz o (.tup xs))))
theorem pe_tupF {a : Expr} {ta : TE} {p pos : Pos} (hg : Gl X "tuple") (hm : X.mg "tuple" = none) (ha : PE X a ta) (na : starEach [a] X.env = (false, eval a X.env) :: starEach [] X.env := by rfl) :
    PE X (.Call (.Name "tuple" p) [a] [] pos) (tThen ta kTupF) := by
  refine ⟨fun pins s σ H Q I h => ?_⟩
  refine Call_ (ld_blt I hg hm boot_tuple (PyProof.Rows.callWith_type1 (one_arg ha I h (fun v s2 x H2 I2 r q => ?_) na) na))
  obtain ⟨b, t, xs, rfl, oa, q1, q2⟩ := q
  obtain rfl : v = .ref t := r
  cases b with
  | true =>
    obtain ⟨its, rv, pl, hz⟩ := I2.tuple oa.sqT
    exact call_tuple_tup pl ⟨.ref t, H2, I2, rfl, q1 rfl⟩
  | false =>
    obtain ⟨its, rv, pl, hz⟩ := I2.list oa.sqL
    refine call_tuple_list pl.isList (fun h' hk => ?_) (by rw [List.size_toArray, ← rv.length]; exact hz)
    have I1 : L2.Inv X pins σ H2 { s2 with heap := h' } := I2.kept (t' := s2.toks) hk
    exact ⟨.ref h'.objs.size, _, inv_frz I2 hk hz rv s2.toks, rfl, q2 rfl _ _ rfl (I1.hok.fresh (Nat.le_refl _))⟩
def tTupRF (te : L2.St → Hp → (Int → Int → Hp → Prop) → Prop) : TE := fun σ H Q => te σ H fun a b H1 => RgOk a b ∧ ∀ (q : Addr) (o : Obj), o.dict = none → H1 q = none → Q (.ref q) (upd H1 q (.frz o (.tup (rgV a b))))
theorem pe_tupRF {e : Expr} {te : L2.St → Hp → (Int → Int → Hp → Prop) → Prop} {p pos : Pos} (hc : X.calm = true) (hg : Gl X "tuple") (hm : X.mg "tuple" = none) (he : PRg X e te) (na : starEach [e] X.env = (false, eval e X.env) :: starEach [] X.env := by rfl) : PE X (.Call (.Name "tuple" p) [e] [] pos) (tTupRF te) := by
  refine ⟨fun pins s σ H Q I h => ?_⟩
  refine Call_ (ld_blt I hg hm boot_tuple (PyProof.Rows.callWith_type1 (args_cons (thn (he pins s σ H _ I h) fun x s1 ⟨r, a, b, t, u, v, H1, ex, hr, I1, ok, q⟩ => args_nil ?_) na) na))
  subst ex
  obtain ⟨b1, b2, b3, b4, b5⟩ := ok
  refine call_tuple_range (n := (b - a).toNat) (I1.ok.hd hc) hr (small_one b1 b2 b3 b4) (rangeSize_nat a b) b5 fun h' tk acc hk hi => ?_
  have I2 : L2.Inv X pins σ H1 { s1 with heap := h', toks := tk } := I1.kept hk
  have z := inv_frz (xs := rgV a b) (its := acc.toList) I1 hk (by rw [rgV_length, sizeLine_eq]; omega) (vals_rg hi) tk
  rw [Array.toArray_toList] at z
  exact ⟨.ref h'.objs.size, _, z, rfl, q _ _ rfl (I2.hok.fresh (Nat.le_refl _))⟩
end
end Lb

set_option Elab.async false
set_option linter.all false
set_option maxRecDepth 100000
set_option maxHeartbeats 2000000
namespace Lb
open PySem PySem.Spec PyProof.Rows L2

/-! ### promises that are kept where no repr is under way -/
structure FnG (P : Program) (w : World) (K : PySem.W.Frag) (mg : Str → Option Value) (base : Heap) (k : Nat) (f : Addr) (fd : FuncData) (ps : List Str) (sp : Sp) : Prop where
  len : ∀ vs H Q E, sp vs H Q E → vs.length = ps.length
  run : ∀ (A : Around) (outer : List Env) (s : Shared) (H : Hp) (args : Args) (us : List Value) (vs : List V) (Q : VK) (E : XK), A.guards = some [] → Room k A → Env0 P w K mg base A outer s H → BindsTo s fd args (ps.zip us) → Vals vs us → sp vs H Q E →
    codeAny (model P w) A (.call (.ref f) args) (CR CX0 outer P w H s Q E) s

section
variable {P : Program} {w : World} {K : PySem.W.Frag} {mg : Str → Option Value} {base : Heap}
theorem okG {x qual : Str} {st : Stmt} {f : Addr} {fd : FuncData} {N ps : List Str} {k : Nat} {sp : Sp} (F : Fun K x qual st f fd) (S : FnScope N ps (defScope st)) (len : ∀ vs H Q E, sp vs H Q E → vs.length = ps.length)
    (body : ∀ (cdv : Value) (A : Around) (outer : List Env) (s : Shared) (H : Hp) (vs : List V) (Q : VK) (E : XK), A.guards = some [] → Room k (A.deeper (envOfC qual (defScope st) s.heap.objs.size f cdv)) → sp vs H Q E →
      ∃ t, PSs (cxOf CX0 P w K mg base N qual (defScope st) f cdv A outer s H E).nox (defBody st) t ∧ t { nx := fun _ H' => Q .non H', rt := Q } (start N vs) H) : FnG P w K mg base (k + 1) f fd ps sp := by
  obtain ⟨oc, od, kV, doc, pm, an, cdv, ct, osl, rfl, lk, hcd⟩ := F.ex
  refine ⟨len, fun A outer s H args us vs Q E hg hr e0 hb r hsp => ?_⟩
  have lenV := len _ _ _ _ hsp
  have old : ∀ b o, base.get? b = some o → s.heap.get? b = some o := fun b o e => (e0.bs b o e).1
  have kIn := e0.mod.kin.keeps old
  have params : ∀ y ∈ ps.zip us, (defScope st).names.lookup y.1 = some .local ∨ ((defScope st).names.lookup y.1 = some .cell ∧ ((cellsFrom (s.heap.objs.size + 1) (defScope st).names []).lookup y.1).isSome = true) := by
    rintro ⟨n, v⟩ hy
    rcases S.par n (List.of_mem_zip hy).1 with z | z
    · exact .inl z
    · exact .inr ⟨z, PySem.W.cellsFrom_some _ _ _ (.inl z)⟩
  refine codeAny_call_function hr.depth (kIn _ _ lk) rfl S.co S.gen rfl (PySem.W.codeRec_of kIn hcd) (hb _ _ _ _ (wpAny_newFunctionEnv_cells S.kind params fun env he s1 x => ?_))
  subst he
  obtain ⟨t, ht, hq⟩ := body cdv A outer s H vs Q E hg (hr.deeper _) hsp
  refine ⟨(e0.mod.nolimit.keeps old).keeps x.toInCall.keep, codeAny_func (wpAny_mono (ht.nox.run [] s1 (start N vs) H _ (inv_start S hr.hd e0 lenV r x) hq) (fun fl s' hs => ?_) fun _ _ z => z)⟩
  have done : ∀ {σ' : L2.St} {H' : Hp} {v : V} {u : Value}, L2.Inv (cxOf CX0 P w K mg base N qual (defScope st) f cdv A outer s H E) [] σ' H' s' → RelV v u → Q v H' → CE outer P w H s Q u s' := fun J rv q => ⟨_, _, J.os, J.bare, J.base, J.hok, rv, q⟩
  match fl, hs with
  | .ret u, ⟨v, σ', H', J, rv, q⟩ => exact done J rv q
  | .next, ⟨σ', H', J, q⟩ => exact done (v := .non) (u := .none) J rfl q
  | .brk, ⟨_, _, _, q⟩ => exact q.elim
  | .cont, ⟨_, _, _, q⟩ => exact q.elim
end

section
variable {X : Cx} {k : Nat} {f : Addr} {fd : FuncData} {ps ks : List Str} {sp : Sp} {x : Str} {p pos : Pos} {e : Expr} {es : List Expr} {t : TA}
/-- g(e, ..) of such a def -/
theorem pe_callG (F : FnG X.prog X.w X.K X.mg X.base k f fd ps sp) (hu : X.A.guards = some []) (hr : Room k X.A) (hg : Gl X x) (hm : X.mg x = some (.ref f)) (hk : PySem.W.keepIn X.K (.ref f) = true) (hb : Binds X.K fd ps [])
    (ha : PA X (e :: es) t) (hdb : (x == ("__debug__" : Str)) = false := by decide) (he : starEach (e :: es) X.env = (false, eval e X.env) :: starEach es X.env := by rfl) (hpl : (backTo pos (starEach es X.env)).any (·.1) = false := by rfl) :
    PE X (.Call (.Name x p) (e :: es) [] pos) (tCall sp [] E0 t) := by
  refine ⟨fun pins s σ H Q I h => wpAny_Call_Name_kw (ld_glob I hg hm ?_ hdb)⟩
  refine PySem.W.callWith_K (h₀ := X.base) I.ok.mod.kin hk (thn (ha.run pos pins s σ H _ I h) fun us s1 ⟨vs, H1, I1, r, q⟩ => ⟨I1.kIn, ?_⟩) he hpl
  have q' : sp vs H1 Q E0 := by
    have z : sp (vs ++ []) H1 Q E0 := q
    rw [List.append_nil] at z
    exact z
  have hl : (us ++ []).length = ps.length := by
    rw [List.append_nil, ← r.length]
    exact F.len _ _ _ _ q'
  have bd := hb s1 us I1.kIn hl
  rw [List.append_nil] at bd
  refine wpAny_call (codeAny_mono (F.run X.A X.stack s1 H1 ⟨us, []⟩ us vs Q E0 hu hr I1.env0 bd r q') fun z s' hq => ?_)
  match z, hq with
  | .ok (.ret u), hq => exact I1.after hq
/-- g(k = e, ..), keywords alone -/
theorem pe_callKW {CX : CXT} {E : XK} {kws : List Keyword} {tk : TA} {g : List Value → List Value → List Value} {gV : List V → List V → List V} (F : FnOk X.prog X.w X.K X.mg X.base CX k f fd ps sp) (hr : Room k X.A) (hg : Gl X x) (hm : X.mg x = some (.ref f)) (hk : PySem.W.keepIn X.K (.ref f) = true) (hb : KBinds X.K fd ps ks g gV) (hx : Passes CX X E)
    (hkw : PK X kws tk) (hall : (backToKw pos (keywordEach kws X.env)).all (·.1.isSome) = true := by rfl) (hks : (backToKw pos (keywordEach kws X.env)).filterMap (·.1) = ks := by rfl)
    (hdb : (x == ("__debug__" : Str)) = false := by decide) (hpl : ((backTo pos (starEach [] X.env)).any (·.1) || (backToKw pos (keywordEach kws X.env)).any (·.1.isNone)) = false := by rfl) :
    PE X (.Call (.Name x p) [] kws pos) (tCallK sp gV E tNil tk) := by
  refine ⟨fun pins s σ H Q I h => wpAny_Call_Name_kw (ld_glob I hg hm ?_ hdb)⟩
  refine PySem.W.callWith_KW0 (h₀ := X.base) I.ok.mod.kin hk hall (thn (hkw.run pos pins s σ H _ I h) fun ws s2 ⟨zs, H2, I2, rz, q2⟩ => ⟨I2.kIn, ?_⟩) hpl
  rw [hks]
  exact run_fnk F hr hb hx I2 .nil rz q2
end

/-! ### the end of a law that asks for reprs -/
/-- what is tracked at a law's entry: the tables of T, and (if t) the script at a, known as it is -/
def H0 (T : List Addr) (t : Bool) (a : Addr) (o : Obj) (xs : List V) : Hp := fun b => if b ∈ T then some (.tbl #[]) else if t = true ∧ b = a then some (.frz o (.lst xs)) else none
theorem H0_tab {T : List Addr} {t : Bool} {a : Addr} {o : Obj} {xs : List V} {b : Addr} (h : b ∈ T) : H0 T t a o xs b = some (.tbl #[]) := if_pos h
theorem H0_a {T : List Addr} {a : Addr} {o : Obj} {xs : List V} (h : a ∉ T) : H0 T true a o xs a = some (.frz o (.lst xs)) := (if_neg h).trans (if_pos ⟨rfl, rfl⟩)
theorem H0_some {T : List Addr} {t : Bool} {a : Addr} {o : Obj} {xs : List V} {b : Addr} {u : HO} (h : H0 T t a o xs b = some u) : (b ∈ T ∧ u = .tbl #[]) ∨ (t = true ∧ b = a ∧ u = .frz o (.lst xs)) := by
  unfold H0 at h
  by_cases h1 : b ∈ T
  · rw [if_pos h1] at h
    cases h
    exact .inl ⟨h1, rfl⟩
  · rw [if_neg h1] at h
    by_cases h2 : t = true ∧ b = a
    · rw [if_pos h2] at h
      cases h
      exact .inr ⟨h2.1, h2.2, rfl⟩
    · rw [if_neg h2] at h
      cases h

/-- the state at the entry of a law's call -/
structure Entry (P : Program) (w : World) (K : PySem.W.Frag) (mg mb : Str → Option Value) (cs : List (Addr × Addr)) (a : Addr) (vs : List Value) (ns : List Int) (s : Shared) : Prop where
  kin : K.In s.heap
  glob : s.heap.Ns mainGlobals mg
  blt : s.heap.Ns builtinsNs mb
  bltIs : ∀ x : Str, x ≠ "__name__" → mb x = bootBuiltins x
  lim : s.heap.NoLimit
  gens : s.gens = #[]
  tab : ∀ p ∈ cs, s.heap.get? p.2 = some { cls := .none, data := .fields #[] }
  tabK : ∀ p ∈ cs, K.lookup p.2 = none
  hd : ∀ p ∈ cs, PySem.W.CodeHd s.heap p.1 p.2
  bm : ∃ (bm : Addr) (ob : Obj), mg "__builtins__" = some (.ref bm) ∧ bm ≠ builtinsNs ∧ s.heap.get? bm = some ob ∧ ob.cls = .type "module" ∧ ob.dict = some builtinsNs ∧ ob.data = .plain
  scr : s.heap.get? a = some { cls := .type "list", data := .seq vs.toArray }
  isInt : IntsAre vs ns
  len : ns.length ≤ sizeLine

theorem law_callG {P : Program} {w : World} {K : PySem.W.Frag} {mg mb : Str → Option Value} {k : Nat} {fa a : Addr} {cs : List (Addr × Addr)} {fd : FuncData} {x : Str} {sp : Sp} {s₁ : Shared} {vs : List Value} {ns : List Int}
    (En : Entry P w K mg mb cs a vs ns s₁) (hr : Room k callerA)
    (F : ∀ base : Heap, K.In base → base.Ns mainGlobals mg → (∀ p ∈ cs, GxR.TabB base mg p.1 p.2) → FnG P w K mg base k fa fd [x] sp) (hb : ∀ (s : Shared) (u : Value), BindsTo s fd ⟨[u], []⟩ [(x, u)])
    (hsp : ∀ H : Hp, (∀ p ∈ cs, H p.2 = some (.tbl #[])) → SqL K H a (ns.map V.int) → sp [.ref a] H (fun v _ => v = .bl true) fun _ _ _ => False) :
    codeAny (model P w) callerA (.call (.ref fa) ⟨[.ref a], []⟩) (fun r s' => r = .ok (.ret (.bool true)) ∧ OldK s₁.heap s'.heap ∧ s'.os = s₁.os ∧ AllBare s'.gens) s₁ := by
  have rv := vals_ints En.isInt
  let T := cs.map (·.2)
  have tabT : ∀ b ∈ T, s₁.heap.get? b = some { cls := .none, data := .fields #[] } := fun b hbT => by
    obtain ⟨p, hp, e⟩ := List.mem_map.mp hbT
    rw [← e]
    exact En.tab p hp
  have tabN : ∀ b ∈ T, K.lookup b = none := fun b hbT => by
    obtain ⟨p, hp, e⟩ := List.mem_map.mp hbT
    rw [← e]
    exact En.tabK p hp
  have inT : ∀ p ∈ cs, p.2 ∈ T := fun p hp => List.mem_map.mpr ⟨p, hp, rfl⟩
  have aT : a ∉ T := fun z => by
    have q := tabT a z
    rw [En.scr] at q
    cases (congrArg Obj.data (Option.some.inj q) : Data.seq vs.toArray _ = Data.fields #[])
  have lenXs : (ns.map V.int).length ≤ sizeLine := by
    rw [List.length_map]
    exact En.len
  -- by whether the script is an object of the written part
  obtain ⟨t, ht, hS⟩ : ∃ t : Bool, (t = true → K.lookup a = none) ∧ SqL K (H0 T t a { cls := .type "list", data := .seq vs.toArray } (ns.map V.int)) a (ns.map V.int) := by
    cases hk : K.lookup a with
    | none => exact ⟨true, fun _ => rfl, .inl (.inr ⟨_, H0_a aT⟩)⟩
    | some o =>
      have e := En.kin a o hk
      rw [En.scr] at e
      cases e
      exact ⟨false, fun z => (nomatch z), .inr ⟨_, vs.toArray, _, hk, rfl, rfl, rfl, by rw [List.size_toArray, En.isInt.length]; exact En.len, by simpa using rv⟩⟩
  let H : Hp := H0 T t a { cls := .type "list", data := .seq vs.toArray } (ns.map V.int)
  have tabH : ∀ p ∈ cs, H p.2 = some (.tbl #[]) := fun p hp => H0_tab (inT p hp)
  have hok : HOk P w H s₁.heap := fun b u e => by
    rcases H0_some e with ⟨h1, rfl⟩ | ⟨_, rfl, rfl⟩
    · exact tabT b h1
    · exact ⟨En.scr, lenXs, vs, _, rv, En.scr⟩
  -- what is neither a table's nor the script's form is not tracked
  have free : ∀ {b : Addr} {o : Obj}, s₁.heap.get? b = some o → o.data ≠ .fields #[] → (∀ xs n, o.data ≠ .seq xs n) → H b = none := fun {b o} e h1 h2 => by
    cases q : H b with
    | none => rfl
    | some u =>
      rcases H0_some q with ⟨z, _⟩ | ⟨_, rfl, _⟩
      · rw [tabT b z] at e
        cases e
        exact absurd rfl h1
      · rw [En.scr] at e
        cases e
        exact absurd rfl (h2 _ _)
  have freeNs : ∀ {b : Addr} {m : Str → Option Value}, s₁.heap.Ns b m → (hidT s₁.heap H).Ns b m := fun {b m} ⟨o, es, ep, e, d, r⟩ => by
    refine ⟨o, es, ep, hidT_get e (free e (fun z => ?_) fun xs n z => ?_), d, r⟩ <;> (rw [d] at z; cases z)
  have kinB : K.In (hidT s₁.heap H) := fun b o e => hidT_get (En.kin b o e) (by
    cases q : H b with
    | none => rfl
    | some u =>
      rcases H0_some q with ⟨z, _⟩ | ⟨z, rfl, _⟩
      · rw [tabN b z] at e
        cases e
      · rw [ht z] at e
        cases e)
  have md : L2.Mod K mg (hidT s₁.heap H) := ⟨kinB, freeNs En.glob, ⟨mb, freeNs En.blt, En.bltIs⟩, let ⟨mc, h1, h2⟩ := En.lim; ⟨mc, freeNs h1, h2⟩⟩
  have notTab : ∀ {b p : Addr} {m : Str → Option Value}, p ∈ T → s₁.heap.Ns b m → b ≠ p := fun {b p m} hp ⟨o, es, ep, e, d, _⟩ z => by
    rw [z, tabT p hp] at e
    cases e
    cases d
  have tb : ∀ p ∈ cs, GxR.TabB (hidT s₁.heap H) mg p.1 p.2 := fun p hp => by
    obtain ⟨bm, ob, b1, b2, b3, b4, b5, b6⟩ := En.bm
    refine ⟨?_, ⟨bm, ob, b1, b2, fun q => ?_, fun q => ?_, hidT_get b3 (free b3 (fun z => ?_) fun xs n z => ?_), b4, b5, b6⟩, notTab (inT p hp) En.glob⟩
    · obtain ⟨o, us, file, tf, flags, tg, inF, text, tt, e1, r1, r2, r3, rest⟩ := En.hd p hp
      refine ⟨o, us, file, tf, flags, tg, inF, text, tt, hidT_get e1 (free e1 (fun z => ?_) fun xs n z => ?_), r1, r2, r3, rest⟩
      · rw [r2] at z
        cases z
        simp at r3
      · rw [r2] at z
        cases z
    · obtain ⟨o, es, ep, e, d, _⟩ := En.glob
      rw [q, e] at b3
      cases b3
      rw [d] at b6
      cases b6
    · rw [q, En.tab p hp] at b3
      cases b3
      cases b6
    · rw [b6] at z
      cases z
    · rw [b6] at z
      cases z
  have e0 : Env0 P w K mg (hidT s₁.heap H) callerA [] s₁ H := ⟨rfl, md, fun b o e => of_hidT e, Nat.le_of_eq (hidT_size _ _), trivial, fun b z => absurd (show b ∈ ([] : List Addr) from z) List.not_mem_nil, hok, .of_eq En.gens⟩
  refine codeAny_mono ((F _ kinB (freeNs En.glob) tb).run callerA [] s₁ H ⟨[.ref a], []⟩ [.ref a] [.ref a] _ _ rfl hr e0 (hb s₁ (.ref a)) (.cons rfl .nil) (hsp H tabH hS)) fun z s' hq => ?_
  match z, hq with
  | .ok (.ret u), ⟨v, H', os, bare, un, hok', ru, qv⟩ =>
    have qv' : v = .bl true := qv
    subst qv'
    have eu : u = .bool true := ru
    subst eu
    have nofr : ∀ b : Addr, b ∉ frs ([] : List Env) := fun b z => absurd (show b ∈ ([] : List Addr) from z) List.not_mem_nil
    have grown : ∀ p ∈ cs, ∃ more : Array Value, s'.heap.get? p.2 = some { cls := .none, data := .fields more } := fun p hp => by
      obtain ⟨more, e⟩ := un.tbls p.2 #[] (tabH p hp)
      exact ⟨_, hok' p.2 _ e⟩
    have kept : ∀ b o, b ∉ T → s₁.heap.get? b = some o → s'.heap.get? b = some o := fun b o nb e => by
      cases q : H b with
      | none => exact un.keep b o e q (nofr b) List.not_mem_nil
      | some u =>
        rcases H0_some q with ⟨z, _⟩ | ⟨_, rfl, rfl⟩
        · exact absurd z nb
        · rw [En.scr] at e
          cases e
          exact (hok' b _ (un.frzs b _ _ q)).1
    refine ⟨rfl, ⟨fun b o e => ?_, fun b o e => ?_⟩, os, bare⟩
    · by_cases hbT : b ∈ T
      · obtain ⟨p, hp, rfl⟩ := List.mem_map.mp hbT
        obtain ⟨more, hm⟩ := grown p hp
        have e' := En.tab p hp
        rw [e'] at e
        cases e
        exact .inr (.inl ⟨((En.hd p hp).tab e').isCodeTable, rfl, #[], more, rfl, by rw [Array.empty_append]; exact hm⟩)
      · exact .inl (kept b o hbT e)
    · by_cases hbT : b ∈ T
      · obtain ⟨p, hp, rfl⟩ := List.mem_map.mp hbT
        obtain ⟨more, hm⟩ := grown p hp
        exact ⟨_, hm⟩
      · exact ⟨o, kept b o hbT e⟩

/-- what is to be known of a law's def at the head's end; Tb: the tables of the defs of the view -/
def LawG (l : PySem.W.OpenLaw) (w : World) (K : PySem.W.Frag) (k n : Nat) (x : Str) (mg : Str → Option Value) (fa : Addr) (h : Heap) : Prop :=
  ∃ (fd : FuncData) (cs : List (Addr × Addr)) (sp : Sp), (∀ p ∈ cs, h.get? p.2 = some { cls := .none, data := .fields #[] }) ∧ (∀ p ∈ cs, K.lookup p.2 = none) ∧ (∀ p ∈ cs, PySem.W.CodeHd h p.1 p.2) ∧ (∀ (s : Shared) (u : Value), BindsTo s fd ⟨[u], []⟩ [(x, u)]) ∧
    (∀ (H : Hp) (a : Addr) (ns : List Int), ns.length ≤ n → (∀ z ∈ ns, Builtin.Int.intBits z ≤ 1048576) → (∀ p ∈ cs, H p.2 = some (.tbl #[])) → SqL K H a (ns.map V.int) → sp [.ref a] H (fun v _ => v = .bl true) fun _ _ _ => False) ∧
    ∀ base : Heap, K.In base → base.Ns mainGlobals mg → (∀ p ∈ cs, GxR.TabB base mg p.1 p.2) → FnG l.prog w K mg base k fa fd [x] sp
theorem walkG {l : PySem.W.OpenLaw} {n k : Nat} {q : Program} {loose : List Str} {XP : (Str → Option Value) → Heap → Prop} {YP : World → Heap → Prop} {d : DefRec} {K : Params → PySem.W.Frag} {x : Str}
    (hn : l.most = some n) (hn2 : n ≤ sizeLine) (hdf : d.params.defaults = []) (hr : Room k callerA) (hY : ∀ (w : World) (h : Heap), YP w h → (K w.params).In h)
    (F : ∀ (w : World) (mg : Str → Option Value) (fa : Addr) (h : Heap), (K w.params).In h → h.Ns mainGlobals mg → mg d.name = some (.ref fa) →
      (∀ (y : Str) (dr : DefRec) (c P : Addr), (recsOf q).find? (fun e => e.name == y) = some dr → PySem.W.tabIn (K w.params) y = some (c, P) → PySem.W.CodeHd h c P ∧ h.get? P = some { cls := .none, data := .fields #[] }) → LawG l w (K w.params) k n x mg fa h) :
    PySem.W.WalkO q loose XP YP l.row.toRowW d [] (fun f vs => PySem.call f vs) := by
  refine Att.attach_callB hn hdf fun w s₀ s₁ mg mb fa o pm cd doc a vs ns G Y ho hd hcd hmg hobj hints hlen hbits hg => ?_
  have kin := hY w _ Y
  obtain ⟨fd, cs, sp, h1, h2, h3, hb, hsp, hF⟩ := F w mg fa _ kin G.T.g hmg fun y dr c P e1 e2 => PySem.W.tab_of G.T kin e1 e2
  exact law_callG ⟨kin, G.T.g, G.T.b, G.T.builtins, G.T.nolimit, hg, h1, h2, h3, G.T.bmain, hobj, hints, Nat.le_trans hlen hn2⟩ hr hF hb fun H hH hS => hsp H a ns hlen hbits hH hS
end Lb

set_option Elab.async false
set_option linter.all false
set_option maxRecDepth 100000
set_option maxHeartbeats 2000000
namespace Lb
open PySem PySem.Spec PyProof.Rows L2

/-! ### small data: depth at most n, text at most m signs -/
structure Nice (n m : Nat) (d : PyData) : Prop where
  dep : d.depth ≤ n
  lay : d.canLay0 = true
  shw : d.showable = true
  txt : d.shown.length ≤ m
theorem Nice.mono {n m n' m' : Nat} {d : PyData} (h : Nice n m d) (h1 : n ≤ n') (h2 : m ≤ m') : Nice n' m' d := ⟨Nat.le_trans h.dep h1, h.lay, h.shw, Nat.le_trans h.txt h2⟩
theorem Nice.shaped {n m : Nat} {d : PyData} (h : Nice n m d) (hn : n ≤ 64) : SeqAt.shaped d = true := by
  unfold SeqAt.shaped
  rw [h.lay, decide_eq_true (Nat.le_trans h.dep hn)]
  rfl
theorem Nice.refl {n m : Nat} {d : PyData} (h : Nice n m d) : PyData.eqv d d = true := PySem.SeqAt.eqv_refl_plain d (PyData.plain_of_canLay0 d h.lay)
theorem Nice.noDict {n m : Nat} {d : PyData} (h : Nice n m d) : d.hasDict = false := PyData.hasDict_of_canLay d h.lay
theorem small_text : ∀ k : Fin 100, ((toString ((k.val : Nat) : Int) : String) : Str).length ≤ 2 := by decide +kernel
theorem nice_int {k : Nat} (h : k < 100) : Nice 0 2 (.int (k : Int)) := by
  refine ⟨Nat.le_refl _, rfl, ?_, small_text ⟨k, h⟩⟩
  show decide (((k : Int)).natAbs.log2 < 1920) = true
  refine decide_eq_true ?_
  rw [Int.natAbs_natCast]
  by_cases h0 : k = 0
  · subst h0
    decide
  · have := (Nat.log2_lt h0 (k := 1920)).mpr (Nat.lt_of_lt_of_le h (Nat.le_trans (by decide : 100 ≤ 2 ^ 7) (Nat.pow_le_pow_right (by decide) (by decide))))
    exact this
theorem textFrom_le : ∀ (ts : List Str) (k : Nat) (acc : Str), (textFrom k acc ts).length ≤ acc.length + piled ts
  | [], k, acc => Nat.le_refl _
  | t :: r, k, acc => by
    have h := textFrom_le r (k + 1) (acc ++ (if k > 0 then ", " else "" : String) ++ t)
    have e : (acc ++ (if k > 0 then ", " else "" : String) ++ t : Str).length ≤ acc.length + 2 + t.length := by
      rw [strLen_append, strLen_append]
      split
      · exact Nat.le_refl _
      · show acc.length + 0 + t.length ≤ _
        omega
    rw [piled_cons]
    exact Nat.le_trans h (by omega)
theorem piled_bound {m : Nat} : ∀ ts : List Str, (∀ t ∈ ts, t.length ≤ m) → piled ts ≤ (m + 2) * ts.length
  | [], _ => Nat.le_refl _
  | t :: r, h => by
    rw [piled_cons, List.length_cons, Nat.mul_add]
    have h1 := h t (.head _)
    have h2 := piled_bound r fun x hx => h x (.tail _ hx)
    omega
theorem shownAll_map : ∀ ds : List PyData, PyData.shownAll ds = ds.map PyData.shown
  | [] => by rw [PyData.shownAll]; rfl
  | d :: r => by rw [PyData.shownAll, shownAll_map r]; rfl
theorem all_nice {n m : Nat} : ∀ ds : List PyData, (∀ d ∈ ds, Nice n m d) → PyData.depthAll ds ≤ n ∧ PyData.canLayAll0 ds = true ∧ PyData.showableAll ds = true
  | [], _ => ⟨by rw [PyData.depthAll]; exact Nat.zero_le _, by rw [PyData.canLayAll0], by rw [PyData.showableAll]⟩
  | d :: r, h => by
    have h1 := h d (.head _)
    obtain ⟨a, b, c⟩ := all_nice r fun x hx => h x (.tail _ hx)
    refine ⟨?_, ?_, ?_⟩
    · rw [PyData.depthAll]
      exact Nat.max_le.mpr ⟨h1.dep, a⟩
    · rw [PyData.canLayAll0, h1.lay, b]
      rfl
    · rw [PyData.showableAll, h1.shw, c]
      rfl
theorem shown_pile {n m : Nat} {ds : List PyData} (h : ∀ d ∈ ds, Nice n m d) : piled (PyData.shownAll ds) ≤ (m + 2) * ds.length := by
  have z := piled_bound (m := m) (PyData.shownAll ds) (by
    rw [shownAll_map]
    intro t ht
    obtain ⟨d, hd, rfl⟩ := List.mem_map.mp ht
    exact (h d hd).txt)
  rw [shownAll_map, List.length_map] at z
  rw [shownAll_map]
  exact z
theorem nice_list {n m : Nat} {ds : List PyData} (h : ∀ d ∈ ds, Nice n m d) : Nice (n + 1) ((m + 2) * ds.length + 4) (.list ds) := by
  obtain ⟨a, b, c⟩ := all_nice ds h
  refine ⟨?_, ?_, ?_, ?_⟩
  · rw [PyData.depth]
    omega
  · rw [PyData.canLay0]
    exact b
  · rw [PyData.showable]
    exact c
  · rw [PyData.shown]
    unfold listText
    rw [strLen_append]
    have z := textFrom_le (PyData.shownAll ds) 0 "["
    have z2 := shown_pile h
    have e1 : (("[" : String) : Str).length = 1 := rfl
    have e2 : (("]" : String) : Str).length = 1 := rfl
    omega
theorem nice_tup {n m : Nat} {ds : List PyData} (h : ∀ d ∈ ds, Nice n m d) : Nice (n + 1) ((m + 2) * ds.length + 4) (.tuple ds) := by
  obtain ⟨a, b, c⟩ := all_nice ds h
  refine ⟨?_, ?_, ?_, ?_⟩
  · rw [PyData.depth]
    omega
  · rw [PyData.canLay0]
    exact b
  · rw [PyData.showable]
    exact c
  · rw [PyData.shown]
    unfold tupleText
    rw [strLen_append, strLen_append]
    have z2 := shown_pile h
    have e1 : (("(" : String) : Str).length = 1 := rfl
    have e3 : ((if ((PyData.shownAll ds).length == 1) = true then (",)" : String) else ")" : String) : Str).length ≤ 2 := by split <;> decide
    have z : (Str.join ", " (PyData.shownAll ds)).length ≤ piled (PyData.shownAll ds) := by
      by_cases e : PyData.shownAll ds = []
      · rw [e]
        decide
      · have := join_length_add _ e
        omega
    omega

/-! ### orders as data -/
def dl (o : List Nat) : List PyData := o.map fun k : Nat => PyData.int (k : Int)
theorem nice_ord {o : List Nat} (h : ∀ k ∈ o, k < 100) (hl : o.length ≤ 100) : Nice 1 404 (.list (dl o)) ∧ Nice 1 404 (.tuple (dl o)) := by
  have z : ∀ d ∈ dl o, Nice 0 2 d := fun d hd => by
    obtain ⟨k, hk, rfl⟩ := List.mem_map.mp hd
    exact nice_int (h k hk)
  have e : (dl o).length = o.length := List.length_map _
  exact ⟨(nice_list z).mono (Nat.le_refl _) (by rw [e]; omega), (nice_tup z).mono (Nat.le_refl _) (by rw [e]; omega)⟩
end Lb

set_option Elab.async false
set_option linter.all false
set_option maxRecDepth 100000
set_option maxHeartbeats 2000000
namespace Lb
open PySem PySem.Spec PyProof.Rows L2

/-! ### orders as lists of whole numbers -/
def vl (o : List Nat) : List V := (o.map fun k : Nat => (k : Int)).map V.int
theorem vl_len (o : List Nat) : (vl o).length = o.length := by unfold vl; rw [List.length_map, List.length_map]
theorem vl_get {o : List Nat} {i k : Nat} (h : o[i]? = some k) : (vl o)[i]? = some (.int (k : Int)) := by
  unfold vl
  rw [List.getElem?_map, List.getElem?_map, h]
  rfl
theorem rg_vl (n : Nat) : rgV 1 ((n : Int) + 1) = vl (List.range' 1 n) := by
  unfold rgV vl
  rw [show ((n : Int) + 1 - 1).toNat = n by omega, List.range'_eq_map_range, List.map_map, List.map_map]
  apply List.map_congr_left
  intro k _
  show V.int (1 + (k : Int)) = V.int (((1 + k : Nat)) : Int)
  rw [show ((1 + k : Nat) : Int) = 1 + (k : Int) by omega]
structure IsOrd (o : List Nat) : Prop where
  lo : 1 ≤ o.length
  hi : o.length ≤ 9
  perm : o.Perm (List.range' 1 o.length)

theorem dp_vl {K : PySem.W.Frag} {H : Hp} : ∀ o : List Nat, DpAll K H (vl o) (dl o)
  | [] => .nil
  | k :: r => .cons (.int _) (dp_vl r)
theorem IsOrd.small {o : List Nat} (h : IsOrd o) : ∀ k ∈ o, 1 ≤ k ∧ k ≤ o.length := fun k hk => by
  have z := (h.perm.mem_iff (a := k)).mp hk
  obtain ⟨i, hi, e⟩ := List.mem_range'.mp z
  omega
theorem IsOrd.nice {o : List Nat} (h : IsOrd o) : Nice 1 404 (.list (dl o)) ∧ Nice 1 404 (.tuple (dl o)) := nice_ord (fun k hk => by have := h.small k hk; have := h.hi; omega) (by have := h.hi; omega)
/-! ### heaps: all as it was, but the table at T may have grown -/
def Go (T : Addr) (H H' : Hp) : Prop := GxR.TabG H' T ∧ ∀ b u, b ≠ T → H b = some u → H' b = some u
theorem Go.refl {T : Addr} {H : Hp} (h : GxR.TabG H T) : Go T H H := ⟨h, fun _ _ _ e => e⟩
theorem Go.trans {T : Addr} {H H1 H2 : Hp} (a : Go T H H1) (b : Go T H1 H2) : Go T H H2 := ⟨b.1, fun c u n e => b.2 c u n (a.2 c u n e)⟩
theorem Go.tabbed {T : Addr} {H H' : Hp} (h : GxR.Tabbed T H H') : Go T H H' := ⟨h.1, fun b u n e => by rw [h.2 b n]; exact e⟩
theorem tab_ne {T p : Addr} {H : Hp} (h : GxR.TabG H T) (n : H p = none) : p ≠ T := fun z => by
  obtain ⟨ps, e, _⟩ := h
  rw [z, e] at n
  cases n
theorem Go.new {T p : Addr} {H : Hp} {o : HO} (h : GxR.TabG H T) (n : H p = none) : Go T H (upd H p o) := by
  have np := tab_ne h n
  refine ⟨?_, fun b u _ e => ?_⟩
  · obtain ⟨ps, e, ht⟩ := h
    exact ⟨ps, by rw [upd_ne np.symm]; exact e, ht⟩
  · rw [upd_ne (ne_of_none e n)]
    exact e
theorem Go.free {T p : Addr} {H H' : Hp} (g : Go T H H') (n : H' p = none) : H p = none := by
  cases e : H p with
  | none => rfl
  | some u =>
    have := g.2 p u (tab_ne g.1 n) e
    rw [n] at this
    cases this
theorem ne_tab {T a : Addr} {H : Hp} {u : HO} (h : GxR.TabG H T) (e : H a = some u) (nu : ∀ ps, u ≠ .tbl ps) : a ≠ T := fun z => by
  obtain ⟨ps, e2, _⟩ := h
  rw [z, e2] at e
  cases e
  exact nu ps rfl
theorem Go.ord {T a : Addr} {H H' : Hp} {b : Bool} {xs : List V} (g : Go T H H') (t : GxR.TabG H T) (h : OrdK b H a xs) : OrdK b H' a xs := by
  cases b with
  | false => exact g.2 a _ (ne_tab t h fun _ z => by cases z) h
  | true =>
    obtain ⟨o, d, h⟩ := h
    exact ⟨o, d, g.2 a _ (ne_tab t h fun _ z => by cases z) h⟩
theorem Go.seqL {K : PySem.W.Frag} {T a : Addr} {H H' : Hp} {xs : List V} (g : Go T H H') (t : GxR.TabG H T) (h : SqL K H a xs) : SqL K H' a xs := by
  rcases h with (h | ⟨o, h⟩) | h
  · exact .inl (.inl (g.2 a _ (ne_tab t h fun _ z => by cases z) h))
  · exact .inl (.inr ⟨o, g.2 a _ (ne_tab t h fun _ z => by cases z) h⟩)
  · exact .inr h
theorem Go.seqT {K : PySem.W.Frag} {T a : Addr} {H H' : Hp} {xs : List V} (g : Go T H H') (t : GxR.TabG H T) (h : SqT K H a xs) : SqT K H' a xs := by
  rcases h with (h | ⟨o, h⟩) | h
  · exact .inl (.inl (g.2 a _ (ne_tab t h fun _ z => by cases z) h))
  · exact .inl (.inr ⟨o, g.2 a _ (ne_tab t h fun _ z => by cases z) h⟩)
  · exact .inr h
theorem Go.lt {K : PySem.W.Frag} {T a : Addr} {H H' : Hp} {xs : List V} (g : Go T H H') (t : GxR.TabG H T) (h : SeqLT K H a xs) : SeqLT K H' a xs := h.imp (g.seqL t) (g.seqT t)

/-! ### the text -/
def topS (i : Nat) : Stmt := PySem.Challenge.pw_lowerboards_k13_whole_blocks_and_beside.main.body.getD i (.Pass ⟨0, 0, 0, 0⟩)
abbrev s_is_integer : Stmt := topS 2
abbrev s_is_order : Stmt := topS 3
theorem sc_is_order : FnScope ["value"] ["value"] (defScope s_is_order) := ⟨rfl, rfl, rfl, by decide +kernel, rfl, by decide +kernel, by decide +kernel⟩

section
variable {P : Program} {w : World} {K : PySem.W.Frag} {mg : Str → Option Value} {base : Heap} {T : Addr}

/-- what of the built-ins the program leaves as it is -/
structure Bl (mg : Str → Option Value) : Prop where
  isinstance : mg "isinstance" = none
  int : mg "int" = none
  bool : mg "bool" = none
  list : mg "list" = none
  tuple : mg "tuple" = none
  len : mg "len" = none
  all : mg "all" = none
  sorted : mg "sorted" = none
  range : mg "range" = none

/-- is_integer of an int, at the library's level -/
theorem isint_call {fI : Addr} {fdI : FuncData} (FI : Fun K "is_integer" "is_integer" s_is_integer fI fdI) (B : Bl mg) (M : L2.Mod K mg base) {A : Around} {R : Result → Shared → Prop} {s : Shared} {i : Int} {t : Tok} (hd : A.depth < recursionLimit) (hk : ∀ b o, base.get? b = some o → s.heap.get? b = some o)
    (h : ∀ s', PySem.Keeps s s' → R (.ok (.ret (.bool true))) s') : codeAny (model P w) A (.call (.ref fI) ⟨[.int i t], []⟩) R s := by
  obtain ⟨oc, od, kV, doc, pm, an, cdv, ct, osl, rfl, lk, hcd⟩ := FI.ex
  refine Att.call_fn (binds := [("value", .int i t)]) (M.kin.keeps hk) (M.nolimit.keeps hk) lk hcd hd (BindsTo.of_eq (by first | rfl | with_unfolding_all rfl)) (by first | rfl | decide | with_unfolding_all rfl) (fun s₁ IC => ?_) rfl rfl rfl
  obtain ⟨h₁, tk₁, rfl⟩ := IC.toInCall.same
  have k1 : ∀ b o, s.heap.get? b = some o → h₁.get? b = some o := IC.toInCall.keep
  have hn := IC.toInCall.ns
  have kb : ∀ b o, base.get? b = some o → h₁.get? b = some o := fun b o e => k1 b o (hk b o e)
  obtain ⟨mb, n1, n2⟩ := M.blt
  have isi : ∀ {tp : String} {b : Bool} {p1 p2 p3 p4 : Pos} {x : Str} {tk : Nat} {E' : Value → Shared → Prop} {Q : Value → Shared → Prop} (_ : mg x = none) (_ : bootBuiltins x = some (.type tp)) (_ : x ≠ "__name__") (_ : (x == ("__debug__" : Str)) = false)
      (_ : (envOfC "is_integer" (defScope s_is_integer) s.heap.objs.size fI cdv).kindOf x = some .globalImplicit) (_ : PySem.W.kitOne K (.type "int") (.type tp) = some b) (_ : ∀ tk', Q (.bool b) ⟨h₁, s.gens, s.drawn, tk', s.os⟩),
      wpAny (model P w) (A.deeper (envOfC "is_integer" (defScope s_is_integer) s.heap.objs.size fI cdv)) (eval (.Call (.Name "isinstance" p1) [.Name "value" p2, .Name x p3] [] p4) (envOfC "is_integer" (defScope s_is_integer) s.heap.objs.size fI cdv)) Q E' ⟨h₁, s.gens, s.drawn, tk, s.os⟩ := by
    intro tp b p1 p2 p3 p4 x tk E' Q m1 m2 m3 m4 m5 m6 q
    refine wpAny_Call_Name_kw (Calls.Name_function_global rfl (by rfl) (Calls.loadGlobal_builtin (M.glob.keeps kb) B.isinstance (n1.keeps kb) ((n2 _ (by decide)).trans (by decide +kernel : bootBuiltins "isinstance" = some (.builtin "isinstance"))) ?_) (by decide))
    refine PyProof.Rows.callWith_builtin1 ?_ (by rfl) (by rfl)
    show wpAny _ _ (spliced ((false, eval (.Name "value" p2) _) :: (false, eval (.Name x p3) _) :: [])) _ _ _
    refine Calls.spliced_cons (wpAny_Name (wpAny_loadName_local (v := .int i t) rfl (by rfl) hn (by rfl) (Calls.spliced_cons (Calls.Name_function_global rfl m5 (Calls.loadGlobal_builtin (M.glob.keeps kb) m1 (n1.keeps kb) ((n2 _ m3).trans m2) (Calls.spliced_nil ?_)) m4))) (by decide))
    exact PySem.W.kia_one (PySem.W.kitx_int) (M.kin.keeps kb) True.intro m6 (fun z => nomatch z) q
  refine wpAny_execs_cons (wpAny_Return_some ?_)
  refine BoolOp_and (isi (tp := "int") B.int (by decide +kernel) (by decide) (by decide) (by rfl) (kit_ty (r := true) (by decide +kernel)) fun tk => ?_)
  refine wpAny_truthy_bool ?_
  refine BoolOp_one (UnaryOp_ (isi (tp := "bool") B.bool (by decide +kernel) (by decide) (by decide) (by rfl) (kit_ty (r := false) (by decide +kernel)) fun tk => ?_))
  exact not_of (wpAny_truthy_bool (h _ ⟨h₁, tk, rfl, k1⟩))
/-- the elements of is_order's generator -/
theorem elt_isint {X : Cx} {fI : Addr} {fdI : FuncData} {scope : Scope} {p1 p2 p3 : Pos} {k : Nat} (FI : Fun X.K "is_integer" "is_integer" s_is_integer fI fdI) (B : Bl X.mg) (gI : X.mg "is_integer" = some (.ref fI)) (hr : Room k X.A)
    (hk : scope.kind = .function) (h1 : scope.names.lookup ("is_integer" : Str) = some .globalImplicit) (h2 : scope.names.lookup ("thing" : Str) = some .local) :
    EltD X scope "thing" (.Call (.Name "is_integer" p1) [.Name "thing" p2] [] p3) (fun v => ∃ i, v = .int i) (fun _ => true) := by
  rintro cenv A' E' v u s₂ m₂ M rv ⟨i, rfl⟩ hA hD hU hsc hgl hbl hb hn hm
  obtain ⟨t, rfl⟩ := rv
  have kd : cenv.scope.kind = .function := by rw [hsc]; exact hk
  have kI : cenv.kindOf "is_integer" = some .globalImplicit := by show cenv.scope.names.lookup _ = _; rw [hsc]; exact h1
  have kT : cenv.kindOf "thing" = some .local := by show cenv.scope.names.lookup _ = _; rw [hsc]; exact h2
  refine wpAny_Call_Name_kw (Calls.Name_function_global kd kI (Calls.loadGlobal_global (by rw [hgl]; exact M.glob.keeps hb) gI ?_) (by decide))
  refine PySem.W.callWith_K (h₀ := X.base) M.kin FI.kp ?_ (by rfl) (by rfl)
  show wpAny _ _ (spliced ((false, eval (.Name "thing" p2) cenv) :: [])) _ _ _
  refine Calls.spliced_cons (wpAny_Name (wpAny_loadName_local kd kT hn hm (Calls.spliced_nil ⟨M.kin.keeps hb, ?_⟩)) (by decide))
  refine wpAny_call (isint_call FI B M (by have := hr.dp; omega) hb fun s' hs => ⟨rfl, hs⟩)

theorem gens_of {env : Env} {scope : Scope} {x : Str} (h1 : scope.kind = .function) (h2 : scope.isCoroutine = false) (h3 : ∀ y ∈ scope.names, y.2 ≠ .cell ∧ y.2 ≠ .free) (h4 : scope.names.lookup (".0" : Str) = some NameKind.local) (h5 : scope.names.lookup x = some .local) : GxR.GenS env scope x :=
  ⟨h1, h2, fun y hy => (h3 y hy).1, h4, h5, fun y hy e => absurd e (h3 y hy).2⟩
theorem ty_seq {H : Hp} {a : Addr} {xs : List V} (h : SeqLT K H a xs) : ∃ t, TyX K H (.ref a) t ∧ PySem.W.kitAny K t [.type "list", .type "tuple"] = some true := by
  have kl : PySem.W.kitAny K (.type "list") [.type "list", .type "tuple"] = some true := kitAny_cons (b := true) (kit_ty (by decide +kernel)) (fun z => nomatch z) fun _ => rfl
  have kt : PySem.W.kitAny K (.type "tuple") [.type "list", .type "tuple"] = some true := kitAny_cons (b := false) (kit_ty (by decide +kernel)) (fun _ => kitAny_cons (b := true) (kit_ty (by decide +kernel)) (fun z => nomatch z) fun _ => rfl) fun z => nomatch z
  rcases h with h | h
  · rcases h with (h | ⟨o, h⟩) | ⟨o, _, _, h, hc, _⟩
    · exact ⟨_, .base (.lst h), kl⟩
    · exact ⟨_, .base (.frz h), kl⟩
    · exact ⟨_, .kList h hc, kl⟩
  · rcases h with (h | ⟨o, h⟩) | ⟨o, _, _, h, hc, _⟩
    · exact ⟨_, .base (.tup h), kt⟩
    · exact ⟨_, .fTuple h, kt⟩
    · exact ⟨_, .kTuple h hc, kt⟩
theorem lenV_seq {H : Hp} {a : Addr} {xs : List V} (h : SeqLT K H a xs) : LenV K (.ref a) H xs.length := by
  rcases h with h | h
  · exact .inl ⟨_, h, rfl⟩
  · exact .inr ⟨_, h, rfl⟩
def spIsOrder (K : PySem.W.Frag) (T : Addr) : Sp := fun vs H Q _ => ∃ (a : Addr) (o : List Nat), vs = [.ref a] ∧ SeqLT K H a (vl o) ∧ IsOrd o ∧ GxR.TabG H T ∧ ∀ H', Go T H H' → Q (.bl true) H'
theorem sorted_is {o : List Nat} (h : IsOrd o) {ns : List Int} (hp : ns.Perm (o.map fun k : Nat => (k : Int))) (hs : ns.Pairwise (· ≤ ·)) : ns.map V.int = rgV 1 ((o.length : Int) + 1) := by
  have e : ns = (List.range' 1 o.length).map fun k : Nat => (k : Int) := by
    refine List.Perm.eq_of_pairwise (le := (· ≤ ·)) (fun a b _ _ h1 h2 => Int.le_antisymm h1 h2) hs ?_ (hp.trans (h.perm.map _))
    rw [List.pairwise_map]
    exact (List.pairwise_lt_range' (s := 1) (n := o.length) (step := 1)).imp fun h => by omega
  rw [e]
  unfold rgV
  have e2 : ((o.length : Int) + 1 - 1).toNat = o.length := by omega
  rw [e2, List.range'_eq_map_range, List.map_map, List.map_map]
  apply List.map_congr_left
  intro k _
  show V.int (((1 + k : Nat)) : Int) = V.int (1 + (k : Int))
  congr 1
theorem ok_is_order {f fI c : Addr} {fd fdI : FuncData} {tN : Tok} (F : Fun K "is_order" "is_order" s_is_order f fd) (hc : fd.code = .ref c) (TB : GxR.TabB base mg c T) (FI : Fun K "is_integer" "is_integer" s_is_integer fI fdI) (gI : mg "is_integer" = some (.ref fI)) (B : Bl mg) (mN : mg "MOST_THINGS" = some (.int 9 tN)) :
    FnOk P w K mg base CX0 2 f fd ["value"] (spIsOrder K T) := by
  obtain ⟨oc, od, kV, doc, pm, an, cdv, ct, osl, rfl, lk, hcd⟩ := F.ex
  have hc' : cdv = .ref c := hc
  subst hc'
  refine fn_of lk hcd sc_is_order (fun vs H Q E h => ?_) (fun A outer s H vs Q E hr h => ?_)
  · obtain ⟨a, o, rfl, _⟩ := h
    rfl
  · obtain ⟨a, o, rfl, hs, ho, ht, q⟩ := h
    refine ⟨_, pss_cons (ps_if (PW.pt (pw_or (pt_not (pt_val (pe_callB call_isiT (by rfl) B.isinstance (by decide +kernel) (pa_cons (pv 0) (pa_cons (pe_tup (pa_cons (pe_bltn (v := .ty "list") (by rfl) B.list (by decide +kernel) rfl) (pa_cons (pe_bltn (v := .ty "tuple") (by rfl) B.tuple (by decide +kernel) rfl) pa_nil))) pa_nil)))))
          (pw_or1 (pt_not (pt_chain op_le op_le pe_int (pe_callB call_len (by rfl) B.len PySem.boot_len (pa_cons (pv 0) pa_nil)) (pe_glob (v := .int 9) (by rfl) mN ⟨_, rfl⟩))))))
        (pss_one (ps_ret pe_bl)) pss_nil)
      (pss_cons (ps_if (pt_not (pt_val (pe_allD hr (by rfl) B.all (by decide +kernel) TB rfl (gens_of rfl rfl (by decide +kernel) (by rfl) (by rfl)) (pv 0) (elt_isint FI B gI hr rfl (by rfl) (by rfl)) (fun _ => rfl)))) (pss_one (ps_ret pe_bl)) pss_nil)
      (pss_one (ps_ret (pe_cmpR (op_eqD hr.units) (pe_callB cr_sortLT (by rfl) B.sorted (by decide +kernel) (pa_cons (pv 0) pa_nil)) (pe_listRg rfl (by rfl) B.list (prg_2 (by rfl) B.range pe_int (pe_op op_add (pe_callB call_len (by rfl) B.len PySem.boot_len (pa_cons (pv 0) pa_nil)) pe_int))) (nomark _))))), ?_⟩
    -- isinstance(value, (list, tuple))
    refine ⟨.ref a, rfl, Nat.le_of_ble_eq_true rfl, fun p hp => ?_⟩
    have g1 := Go.new (o := .tup [V.ty "list", V.ty "tuple"]) ht hp
    obtain ⟨t1, ty1, k1⟩ := ty_seq (g1.lt ht hs)
    refine ⟨.ref a, p, _, t1, _, true, rfl, upd_same, .cons (.ty _) (.cons (.ty _) .nil), ty1, k1, true, rfl, ?_⟩
    refine iteF ?_
    have l1 := lenV_seq (g1.lt ht hs)
    rw [vl_len] at l1
    have b1 := ho.lo
    have b9 := ho.hi
    refine ⟨.ref a, rfl, .ref a, o.length, rfl, l1, 1, (o.length : Int), rfl, rfl, true, congrArg V.bl (decide_eq_true (by omega)), ?_⟩
    refine iteT ⟨(o.length : Int), 9, rfl, rfl, true, congrArg V.bl (decide_eq_true (by omega)), iteF ?_⟩
    -- all(is_integer(thing) for thing in value)
    refine ⟨.ref a, rfl, a, vl o, rfl, g1.lt ht hs, fun v hv => ?_, g1.1, fun H2 hT => ⟨true, ?_, iteF ?_⟩⟩
    · obtain ⟨i, hi, rfl⟩ := List.mem_map.mp hv
      exact ⟨i, rfl⟩
    · rw [List.all_eq_true.mpr (fun _ _ => rfl)]
    have g2 := g1.trans (Go.tabbed hT)
    -- sorted(value) == list(range(1, len(value) + 1))
    refine ⟨.ref a, rfl, a, _, rfl, g2.lt ht hs, by rw [List.length_map]; omega, fun ns' p2 hp1 hp2 hn2 => ?_⟩
    have g3 := g2.trans (Go.new (o := .lst (ns'.map V.int)) g2.1 hn2)
    have l3 := lenV_seq (g3.lt ht hs)
    rw [vl_len] at l3
    refine ⟨.ref a, rfl, .ref a, o.length, rfl, l3, (o.length : Int), 1, rfl, rfl, 1, (o.length : Int) + 1, rfl, rfl, RgOk.of_le (by omega) (by omega) (by omega) (by omega), fun p4 hn4 => ?_⟩
    have nt : PySem.W.Frag := K
    have e := sorted_is ho hp1 hp2
    have n42 : p2 ≠ p4 := ne_of_none upd_same hn4
    have dS : (PyData.list ((List.range' 1 o.length).map fun k : Nat => PyData.int (k : Int))) = .list (dl (List.range' 1 o.length)) := rfl
    have rg := rg_vl o.length
    have nc := (nice_ord (o := List.range' 1 o.length) (fun k hk => by obtain ⟨i, hi, e⟩ := List.mem_range'.mp hk; omega) (by rw [List.length_range']; omega)).1
    refine ⟨.list (dl (List.range' 1 o.length)), .list (dl (List.range' 1 o.length)), .lst (xs := vl (List.range' 1 o.length)) (.inl (.inl ?_)) (dp_vl _), .lst (xs := vl (List.range' 1 o.length)) (.inl (.inl ?_)) (dp_vl _), nc.shaped (by decide), nc.shaped (by decide), ?_⟩
    · rw [upd_ne n42, upd_same, ← rg, ← e]
    · rw [upd_same, rg]
    · rw [nc.refl]
      exact q _ (g3.trans (Go.new g3.1 hn4))
end
end Lb

set_option Elab.async false
set_option linter.all false
set_option maxRecDepth 100000
set_option maxHeartbeats 2000000
namespace Lb
open PySem PySem.Spec PyProof.Rows L2

def und (o : List Nat) : List Nat := (List.range' 1 o.length).map fun k => o.idxOf k + 1
def trn (o : List Nat) : List Nat := o.reverse.map fun k => o.length + 1 - k
def beh (a b : List Nat) : List Nat := b.map fun p => a.getD (p - 1) 0
def exch (o : List Nat) (i j : Nat) : List Nat := (o.set i (o.getD j 0)).set j (o.getD i 0)
theorem idx_cast (k : Nat) : ∀ o : List Nat, (o.map fun k : Nat => (k : Int)).idxOf (k : Int) = o.idxOf k
  | [] => rfl
  | x :: r => by
    rw [List.map_cons, List.idxOf_cons, List.idxOf_cons, idx_cast k r]
    by_cases e : x = k
    · subst e
      simp
    · have e2 : ¬ ((x : Int) = (k : Int)) := fun z => e (Int.ofNat.inj z)
      rw [beq_eq_false_iff_ne.mpr e2, beq_eq_false_iff_ne.mpr e]
theorem IsOrd.mem {o : List Nat} (h : IsOrd o) {k : Nat} (h1 : 1 ≤ k) (h2 : k ≤ o.length) : k ∈ o := (h.perm.mem_iff (a := k)).mpr (List.mem_range'.mpr ⟨k - 1, by omega, by omega⟩)
theorem vl_snoc (l : List Nat) (k : Nat) : vl l ++ [V.int (k : Int)] = vl (l ++ [k]) := by
  unfold vl
  rw [List.map_append, List.map_append]
  rfl
theorem take_snoc {α : Type} {l : List α} {i : Nat} {x : α} (h : l[i]? = some x) : l.take (i + 1) = l.take i ++ [x] := by
  rw [List.take_add_one, h]
  rfl
theorem small9 {n : Nat} (h : n ≤ 100) : n < sizeLine := small1000 (by omega)

theorem ix_in {n j : Nat} (hj : j < n) : ixN n (j : Int) = some j := by
  unfold ixN
  first
    | (rw [if_pos ⟨by omega, by omega⟩, Int.toNat_natCast]; done)
    | (rw [if_pos (by omega), Int.toNat_natCast]; done)
    | (simp; omega)
abbrev s_check_order : Stmt := topS 10
abbrev s_wrong_pairs : Stmt := topS 12
abbrev s_level : Stmt := topS 13
abbrev s_undone : Stmt := topS 15
abbrev s_turned : Stmt := topS 16
theorem sc_check_order : FnScope ["order"] ["order"] (defScope s_check_order) := ⟨rfl, rfl, rfl, by decide +kernel, rfl, by decide +kernel, by decide +kernel⟩
theorem sc_undone : FnScope ["order", "thing"] ["order"] (defScope s_undone) := ⟨rfl, rfl, rfl, by decide +kernel, rfl, by decide +kernel, by decide +kernel⟩

section
variable {P : Program} {w : World} {K : PySem.W.Frag} {mg : Str → Option Value} {base : Heap} {T : Addr}

/-- a def that stands under its name, and how its arguments bind -/
structure Df (K : PySem.W.Frag) (mg : Str → Option Value) (x : Str) (st : Stmt) (ps : List Str) (f : Addr) (fd : FuncData) : Prop where
  fn : Fun K x x st f fd
  at_ : mg x = some (.ref f)
  bind : Binds K fd ps []

def spChk (K : PySem.W.Frag) (T : Addr) : Sp := fun vs H Q _ => ∃ (a : Addr) (o : List Nat), vs = [.ref a] ∧ SeqLT K H a (vl o) ∧ IsOrd o ∧ GxR.TabG H T ∧ ∀ H', Go T H H' → Q .non H'
/-- the facts of is_order's def -/
structure Io (K : PySem.W.Frag) (mg : Str → Option Value) (base : Heap) (T : Addr) (c f fI : Addr) (fd fdI : FuncData) : Prop where
  f : Df K mg "is_order" s_is_order ["value"] f fd
  code : fd.code = .ref c
  TB : GxR.TabB base mg c T
  I : Df K mg "is_integer" s_is_integer ["value"] fI fdI
  N : ∃ t, mg "MOST_THINGS" = some (.int 9 t)
  B : Bl mg
variable {c fO fI : Addr} {fdO fdI : FuncData}
theorem Io.ok (O : Io K mg base T c fO fI fdO fdI) : FnOk P w K mg base CX0 2 fO fdO ["value"] (spIsOrder K T) := by
  obtain ⟨t, hN⟩ := O.N
  exact ok_is_order O.f.fn O.code O.TB O.I.fn O.I.at_ O.B hN
theorem ok_check_order {f : Addr} {fd : FuncData} (F : Fun K "check_order" "check_order" s_check_order f fd) (O : Io K mg base T c fO fI fdO fdI) : FnOk P w K mg base CX0 3 f fd ["order"] (spChk K T) := by
  have G : FnOk P w K mg base CX0 2 fO fdO ["value"] (spIsOrder K T) := O.ok
  refine F.ok sc_check_order (fun vs H Q E h => ?_) (fun cdv A outer s H vs Q E hr h => ?_)
  · obtain ⟨a, o, rfl, _⟩ := h
    rfl
  · obtain ⟨a, o, rfl, hs, ho, ht, q⟩ := h
    refine ⟨_, pss_one (ps_if (pt_not (pt_val (pe_call G hr (by rfl) O.f.at_ O.f.fn.kp O.f.bind .nil pass0 (pa_cons (pv 0) pa_nil)))) (pss_one ps_never) pss_nil), ?_⟩
    exact ⟨.ref a, rfl, a, o, rfl, hs, ho, ht, fun H' g => ⟨true, rfl, iteF (q H' g)⟩⟩

theorem getD_of {o : List Nat} {i : Nat} (h : i < o.length) : o[i]? = some (o.getD i 0) := by
  rw [List.getElem?_eq_getElem h, List.getD_eq_getElem?_getD, List.getElem?_eq_getElem h]
  rfl
theorem vl_set (o : List Nat) (i k : Nat) : (vl o).set i (V.int (k : Int)) = vl (o.set i k) := by
  unfold vl
  rw [List.map_set, List.map_set]
end
end Lb

set_option Elab.async false
set_option linter.all false
set_option maxRecDepth 100000
set_option maxHeartbeats 2000000
namespace Lb
open PySem PySem.Spec PyProof.Rows L2

theorem sc_turned : FnScope ["order", "thing"] ["order"] (defScope s_turned) := ⟨rfl, rfl, rfl, by decide +kernel, rfl, by decide +kernel, by decide +kernel⟩
theorem sc_wrong_pairs : FnScope ["order", "size", "i", "j"] ["order"] (defScope s_wrong_pairs) := ⟨rfl, rfl, rfl, by decide +kernel, rfl, by decide +kernel, by decide +kernel⟩
theorem sc_level : FnScope ["order"] ["order"] (defScope s_level) := ⟨rfl, rfl, rfl, by decide +kernel, rfl, by decide +kernel, by decide +kernel⟩

/-! for x in seq, seq a list (false) or a tuple (true) -/
def SqB (K : PySem.W.Frag) : Bool → Hp → Addr → List V → Prop
  | false, H, a, xs => SqL K H a xs
  | true, H, a, xs => SqT K H a xs
def ItB (K : PySem.W.Frag) (b : Bool) (a : Addr) : It := if b = true then Itt K a else Itl K a
theorem OrdK.sqB {K : PySem.W.Frag} {b : Bool} {H : Hp} {a : Addr} {xs : List V} (h : OrdK b H a xs) : SqB K b H a xs := by
  cases b with
  | false => exact h.sqL
  | true => exact h.sqT
theorem Go.sqB {K : PySem.W.Frag} {b : Bool} {T a : Addr} {H H' : Hp} {xs : List V} (g : Go T H H') (t : GxR.TabG H T) (h : SqB K b H a xs) : SqB K b H' a xs := by
  cases b with
  | false => exact g.seqL t h
  | true => exact g.seqT t h
def iSeq (K : PySem.W.Frag) (tl : TE) : TI := fun σ H R => tl σ H fun x H1 => ∃ (b : Bool) (a : Addr), x = .ref a ∧ (∃ xs, SqB K b H1 a xs) ∧ R (ItB K b a) H1
theorem pi_seq {X : Cx} {tg l : Expr} {tl : TE} (hl : PE X l tl) : PI X tg l (iSeq X.K tl) := by
  refine ⟨fun pins s σ H R I h => thn (hl.run pins s σ H _ I h) fun v s1 ⟨x, H1, I1, r1, q1⟩ => ?_⟩
  obtain ⟨b, a, rfl, ⟨xs, hq⟩, q⟩ := q1
  cases r1
  have at_ : ∀ c ∈ [s1.heap.objs.size], FpOk X pins H1 c := fun c hc => by
    cases List.mem_singleton.mp hc
    exact I1.fpOk (Nat.le_refl _) (I1.hok.fresh (Nat.le_refl _))
  cases b with
  | false =>
    obtain ⟨its, rv, p, hz⟩ := I1.list hq
    exact wpAny_pyIter_list p.isList ⟨s1.heap.objs.size, [s1.heap.objs.size], _, _, H1, rfl, I1.kept (t' := s1.toks) fun b o e => Heap.get?_push_of_some _ e, turn_list a _, ⟨_, Heap.get?_push_size _ rfl, rfl, rfl⟩, at_, q⟩
  | true =>
    obtain ⟨its, rv, p, hz⟩ := I1.tuple hq
    exact wpAny_pyIter_tuple (show s1.heap.IsTuple a its.toArray from p) ⟨s1.heap.objs.size, [s1.heap.objs.size], _, _, H1, rfl, I1.kept (t' := s1.toks) fun b o e => Heap.get?_push_of_some _ e, turn_tuple a _, ⟨_, Heap.get?_push_size _ rfl, rfl, rfl⟩, at_, q⟩
theorem lc_seq {K : PySem.W.Frag} {b : Bool} {a : Addr} {xs : List V} {g : TG} {tt : TT} {te : TE} {vs : List Nat} {σ : L2.St} {H1 : Hp} {D : Addr} {Qd : Hp → Prop} (Pv : Nat → Hp → Prop) (h0 : Pv 0 (upd H1 D (.lst []))) (hl : ∀ i H, i ≤ xs.length → Pv i H → SqB K b H a xs)
    (hs : ∀ i x H, xs[i]? = some x → Pv i H → g x (wipe σ vs) H fun σ2 H2 => wipe σ2 vs = wipe σ vs ∧ tt σ2 H2 fun b H3 =>
      if b = true then te σ2 H3 fun y H4 => ∃ acc, H4 D = some (.lst acc) ∧ acc.length < sizeLine ∧ Pv (i + 1) (upd H4 D (.lst (acc ++ [y]))) else Pv (i + 1) H3) (hd : ∀ H, Pv xs.length H → Qd H) :
    ∃ W : Nat → Nat → Hp → Prop, (∃ m, W 0 m (upd H1 D (.lst []))) ∧ ∀ i m H, W i m H →
      ((ItB K b a).stop i H ∧ Qd H) ∨ ((ItB K b a).go i H ∧ ∃ Nx : Hp → Prop, (∀ H', Nx H' → ∃ m', m' < m ∧ W (i + 1) m' H') ∧ ∀ x H', (ItB K b a).yld i H x H' → g x (wipe σ vs) H' fun σ2 H2 => wipe σ2 vs = wipe σ vs ∧ tt σ2 H2 fun b H3 =>
        if b = true then te σ2 H3 fun y H4 => ∃ acc, H4 D = some (.lst acc) ∧ acc.length < sizeLine ∧ Nx (upd H4 D (.lst (acc ++ [y]))) else Nx H3) := by
  cases b with
  | false => exact lc_list Pv h0 hl hs hd
  | true => exact lc_tup Pv h0 hl hs hd
/-- len, where the written part is told -/
def rLen (K : PySem.W.Frag) : List V → Hp → VK → Prop := fun xs H Q => ∃ x n, xs = [x] ∧ LenV K x H n ∧ Q (V.int (n : Nat)) H
theorem lenK {X : Cx} : CallR X (.builtin "len") (rLen X.K) := call_len
/-- what has been made so far stands at D -/
def Made (T : Addr) (H1 : Hp) (D : Addr) (l : List Nat) (H : Hp) : Prop := GxR.TabG H T ∧ (∀ b u, b ≠ T → b ≠ D → H1 b = some u → H b = some u) ∧ H D = some (.lst (vl l))
theorem Made.start {T D : Addr} {H1 : Hp} (ht : GxR.TabG H1 T) (hD : H1 D = none) : Made T H1 D [] (upd H1 D (.lst [])) :=
  ⟨(Go.new (o := .lst []) ht hD).1, fun b u n1 n2 e => by rw [upd_ne n2]; exact e, upd_same⟩
theorem Made.go {T D : Addr} {H1 H : Hp} {l : List Nat} (m : Made T H1 D l H) (hD : H1 D = none) : Go T H1 H := ⟨m.1, fun b u n e => m.2.1 b u n (fun z => by rw [z, hD] at e; cases e) e⟩
theorem Made.more {T D : Addr} {H1 H H' : Hp} {l : List Nat} {k : Nat} (m : Made T H1 D l H) (hD : H1 D = none) (ht : GxR.TabG H1 T) (g : Go T H H') :
    H' D = some (.lst (vl l)) ∧ Made T H1 D (l ++ [k]) (upd H' D (.lst (vl l ++ [V.int (k : Int)]))) := by
  have dT : D ≠ T := tab_ne ht hD
  refine ⟨g.2 D _ dT m.2.2, ⟨?_, fun b u n1 n2 e => ?_, ?_⟩⟩
  · obtain ⟨ps, e, h⟩ := g.1
    exact ⟨ps, by rw [upd_ne dT.symm]; exact e, h⟩
  · rw [upd_ne n2]
    exact g.2 b u n1 (m.2.1 b u n1 n2 e)
  · rw [upd_same, vl_snoc]

section
variable {P : Program} {w : World} {K : PySem.W.Frag} {mg : Str → Option Value} {base : Heap} {T c fO fI : Addr} {fdO fdI : FuncData}

/-- the outcome of a def that makes a new tuple -/
def Out (T : Addr) (H : Hp) (Q : VK) (o : List Nat) : Prop := ∀ H' p, Go T H H' → H p = none → OrdK true H' p (vl o) → Q (.ref p) H'
def spUnd (T : Addr) : Sp := fun vs H Q _ => ∃ (b : Bool) (a : Addr) (o : List Nat), vs = [.ref a] ∧ OrdK b H a (vl o) ∧ IsOrd o ∧ GxR.TabG H T ∧ Out T H Q (und o)
def Cd (K : PySem.W.Frag) (mg : Str → Option Value) (fC : Addr) (fdC : FuncData) : Prop := Df K mg "check_order" s_check_order ["order"] fC fdC
theorem ok_undone {f fC : Addr} {fd fdC : FuncData} (F : Fun K "undone" "undone" s_undone f fd) (C : Cd K mg fC fdC) (O : Io K mg base T c fO fI fdO fdI) : FnOk P w K mg base CX0 4 f fd ["order"] (spUnd T) := by
  have G : FnOk P w K mg base CX0 3 fC fdC ["order"] (spChk K T) := ok_check_order C.fn O
  refine F.ok sc_undone (fun vs H Q E h => ?_) (fun cdv A outer s H vs Q E hr h => ?_)
  · obtain ⟨b, a, o, rfl, _⟩ := h
    rfl
  · obtain ⟨b, a, o, rfl, ha, ho, ht, q⟩ := h
    refine ⟨_, pss_cons (ps_expr (pe_call G hr (by rfl) C.at_ C.fn.kp C.bind .nil pass0 (pa_cons (pv 0) pa_nil)))
      (pss_one (ps_ret (pe_tupF (by rfl) O.B.tuple
        (pe_lc (own := [("thing", 1)]) (g := gName 1) (tt := tYes) (by rfl) sc_undone.nd (pi_range2 (by rfl) O.B.range (pa_cons pe_int (pa_cons (pe_op op_add (pe_callB call_len (by rfl) O.B.len PySem.boot_len (pa_cons (pv 0) pa_nil)) pe_int) pa_nil)))
          (blkOk_by (own := [("thing", 1)]) (N := ["order", "thing"]) (sc := defScope s_undone) (by decide +kernel)) (fun _ _ _ _ _ => pg_name (i := 1) sc_undone.nd rfl (Or.inl rfl)) (fun _ _ _ _ _ => pts_nil)
          (fun _ _ _ _ _ => pe_op op_add (pe_idx (pv 0) (pa_cons (pv 1) pa_nil)) pe_int))))), ?_⟩
    refine ⟨.ref a, rfl, a, o, rfl, ha.lt, ho, ht, fun H1 g1 => ?_⟩
    have l1 := lenV_seq (K := K) (g1.ord ht ha).lt
    rw [vl_len] at l1
    have b9 := ho.hi
    refine ⟨.ref a, rfl, .ref a, _, rfl, l1, _, 1, rfl, rfl, 1, (o.length : Int) + 1, rfl, ⟨by omega, by omega, by omega, by omega⟩, fun D hD => ?_⟩
    refine lc_range (lo := 1) (n := ((o.length : Int) + 1 - 1).toNat) (fun i H => Made T H1 D ((und o).take i) H) (Made.start g1.1 hD) (fun i H hi m => ?_) (fun H m => ?_)
    · have hi' : i < o.length := by omega
      have mem := ho.mem (k := i + 1) (by omega) (by omega)
      have gd := m.go hD
      refine ⟨rfl, .ref a, rfl, b, a, o.map fun k : Nat => (k : Int), rfl, gd.ord g1.1 (g1.ord ht ha), .int (1 + (i : Int)), rfl, 1 + (i : Int), rfl, gd.ord g1.1 (g1.ord ht ha), List.mem_map.mpr ⟨i + 1, mem, by omega⟩, _, 1, rfl, rfl, ?_⟩
      have e : (o.map fun k : Nat => (k : Int)).idxOf (1 + (i : Int)) = o.idxOf (i + 1) := by
        rw [show (1 + (i : Int)) = ((i + 1 : Nat) : Int) by omega, idx_cast]
      rw [e]
      have more := m.more (k := o.idxOf (i + 1) + 1) hD g1.1 (Go.refl m.1)
      refine ⟨_, more.1, by rw [vl_len, List.length_take]; exact small9 (by omega), ?_⟩
      have at_ : (und o)[i]? = some (o.idxOf (i + 1) + 1) := by
        unfold und
        rw [List.getElem?_map, List.getElem?_range' hi']
        show some (o.idxOf (1 + 1 * i) + 1) = _
        rw [show 1 + 1 * i = i + 1 by omega]
      rw [take_snoc at_]
      exact more.2
    · have e : (und o).take ((o.length : Int) + 1 - 1).toNat = und o := List.take_of_length_le (by
        unfold und
        rw [List.length_map, List.length_range']
        omega)
      rw [e] at m
      refine ⟨false, D, vl (und o), rfl, m.2.2, fun z => (nomatch z), fun _ p ob hd hp => ?_⟩
      have g2 := g1.trans (m.go hD)
      exact q _ p (g2.trans (Go.new g2.1 hp)) (g2.free hp) ⟨ob, hd, upd_same⟩

def spTrn (T : Addr) : Sp := fun vs H Q _ => ∃ (b : Bool) (a : Addr) (o : List Nat), vs = [.ref a] ∧ OrdK b H a (vl o) ∧ IsOrd o ∧ GxR.TabG H T ∧ Out T H Q (trn o)
theorem vl_rev (o : List Nat) : (vl o).reverse = vl o.reverse := by
  unfold vl
  rw [List.map_reverse, List.map_reverse]
theorem ok_turned {f fC : Addr} {fd fdC : FuncData} (F : Fun K "turned" "turned" s_turned f fd) (C : Cd K mg fC fdC) (O : Io K mg base T c fO fI fdO fdI) : FnOk P w K mg base CX0 4 f fd ["order"] (spTrn T) := by
  have G : FnOk P w K mg base CX0 3 fC fdC ["order"] (spChk K T) := ok_check_order C.fn O
  refine F.ok sc_turned (fun vs H Q E h => ?_) (fun cdv A outer s H vs Q E hr h => ?_)
  · obtain ⟨b, a, o, rfl, _⟩ := h
    rfl
  · obtain ⟨b, a, o, rfl, ha, ho, ht, q⟩ := h
    refine ⟨_, pss_cons (ps_expr (pe_call G hr (by rfl) C.at_ C.fn.kp C.bind .nil pass0 (pa_cons (pv 0) pa_nil)))
      (pss_one (ps_ret (pe_tupF (by rfl) O.B.tuple
        (pe_lc (own := [("thing", 1)]) (g := gName 1) (tt := tYes) (by rfl) sc_turned.nd (pi_seq (pe_rev (pv 0)))
          (blkOk_by (own := [("thing", 1)]) (N := ["order", "thing"]) (sc := defScope s_turned) (by decide +kernel)) (fun _ _ _ _ _ => pg_name (i := 1) sc_turned.nd rfl (Or.inl rfl)) (fun _ _ _ _ _ => pts_nil)
          (fun _ _ _ _ _ => pe_op op_sub (pe_op op_add (pe_callB (show CallR _ _ (rLen K) from lenK) (by rfl) O.B.len PySem.boot_len (pa_cons (pv 0) pa_nil)) pe_int) (pv 1)))))), ?_⟩
    refine ⟨.ref a, rfl, a, o, rfl, ha.lt, ho, ht, fun H1 g1 => ?_⟩
    have b9 := ho.hi
    have a1 := g1.ord ht ha
    refine ⟨.ref a, rfl, b, a, vl o, rfl, a1, fun r hr => ?_⟩
    have g2 : Go T H1 (upd H1 r (if b = true then .tup (vl o).reverse else .lst (vl o).reverse)) := Go.new g1.1 hr
    have sr : SqB K b (upd H1 r (if b = true then .tup (vl o).reverse else .lst (vl o).reverse)) r (vl o.reverse) := by
      rw [← vl_rev]
      cases b with
      | false => exact .inl (.inl upd_same)
      | true => exact .inl (.inl upd_same)
    refine ⟨b, r, rfl, ⟨_, sr⟩, fun D hD => ?_⟩
    refine lc_seq (xs := vl o.reverse) (fun i H => Made T _ D ((trn o).take i) H) (Made.start g2.1 hD) (fun i H _ m => (m.go hD).sqB g2.1 sr) (fun i x H hx m => ?_) (fun H m => ?_)
    · have gd := m.go hD
      have hi : i < o.reverse.length := by
        have z := (List.getElem?_eq_some_iff.mp hx).1
        rw [vl_len] at z
        exact z
      have ex : x = .int ((o.reverse.getD i 0 : Nat) : Int) := Option.some.inj (hx.symm.trans (vl_get (getD_of hi)))
      subst ex
      have l1 := lenV_seq (K := K) (gd.ord g2.1 (g2.ord g1.1 a1)).lt
      rw [vl_len] at l1
      refine ⟨rfl, .ref a, rfl, .ref a, _, rfl, l1, _, 1, rfl, rfl, .int ((o.reverse.getD i 0 : Nat) : Int), rfl, _, _, rfl, rfl, ?_⟩
      have hs := ho.small (o.reverse.getD i 0) (List.mem_reverse.mp (List.mem_of_getElem? (getD_of hi)))
      have ev : (o.length : Int) + 1 - ((o.reverse.getD i 0 : Nat) : Int) = ((o.length + 1 - o.reverse.getD i 0 : Nat) : Int) := by omega
      have more := m.more (k := o.length + 1 - o.reverse.getD i 0) hD g2.1 (Go.refl m.1)
      rw [List.length_reverse] at hi
      refine ⟨_, more.1, by rw [vl_len, List.length_take]; exact small9 (by omega), ?_⟩
      show Made T _ D _ (upd H D (.lst (vl _ ++ [V.int ((o.length : Int) + 1 - ((o.reverse.getD i 0 : Nat) : Int))])))
      rw [ev]
      have at_ : (trn o)[i]? = some (o.length + 1 - o.reverse.getD i 0) := by
        unfold trn
        rw [List.getElem?_map, getD_of (by rw [List.length_reverse]; exact hi)]
        rfl
      rw [take_snoc at_]
      exact more.2
    · have e : (trn o).take (vl o.reverse).length = trn o := List.take_of_length_le (by
        unfold trn
        rw [List.length_map, vl_len]
        exact Nat.le_refl _)
      rw [e] at m
      refine ⟨false, D, vl (trn o), rfl, m.2.2, fun z => (nomatch z), fun _ p ob hd hp => ?_⟩
      have g3 := (g1.trans g2).trans (m.go hD)
      exact q _ p (g3.trans (Go.new g3.1 hp)) (g3.free hp) ⟨ob, hd, upd_same⟩
end
end Lb

set_option Elab.async false
set_option linter.all false
set_option maxRecDepth 100000
set_option maxHeartbeats 2000000
namespace Lb
open PySem PySem.Spec PyProof.Rows L2

/-! ### wrong pairs -/
/-- the wrong pairs of the place i with the first k places behind it -/
def row (o : List Nat) (i k : Nat) : List (Nat × Nat) := ((List.range k).filter fun b => decide (o.getD i 0 > o.getD (i + 1 + b) 0)).map fun b => (i, i + 1 + b)
def wpTo (o : List Nat) (i j : Nat) : List (Nat × Nat) := ((List.range i).flatMap fun a => row o a (o.length - (a + 1))) ++ row o i j
def wps (o : List Nat) : List (Nat × Nat) := (List.range o.length).flatMap fun a => row o a (o.length - (a + 1))
def lev (o : List Nat) : Nat := (wps o).length
theorem row_zero (o : List Nat) (i : Nat) : row o i 0 = [] := rfl
theorem row_more (o : List Nat) (i k : Nat) : row o i (k + 1) = row o i k ++ (if o.getD i 0 > o.getD (i + 1 + k) 0 then [(i, i + 1 + k)] else []) := by
  unfold row
  rw [List.range_succ, List.filter_append, List.map_append]
  congr 1
  by_cases h : o.getD i 0 > o.getD (i + 1 + k) 0
  · rw [if_pos h, List.filter_cons_of_pos (by exact decide_eq_true h)]
    rfl
  · rw [if_neg h, List.filter_cons_of_neg (by rw [decide_eq_false h]; exact Bool.false_ne_true)]
    rfl
theorem wpTo_more (o : List Nat) (i k : Nat) : wpTo o i (k + 1) = wpTo o i k ++ (if o.getD i 0 > o.getD (i + 1 + k) 0 then [(i, i + 1 + k)] else []) := by
  unfold wpTo
  rw [row_more, List.append_assoc]
theorem wpTo_next (o : List Nat) (i : Nat) : wpTo o (i + 1) 0 = wpTo o i (o.length - (i + 1)) := by
  unfold wpTo
  rw [List.range_succ, List.flatMap_append, row_zero, List.append_nil, List.flatMap_cons, List.flatMap_nil, List.append_nil]
theorem wpTo_end (o : List Nat) : wpTo o o.length 0 = wps o := by
  unfold wpTo wps
  rw [row_zero, List.append_nil]
theorem row_le (o : List Nat) (i k : Nat) : (row o i k).length ≤ k := by
  unfold row
  rw [List.length_map]
  exact Nat.le_trans (List.length_filter_le _ _) (by rw [List.length_range]; exact Nat.le_refl _)
theorem flat_le {f : Nat → List (Nat × Nat)} {c : Nat} (h : ∀ a, (f a).length ≤ c) : ∀ l : List Nat, (l.flatMap f).length ≤ c * l.length
  | [] => Nat.le_refl _
  | a :: r => by
    rw [List.flatMap_cons, List.length_append, List.length_cons, Nat.mul_add]
    have := h a
    have := flat_le h r
    omega
theorem wpTo_le {o : List Nat} {i j : Nat} (h : o.length ≤ 9) (hi : i ≤ 9) (hj : j ≤ 9) : (wpTo o i j).length ≤ 90 := by
  unfold wpTo
  rw [List.length_append]
  have h1 := flat_le (f := fun a => row o a (o.length - (a + 1))) (c := 9) (fun a => Nat.le_trans (row_le _ _ _) (by omega)) (List.range i)
  rw [List.length_range] at h1
  have h2 := row_le o i j
  omega

def PairsAt (H : Hp) (ts : List Addr) (ps : List (Nat × Nat)) : Prop := Paired (fun t (p : Nat × Nat) => H t = some (.tup [V.int (p.1 : Int), V.int (p.2 : Int)])) ts ps
theorem PairsAt.keep {H H' : Hp} {ts : List Addr} {ps : List (Nat × Nat)} (h : PairsAt H ts ps) (k : ∀ b xs, H b = some (.tup xs) → H' b = some (.tup xs)) : PairsAt H' ts ps := Paired.mapP h fun _ _ e => k _ _ e
theorem Paired.snoc {α β : Type} {R : α → β → Prop} {x : α} {y : β} : ∀ {l : List α} {m : List β}, Paired R l m → R x y → Paired R (l ++ [x]) (m ++ [y])
  | _, _, .nil, r => .cons r .nil
  | _, _, .cons q t, r => .cons q (Paired.snoc t r)

/-- the pairs made so far stand at D -/
structure PMade (T : Addr) (H1 : Hp) (D : Addr) (ps : List (Nat × Nat)) (H : Hp) : Prop where
  tab : GxR.TabG H T
  old : ∀ b u, b ≠ T → H1 b = some u → H b = some u
  new : ∃ ts : List Addr, H D = some (.lst (ts.map V.ref)) ∧ PairsAt H ts ps
section
variable {P : Program} {w : World} {K : PySem.W.Frag} {mg : Str → Option Value} {base : Heap} {T c fO fI : Addr} {fdO fdI : FuncData}

theorem ix_at {H : Hp} {a : Addr} {o : List Nat} {i : Nat} {k : Int} {Q : VK} (h : SeqLT K H a (vl o)) (hi : i < o.length) (hk : k = (i : Int)) (q : Q (.int ((o.getD i 0 : Nat) : Int)) H) : rIx K (.ref a) (.int k) H Q := by
  subst hk
  have e := atI_nat (vl_get (getD_of hi))
  rcases h with h | h
  · exact .inl ⟨a, _, _, _, rfl, rfl, h, e, q⟩
  · exact .inr (.inl ⟨a, _, _, _, rfl, rfl, h, e, q⟩)
def spWps (K : PySem.W.Frag) (T : Addr) : Sp := fun vs H Q _ => ∃ (a : Addr) (o : List Nat), vs = [.ref a] ∧ SeqLT K H a (vl o) ∧ IsOrd o ∧ GxR.TabG H T ∧ ∀ H' p ts, Go T H H' → H p = none → H' p = some (.lst (ts.map V.ref)) → PairsAt H' ts (wps o) → Q (.ref p) H'
theorem ok_wrong_pairs {f fC : Addr} {fd fdC : FuncData} (F : Fun K "wrong_pairs" "wrong_pairs" s_wrong_pairs f fd) (C : Cd K mg fC fdC) (O : Io K mg base T c fO fI fdO fdI) : FnOk P w K mg base CX0 4 f fd ["order"] (spWps K T) := by
  have G : FnOk P w K mg base CX0 3 fC fdC ["order"] (spChk K T) := ok_check_order C.fn O
  refine F.ok sc_wrong_pairs (fun vs H Q E h => ?_) (fun cdv A outer s H vs Q E hr h => ?_)
  · obtain ⟨a, o, rfl, _⟩ := h
    rfl
  · obtain ⟨a, o, rfl, ha, ho, ht, q⟩ := h
    refine ⟨_, pss_cons (ps_expr (pe_call G hr (by rfl) C.at_ C.fn.kp C.bind .nil pass0 (pa_cons (pv 0) pa_nil)))
      (pss_cons (ps_set (i := 1) sc_wrong_pairs.nd rfl (Or.inr rfl) (pe_callB call_len (by rfl) O.B.len PySem.boot_len (pa_cons (pv 0) pa_nil)))
      (pss_one (ps_ret (pe_lc2 (own := [("i", 2), ("j", 3)]) (vs1 := [3]) (g := gName 2) (g1 := gName 3) (tt := tYes) (by rfl) sc_wrong_pairs.nd (pi_range1 (by rfl) O.B.range (pa_cons (pv 1) pa_nil))
          (blkOk_by (own := [("i", 2), ("j", 3)]) (N := ["order", "size", "i", "j"]) (sc := defScope s_wrong_pairs) (by decide +kernel)) (by decide)
          (fun _ _ _ _ _ => pg_name (i := 2) sc_wrong_pairs.nd rfl (Or.inl rfl)) (fun _ _ _ _ _ => pts_nil)
          (fun _ _ _ _ _ => pi_range2 (by rfl) O.B.range (pa_cons (pe_op op_add (pv 2) pe_int) (pa_cons (pv 1) pa_nil)))
          (fun _ _ _ _ _ => pg_name (i := 3) sc_wrong_pairs.nd rfl (Or.inl rfl))
          (fun _ _ _ _ _ => pts_one (pt_cmpR op_gt (pe_ix (show IxR _ (rIx K) from ix_seq) (pv 0) (pv 2) (fun _ _ => rfl)) (pe_ix (show IxR _ (rIx K) from ix_seq) (pv 0) (pv 3) (fun _ _ => rfl)) (nomark _)))
          (fun _ _ _ _ _ => pe_tup (pa_cons (pv 2) (pa_cons (pv 3) pa_nil))))))), ?_⟩
    refine ⟨.ref a, rfl, a, o, rfl, ha, ho, ht, fun H1 g1 => ?_⟩
    have l1 := lenV_seq (K := K) (g1.lt ht ha)
    rw [vl_len] at l1
    have b9 := ho.hi
    refine ⟨.ref a, rfl, .ref a, _, rfl, l1, ?_⟩
    refine ⟨.int (o.length : Int), rfl, (o.length : Int), rfl, by omega, by omega, fun D hD => ?_⟩
    have a1 := g1.lt ht ha
    refine ⟨fun i m H => m = o.length - i ∧ i ≤ o.length ∧ PMade T H1 D (wpTo o i 0) H, ⟨_, rfl, Nat.zero_le _, ?_⟩, ?_⟩
    · exact ⟨(Go.new (o := .lst []) g1.1 hD).1, fun b u _ e => by rw [upd_ne (ne_of_none e hD)]; exact e, [], upd_same, .nil⟩
    · rintro i m H2 ⟨rfl, hi, pm⟩
      by_cases hlt : i < o.length
      · refine .inr ⟨by show i < ((o.length : Int)).toNat; omega, fun H => PMade T H1 D (wpTo o (i + 1) 0) H, fun H' p' => ⟨_, by omega, rfl, hlt, p'⟩, ?_⟩
        rintro x H' ⟨rfl, rfl⟩
        refine ⟨rfl, .int (0 + (i : Int)), rfl, _, 1, rfl, rfl, .int (o.length : Int), rfl, _, _, rfl, ⟨by omega, by omega, by omega, by omega⟩, ?_⟩
        refine ⟨fun j k H => k = (o.length - (i + 1)) - j ∧ j ≤ o.length - (i + 1) ∧ PMade T H1 D (wpTo o i j) H, ⟨_, rfl, Nat.zero_le _, pm⟩, ?_⟩
        rintro j k H3 ⟨rfl, hj, pm3⟩
        by_cases hjt : j < o.length - (i + 1)
        · refine .inr ⟨by show j < ((o.length : Int) - (0 + (i : Int) + 1)).toNat; omega, fun H => PMade T H1 D (wpTo o i (j + 1)) H, fun H' p' => ⟨_, by omega, rfl, hjt, p'⟩, ?_⟩
          rintro x H' ⟨rfl, rfl⟩
          have a3 : SeqLT K H' a (vl o) := Go.lt ⟨pm3.tab, pm3.old⟩ g1.1 a1
          have hp : i + 1 + j < o.length := by omega
          refine ⟨rfl, .ref a, rfl, .int (0 + (i : Int)), rfl, ix_at a3 hlt (by omega) ⟨.ref a, rfl, .int (0 + (i : Int) + 1 + (j : Int)), rfl, ix_at a3 hp (by omega) ⟨_, _, rfl, rfl, _, rfl, ?_⟩⟩⟩
          have more := wpTo_more o i j
          by_cases hgt : o.getD i 0 > o.getD (i + 1 + j) 0
          · rw [decide_eq_true (show ((o.getD (i + 1 + j) 0 : Nat) : Int) < ((o.getD i 0 : Nat) : Int) by omega)]
            refine iteT ⟨.int (0 + (i : Int)), rfl, .int (0 + (i : Int) + 1 + (j : Int)), rfl, by show 2 ≤ sizeLine; decide, fun t hn => ?_⟩
            obtain ⟨ts, e1, e2⟩ := pm3.new
            have nDt : D ≠ t := ne_of_none e1 hn
            have nTt : t ≠ T := tab_ne pm3.tab hn
            have nTD : D ≠ T := tab_ne g1.1 hD
            refine ⟨ts.map V.ref, by rw [upd_ne nDt]; exact e1, ?_, ?_, ?_, ts ++ [t], ?_, ?_⟩
            · rw [List.length_map, Paired.length e2]
              exact small9 (Nat.le_trans (wpTo_le b9 (by omega) (by omega)) (by omega))
            · obtain ⟨ps, z, hz⟩ := pm3.tab
              exact ⟨ps, by rw [upd_ne nTD.symm, upd_ne nTt.symm]; exact z, hz⟩
            · intro b u n e
              rw [upd_ne (ne_of_none e hD), upd_ne (ne_of_none (pm3.old b u n e) hn)]
              exact pm3.old b u n e
            · rw [upd_same, List.map_append]
              rfl
            · rw [more, if_pos hgt]
              refine Paired.snoc (e2.keep fun b xs e => ?_) ?_
              · rw [upd_ne (ne_of e e1 (by intro z; cases z)), upd_ne (ne_of_none e hn)]
                exact e
              · show upd _ D _ t = some (.tup [V.int ((i : Nat) : Int), V.int ((i + 1 + j : Nat) : Int)])
                rw [upd_ne nDt.symm, upd_same, show (0 + (i : Int)) = ((i : Nat) : Int) by omega, show (((i : Nat) : Int) + 1 + (j : Int)) = ((i + 1 + j : Nat) : Int) by omega]
          · rw [decide_eq_false (show ¬ ((o.getD (i + 1 + j) 0 : Nat) : Int) < ((o.getD i 0 : Nat) : Int) by omega)]
            refine iteF ?_
            show PMade T H1 D (wpTo o i (j + 1)) H'
            rw [more, if_neg hgt, List.append_nil]
            exact pm3
        · refine .inl ⟨by show ((o.length : Int) - (0 + (i : Int) + 1)).toNat ≤ j; omega, ?_⟩
          show PMade T H1 D (wpTo o (i + 1) 0) H3
          rw [wpTo_next, show o.length - (i + 1) = j by omega]
          exact pm3
      · refine .inl ⟨by show ((o.length : Int)).toNat ≤ i; omega, ?_⟩
        have e : i = o.length := by omega
        rw [e, wpTo_end] at pm
        obtain ⟨ts, e1, e2⟩ := pm.new
        have g : Go T H1 H2 := ⟨pm.tab, pm.old⟩
        exact q H2 D ts (g1.trans g) (g1.free hD) e1 e2

def spLev (K : PySem.W.Frag) (T : Addr) : Sp := fun vs H Q _ => ∃ (a : Addr) (o : List Nat), vs = [.ref a] ∧ SeqLT K H a (vl o) ∧ IsOrd o ∧ GxR.TabG H T ∧ ∀ H', Go T H H' → Q (.int (lev o : Nat)) H'
def Wd (K : PySem.W.Frag) (mg : Str → Option Value) (fC : Addr) (fdC : FuncData) : Prop := Df K mg "wrong_pairs" s_wrong_pairs ["order"] fC fdC
theorem ok_level {f fC fW : Addr} {fd fdC fdW : FuncData} (F : Fun K "level" "level" s_level f fd) (W : Wd K mg fW fdW) (C : Cd K mg fC fdC) (O : Io K mg base T c fO fI fdO fdI) : FnOk P w K mg base CX0 5 f fd ["order"] (spLev K T) := by
  have G : FnOk P w K mg base CX0 4 fW fdW ["order"] (spWps K T) := ok_wrong_pairs W.fn C O
  refine F.ok sc_level (fun vs H Q E h => ?_) (fun cdv A outer s H vs Q E hr h => ?_)
  · obtain ⟨a, o, rfl, _⟩ := h
    rfl
  · obtain ⟨a, o, rfl, ha, ho, ht, q⟩ := h
    refine ⟨_, pss_one (ps_ret (pe_callB call_len (by rfl) O.B.len PySem.boot_len (pa_cons (pe_call G hr (by rfl) W.at_ W.fn.kp W.bind .nil pass0 (pa_cons (pv 0) pa_nil)) pa_nil))), ?_⟩
    refine ⟨.ref a, rfl, a, o, rfl, ha, ho, ht, fun H' p ts g hp e1 e2 => ⟨.ref p, (wps o).length, rfl, .inl ⟨_, SqL.of e1, ?_⟩, q H' g⟩⟩
    rw [List.length_map, Paired.length e2]

end
end Lb

set_option Elab.async false
set_option linter.all false
set_option maxRecDepth 100000
set_option maxHeartbeats 2000000
namespace Lb
open PySem PySem.Spec PyProof.Rows L2

abbrev s_pot : Stmt := topS 21
abbrev s_draw : Stmt := topS 22
abbrev s_order : Stmt := topS 23
abbrev s_passed : Stmt := topS 24
theorem sc_pot : FnScope ["_law_script", "_law_k", "_law_cell"] ["_law_script", "_law_k"] (defScope s_pot) := ⟨rfl, rfl, rfl, by decide +kernel, rfl, by decide +kernel, by decide +kernel⟩
theorem sc_draw : FnScope ["_law_pot_here", "_law_size", "_law_digit"] ["_law_pot_here", "_law_size"] (defScope s_draw) := ⟨rfl, rfl, rfl, by decide +kernel, rfl, by decide +kernel, by decide +kernel⟩
theorem sc_order : FnScope ["_law_pot_here", "_law_many", "_law_left", "_law_found", "_law_turn"] ["_law_pot_here", "_law_many"] (defScope s_order) := ⟨rfl, rfl, rfl, by decide +kernel, rfl, by decide +kernel, by decide +kernel⟩
theorem sc_passed : FnScope ["_law_pot_here", "_law_order_here"] ["_law_pot_here", "_law_order_here"] (defScope s_passed) := ⟨rfl, rfl, rfl, by decide +kernel, rfl, by decide +kernel, by decide +kernel⟩

/-- the pot: what is left of a cell's own digits, and the last mixed number -/
def PotAt (H : Hp) (q : Addr) : Prop := ∃ x y : Int, H q = some (.lst [V.int x, V.int y]) ∧ 0 ≤ x ∧ 0 ≤ y ∧ y < 4294967296
/-- all as it was, but the table may have grown and the pot have changed -/
structure Gp (T q : Addr) (H H' : Hp) : Prop where
  tab : GxR.TabG H' T
  pot : PotAt H' q
  old : ∀ b u, b ≠ T → b ≠ q → H b = some u → H' b = some u
theorem pot_ne {T q : Addr} {H : Hp} (h : GxR.TabG H T) (p : PotAt H q) : q ≠ T := by
  obtain ⟨x, y, e, _⟩ := p
  exact ne_tab h e fun _ z => by cases z
theorem PotAt.go {T q : Addr} {H H' : Hp} (p : PotAt H q) (h : GxR.TabG H T) (g : Go T H H') : PotAt H' q := by
  have n := pot_ne h p
  obtain ⟨x, y, e, r⟩ := p
  exact ⟨x, y, g.2 q _ n e, r⟩
theorem Gp.refl {T q : Addr} {H : Hp} (h : GxR.TabG H T) (p : PotAt H q) : Gp T q H H := ⟨h, p, fun _ _ _ _ e => e⟩
theorem Go.gp {T q : Addr} {H H' : Hp} (g : Go T H H') (h : GxR.TabG H T) (p : PotAt H q) : Gp T q H H' := ⟨g.1, p.go h g, fun b u n _ e => g.2 b u n e⟩
theorem Gp.trans {T q : Addr} {H H1 H2 : Hp} (a : Gp T q H H1) (b : Gp T q H1 H2) : Gp T q H H2 := ⟨b.tab, b.pot, fun c u n m e => b.old c u n m (a.old c u n m e)⟩
theorem Gp.then {T q : Addr} {H H1 H2 : Hp} (a : Gp T q H H1) (b : Go T H1 H2) : Gp T q H H2 := a.trans (b.gp a.tab a.pot)
theorem Gp.free {T q p : Addr} {H H' : Hp} (g : Gp T q H H') (n : H' p = none) : H p = none := by
  cases e : H p with
  | none => rfl
  | some u =>
    have nq : p ≠ q := fun z => by
      obtain ⟨x, y, e2, _⟩ := g.pot
      rw [z, e2] at n
      cases n
    have := g.old p u (tab_ne g.tab n) nq e
    rw [n] at this
    cases this
/-- a tuple of the kind that orders are stays where it is -/
theorem Gp.ordT {T q a : Addr} {H H' : Hp} {xs : List V} (g : Gp T q H H') (t : GxR.TabG H T) (p : PotAt H q) (h : OrdK true H a xs) : OrdK true H' a xs := by
  obtain ⟨o, d, h⟩ := h
  obtain ⟨x, y, e, _⟩ := p
  exact ⟨o, d, g.old a _ (ne_tab t h fun _ z => by cases z) (ne_of h e fun z => by cases z) h⟩
/-- an order that is not the pot -/
theorem Gp.ord {T q a : Addr} {b : Bool} {H H' : Hp} {xs : List V} (g : Gp T q H H') (t : GxR.TabG H T) (n : a ≠ q) (h : OrdK b H a xs) : OrdK b H' a xs := by
  cases b with
  | false => exact g.old a _ (ne_tab t h fun _ z => by cases z) n h
  | true =>
    obtain ⟨o, d, h⟩ := h
    exact ⟨o, d, g.old a _ (ne_tab t h fun _ z => by cases z) n h⟩

structure Bl2 (mg : Str → Option Value) : Prop where
  b : Bl mg
  abs : mg "abs" = none
  max : mg "max" = none
  min : mg "min" = none
  divmod : mg "divmod" = none
  enumerate : mg "enumerate" = none
  repr : mg "repr" = none

section
variable {P : Program} {w : World} {K : PySem.W.Frag} {mg : Str → Option Value} {base : Heap} {T : Addr}

def spPot (K : PySem.W.Frag) (T : Addr) : Sp := fun vs H Q _ => ∃ (a : Addr) (ns : List Int) (k : Nat), vs = [.ref a, .int (k : Int)] ∧ SqL K H a (ns.map V.int) ∧ ns.length ≤ 63 ∧ k ≤ 3 ∧ GxR.TabG H T ∧ ∀ H' q, Go T H H' → H q = none → PotAt H' q → Q (.ref q) H'
theorem ok_pot {f : Addr} {fd : FuncData} (F : Fun K "_law_pot" "_law_pot" s_pot f fd) (B : Bl2 mg) : FnOk P w K mg base CX0 1 f fd ["_law_script", "_law_k"] (spPot K T) := by
  refine F.ok sc_pot (fun vs H Q E h => ?_) (fun cdv A outer s H vs Q E hr h => ?_)
  · obtain ⟨a, ns, k, rfl, _⟩ := h
    rfl
  · obtain ⟨a, ns, k, rfl, ha, hl, hk, ht, q⟩ := h
    refine ⟨_, pss_cons (ps_set (i := 2) sc_pot.nd rfl (.inl rfl) (pe_op op_add (pe_op op_mul pe_int (pv 1)) pe_int))
      (pss_cons (ps_if (pt_cmpR op_lt (pv 1) (pe_callB call_len_seq (by rfl) B.b.len PySem.boot_len (pa_cons (pv 0) pa_nil)) (nomark _)) (pss_one (ps_set (i := 2) sc_pot.nd rfl (.inl rfl) (pe_callB call_abs (by rfl) B.abs (by decide +kernel) (pa_cons (pe_ix ix_list (pv 0) (pv 1) (fun _ _ => rfl)) pa_nil)))) pss_nil)
      (pss_one (ps_ret (pe_lst (pa_cons (pe_callB (call_max2 rfl) (by rfl) B.max (by decide +kernel) (pa_cons pe_int (pa_cons (pe_op op_sub (pv 2) (pe_op op_pow pe_int pe_int)) pa_nil)))
        (pa_cons (pe_op op_add (pe_op op_mod (pe_op op_mul (pe_callTy call_int1 (by rfl) B.b.int (by decide +kernel) (pa_cons (pe_op op_add (pe_op op_mod (pe_callTy call_int1 (by rfl) B.b.int (by decide +kernel) (pa_cons (pv 2) pa_nil)) pe_int) pe_int) pa_nil)) (pe_op op_pow (pe_op op_add (pe_op op_mul pe_int (pv 1)) pe_int) pe_int)) pe_int) pe_int) pa_nil)))))), ?_⟩
    refine ⟨.int (k : Int), rfl, _, _, rfl, rfl, .inl ⟨by decide, by decide⟩, _, _, rfl, rfl, ?_⟩
    refine ⟨.int (k : Int), rfl, .ref a, rfl, a, _, rfl, .inl ha, _, _, rfl, rfl, _, rfl, ?_⟩
    refine ite2 (fun e => ?_) (fun e => ?_)
    · have hk2 : k < ns.length := by
        have z := of_decide_eq_true e
        rw [List.length_map] at z
        omega
      have e1 : (ns.map V.int)[k]? = some (.int ns[k]) := by
        rw [List.getElem?_map, List.getElem?_eq_getElem hk2]
        rfl
      refine ⟨.ref a, rfl, .int (k : Int), rfl, a, _, (k : Int), _, rfl, rfl, ha, atI_nat e1, _, rfl, ?_⟩
      generalize (if ns[k] < 0 then -ns[k] else ns[k]) = cell
      refine ⟨.int cell, rfl, _, _, rfl, rfl, ⟨by decide, by decide, by decide⟩, _, _, rfl, rfl, _, _, rfl, .int cell, rfl, .inl ⟨_, rfl, _, _, rfl, rfl, by show (0 : Int) < 2147483549; decide, _, _, rfl, rfl, .inl ⟨_, rfl, .int (k : Int), rfl, _, _, rfl, rfl, .inl ⟨by decide, by decide⟩, _, _, rfl, rfl, _, _, rfl, rfl, ⟨by decide, by decide, by omega⟩, _, _, rfl, rfl, .inl ⟨by omega, by omega⟩, _, _, rfl, rfl, by show (0 : Int) < 2147483477; decide, _, _, rfl, rfl, by show 2 ≤ sizeLine; decide, fun p hp => ?_⟩⟩⟩
      refine q _ p (Go.new ht hp) hp ⟨_, _, upd_same, ?_, ?_, ?_⟩
      · split <;> omega
      · generalize (cell % 2147483549 + 61) * (2 * (k : Int) + 3) ^ (3 : Int).toNat = z
        omega
      · generalize (cell % 2147483549 + 61) * (2 * (k : Int) + 3) ^ (3 : Int).toNat = z
        omega
    · refine ⟨.int (73 * (k : Int) + 61), rfl, _, _, rfl, rfl, ⟨by decide, by decide, by decide⟩, _, _, rfl, rfl, _, _, rfl, .int (73 * (k : Int) + 61), rfl, .inl ⟨_, rfl, _, _, rfl, rfl, by show (0 : Int) < 2147483549; decide, _, _, rfl, rfl, .inl ⟨_, rfl, .int (k : Int), rfl, _, _, rfl, rfl, .inl ⟨by decide, by decide⟩, _, _, rfl, rfl, _, _, rfl, rfl, ⟨by decide, by decide, by omega⟩, _, _, rfl, rfl, .inl ⟨by omega, by omega⟩, _, _, rfl, rfl, by show (0 : Int) < 2147483477; decide, _, _, rfl, rfl, by show 2 ≤ sizeLine; decide, fun p hp => ?_⟩⟩⟩
      refine q _ p (Go.new ht hp) hp ⟨_, _, upd_same, ?_, ?_, ?_⟩
      · split <;> omega
      · generalize ((73 * (k : Int) + 61) % 2147483549 + 61) * (2 * (k : Int) + 3) ^ (3 : Int).toNat = z
        omega
      · generalize ((73 * (k : Int) + 61) % 2147483549 + 61) * (2 * (k : Int) + 3) ^ (3 : Int).toNat = z
        omega

def spDraw (T : Addr) : Sp := fun vs H Q _ => ∃ (q : Addr) (n : Nat), vs = [.ref q, .int (n : Int)] ∧ 1 ≤ n ∧ n ≤ 100 ∧ PotAt H q ∧ GxR.TabG H T ∧ ∀ H' (d : Nat), Gp T q H H' → d < n → Q (.int (d : Int)) H'
theorem set_pot {T q : Addr} {H : Hp} {x y : Int} {o : HO} (ht : GxR.TabG H T) (p : PotAt H q) (h0 : 0 ≤ x) (h1 : 0 ≤ y) (h2 : y < 4294967296) (H' : Hp) (g : Gp T q H H') (e : o = .lst [V.int x, V.int y]) : Gp T q H (upd H' q o) := by
  have n := pot_ne ht p
  subst e
  refine ⟨?_, ⟨x, y, upd_same, h0, h1, h2⟩, fun b u n1 n2 e => by rw [upd_ne n2]; exact g.old b u n1 n2 e⟩
  obtain ⟨ps, e, h⟩ := g.tab
  exact ⟨ps, by rw [upd_ne n.symm]; exact e, h⟩
theorem ok_draw {f : Addr} {fd : FuncData} (F : Fun K "_law_draw" "_law_draw" s_draw f fd) (B : Bl2 mg) : FnOk P w K mg base CX0 1 f fd ["_law_pot_here", "_law_size"] (spDraw T) := by
  refine F.ok sc_draw (fun vs H Q E h => ?_) (fun cdv A outer s H vs Q E hr h => ?_)
  · obtain ⟨q, n, rfl, _⟩ := h
    rfl
  · obtain ⟨q, n, rfl, h1, h2, pt, ht, k⟩ := h
    refine ⟨_, pss_cons (ps_if (pt_cmpR op_gt (pe_ix ix_list (pv 0) pe_int (fun _ _ => rfl)) pe_int (nomark _))
        (pss_cons (ps_asg (pe_callB call_divmod (by rfl) B.divmod (by decide +kernel) (pa_cons (pe_ix ix_list (pv 0) pe_int (fun _ _ => rfl)) (pa_cons (pv 1) pa_nil))) (pg_tup rfl (pgs_cons (pg_sub (pv 0) pe_int set_list) (pgs_cons (pg_name (i := 2) sc_draw.nd rfl (.inl rfl)) pgs_nil)))) (pss_one (ps_ret (pv 2)))) pss_nil)
      (pss_cons (ps_asg (pe_op op_mod (pe_callTy call_int1 (by rfl) B.b.int (by decide +kernel) (pa_cons (pe_op op_add (pe_op op_mul (pe_ix ix_list (pv 0) pe_int (fun _ _ => rfl)) pe_int) pe_int) pa_nil)) pe_int) (pg_sub (pv 0) pe_int set_list))
      (pss_one (ps_ret (pe_op op_mod (pe_callTy call_int1 (by rfl) B.b.int (by decide +kernel) (pa_cons (pe_op op_fdiv (pe_op op_mod (pe_callTy call_int1 (by rfl) B.b.int (by decide +kernel) (pa_cons (pe_op op_mul (pe_ix ix_list (pv 0) pe_int (fun _ _ => rfl)) (pe_ix ix_list (pv 0) pe_int (fun _ _ => rfl))) pa_nil)) pe_int) pe_int) pa_nil)) (pv 1))))), ?_⟩
    obtain ⟨x, y, e, x0, y0, yb⟩ := id pt
    have at0 : atI [V.int x, V.int y] 0 = some (.int x) := rfl
    have at1 : atI [V.int x, V.int y] 1 = some (.int y) := rfl
    refine ⟨.ref q, rfl, q, _, 0, _, rfl, rfl, SqL.of e, at0, _, _, rfl, rfl, _, rfl, ite2 (fun c => ?_) (fun c => ?_)⟩
    · refine ⟨.ref q, rfl, q, _, 0, _, rfl, rfl, SqL.of e, at0, .int (n : Int), rfl, x, (n : Int), rfl, ⟨by omega, by omega⟩, fun t hn => ?_⟩
      have nqt : q ≠ t := ne_of_none e hn
      refine ⟨t, _, rfl, SqT.of upd_same, rfl, _, _, rfl, ?_⟩
      refine ⟨.ref q, rfl, q, _, 0, 0, rfl, rfl, by rw [upd_ne nqt]; exact e, rfl, _, _, rfl, rfl, ?_⟩
      have m0 : 0 ≤ x % (n : Int) := Int.emod_nonneg _ (by omega)
      have m1 : x % (n : Int) < (n : Int) := Int.emod_lt_of_pos _ (by omega)
      have em : x % (n : Int) = (((x % (n : Int)).toNat : Nat) : Int) := by omega
      refine ⟨.int (x % (n : Int)), rfl, ?_⟩
      rw [em]
      refine k _ (x % (n : Int)).toNat (set_pot ht pt (Int.ediv_nonneg x0 (by omega)) y0 yb _ ((Go.new ht hn).gp ht pt) rfl) (by omega)
    · refine ⟨.ref q, rfl, q, _, 1, _, rfl, rfl, SqL.of e, at1, _, _, rfl, rfl, .inl ⟨by omega, by omega⟩, _, _, rfl, rfl, .inl ⟨_, rfl, _, _, rfl, rfl, by show (0 : Int) < 2147483587; decide, .ref q, rfl, q, _, 1, 1, rfl, rfl, e, rfl, ?_⟩⟩
      have y1 : 0 ≤ (y * 48271 + 15392) % 2147483587 := by omega
      have y2 : (y * 48271 + 15392) % 2147483587 < 4294967296 := by omega
      have g := set_pot ht pt x0 y1 y2 _ (Gp.refl ht pt) rfl
      have e' : (upd H q (.lst [V.int x, V.int ((y * 48271 + 15392) % 2147483587)])) q = some (.lst [V.int x, V.int ((y * 48271 + 15392) % 2147483587)]) := upd_same
      have at1' : atI [V.int x, V.int ((y * 48271 + 15392) % 2147483587)] 1 = some (.int ((y * 48271 + 15392) % 2147483587)) := rfl
      refine ⟨.ref q, rfl, q, _, 1, _, rfl, rfl, SqL.of e', at1', .ref q, rfl, q, _, 1, _, rfl, rfl, SqL.of e', at1', _, _, rfl, rfl, .inl ⟨by omega, by omega⟩, .inl ⟨_, rfl, _, _, rfl, rfl, by show (0 : Int) < 2147483549; decide, _, _, rfl, rfl, ⟨by decide, by decide⟩, .inl ⟨_, rfl, .int (n : Int), rfl, _, _, rfl, rfl, by show (0 : Int) < (n : Int); omega, ?_⟩⟩⟩
      generalize ((y * 48271 + 15392) % 2147483587 * ((y * 48271 + 15392) % 2147483587) % 2147483549 / 13) = z
      have m0 : 0 ≤ z % (n : Int) := Int.emod_nonneg _ (by omega)
      have m1 : z % (n : Int) < (n : Int) := Int.emod_lt_of_pos _ (by omega)
      have em : z % (n : Int) = (((z % (n : Int)).toNat : Nat) : Int) := by omega
      show Q (.int (z % (n : Int))) _
      rw [em]
      exact k _ (z % (n : Int)).toNat g (by omega)
end
end Lb

set_option Elab.async false
set_option linter.all false
set_option maxRecDepth 100000
set_option maxHeartbeats 2000000
namespace Lb
open PySem PySem.Spec PyProof.Rows L2

theorem Gp.put {T q l : Addr} {H0 H : Hp} {o : HO} (g : Gp T q H0 H) (n : H0 l = none) (t : GxR.TabG H0 T) (p : PotAt H0 q) : Gp T q H0 (upd H l o) := by
  have lT := tab_ne t n
  obtain ⟨x0, y0, e0, _⟩ := p
  have lq : l ≠ q := fun z => by
    rw [z, e0] at n
    cases n
  refine ⟨?_, ?_, fun b u n1 n2 e => by rw [upd_ne (ne_of_none e n)]; exact g.old b u n1 n2 e⟩
  · obtain ⟨ps, e, h⟩ := g.tab
    exact ⟨ps, by rw [upd_ne lT.symm]; exact e, h⟩
  · obtain ⟨x, y, e, r⟩ := g.pot
    exact ⟨x, y, by rw [upd_ne lq.symm]; exact e, r⟩
theorem none_ne {H : Hp} {a b : Addr} {u : HO} (n : H a = none) (e : H b = some u) : a ≠ b := fun z => by
  rw [z, e] at n
  cases n
theorem erase_perm : ∀ (l : List Nat) (k x : Nat), l[k]? = some x → (x :: l.eraseIdx k).Perm l
  | a :: r, 0, x, h => by
    have e : a = x := Option.some.inj h
    subst e
    exact List.Perm.refl _
  | a :: r, k + 1, x, h => by
    rw [List.eraseIdx_cons_succ]
    exact (List.Perm.swap a x _).trans ((erase_perm r k x h).cons a)
theorem vl_erase : ∀ (l : List Nat) (k : Nat), (vl l).eraseIdx k = vl (l.eraseIdx k)
  | [], _ => rfl
  | a :: r, 0 => rfl
  | a :: r, k + 1 => by
    show V.int (a : Int) :: (vl r).eraseIdx k = V.int (a : Int) :: vl (r.eraseIdx k)
    rw [vl_erase r k]
theorem seq_in {n j : Nat} (hj : j < n) : seqIndex? (j : Int) n = some j := (ixN_seq (ix_in hj)).1

section
variable {P : Program} {w : World} {K : PySem.W.Frag} {mg : Str → Option Value} {base : Heap} {T : Addr}
def Dd (K : PySem.W.Frag) (mg : Str → Option Value) (f : Addr) (fd : FuncData) : Prop := Df K mg "_law_draw" s_draw ["_law_pot_here", "_law_size"] f fd

def spOrder (T : Addr) : Sp := fun vs H Q _ => ∃ (q : Addr) (n : Nat), vs = [.ref q, .int (n : Int)] ∧ 1 ≤ n ∧ n ≤ 9 ∧ PotAt H q ∧ GxR.TabG H T ∧ ∀ H' p o, Gp T q H H' → H p = none → OrdK true H' p (vl o) → IsOrd o → o.length = n → Q (.ref p) H'
theorem ok_order {f fD : Addr} {fd fdD : FuncData} (F : Fun K "_law_order" "_law_order" s_order f fd) (D : Dd K mg fD fdD) (B : Bl2 mg) : FnOk P w K mg base CX0 2 f fd ["_law_pot_here", "_law_many"] (spOrder T) := by
  have G : FnOk P w K mg base CX0 1 fD fdD ["_law_pot_here", "_law_size"] (spDraw T) := ok_draw D.fn B
  refine F.ok sc_order (fun vs H Q E h => ?_) (fun cdv A outer s H vs Q E hr h => ?_)
  · obtain ⟨q, n, rfl, _⟩ := h
    rfl
  · obtain ⟨q, n, rfl, h1, h9, pt, ht, k⟩ := h
    refine ⟨_, pss_cons (ps_par (i := 2) (j := 3) (by rfl) sc_order.nd rfl rfl (by decide) rfl rfl (pa_cons (pe_listRg rfl (by rfl) B.b.list (prg_2 (by rfl) B.b.range pe_int (pe_op op_add (pv 1) pe_int))) (pa_cons (pe_lst pa_nil) pa_nil)) (by rfl))
      (pss_cons (ps_for PassesOwn.never rfl (pi_range1 (by rfl) B.b.range (pa_cons (pv 1) pa_nil)) (pg_name (i := 4) sc_order.nd rfl (.inl rfl))
        (pss_one (ps_expr (pe_bm PySem.F.plainAttrs_list PySem.F.slot_list_append PySem.F.type_list_append mt_append (pv 3)
          (pa_cons (pe_bm PySem.F.plainAttrs_list PySem.F.slot_list_pop PySem.F.type_list_pop mt_popAt (pv 2) (pa_cons (pe_call G hr (by rfl) D.at_ D.fn.kp D.bind .nil pass0 (pa_cons (pv 0) (pa_cons (pe_callB call_len (by rfl) B.b.len PySem.boot_len (pa_cons (pv 2) pa_nil)) pa_nil))) pa_nil)) pa_nil)))))
      (pss_one (ps_ret (pe_tupF (by rfl) B.b.tuple (pv 3))))), ?_⟩
    refine ⟨.int (n : Int), rfl, _, 1, rfl, rfl, 1, (n : Int) + 1, rfl, rfl, RgOk.of_le (by omega) (by omega) (by omega) (by omega), fun l hl => ?_⟩
    refine ⟨Nat.zero_le _, fun g hg => ⟨_, _, rfl, ?_⟩⟩
    rw [rg_vl]
    have lg : l ≠ g := ne_of_none upd_same hg
    have g0 : H g = none := by
      rw [upd_ne lg.symm] at hg
      exact hg
    have gp0 := ((Gp.refl ht pt).put (o := .lst (vl (List.range' 1 n))) hl ht pt).put (o := .lst []) g0 ht pt
    refine ⟨.int (n : Int), rfl, (n : Int), rfl, by omega, by omega, ?_⟩
    refine for_range (lo := 0) (n := ((n : Int)).toNat) (fun i σ H2 => ∃ (lf ff : List Nat) (tv : Option V), σ = [some (.ref q), some (.int (n : Int)), some (.ref l), some (.ref g), tv] ∧ H2 l = some (.lst (vl lf)) ∧ H2 g = some (.lst (vl ff)) ∧ lf.length = n - i ∧ ff.length = i ∧ (ff ++ lf).Perm (List.range' 1 n) ∧ Gp T q H H2)
      ⟨List.range' 1 n, [], none, rfl, by rw [upd_ne lg, upd_same], by rw [upd_same]; rfl, by rw [List.length_range']; omega, rfl, List.Perm.refl _, gp0⟩ ?_ ?_
    · rintro i σ H2 hi ⟨lf, ff, tv, rfl, el, eg, nl, nf, hp, gp⟩
      have sl : SqL K H2 l (vl lf) := SqL.of el
      have sg : SqL K H2 g (vl ff) := SqL.of eg
      refine ⟨.ref g, rfl, .inl ⟨rfl, _, sg⟩, .ref l, rfl, .inl ⟨rfl, _, sl⟩, .ref q, rfl, .ref l, rfl, .ref l, lf.length, rfl, .inl ⟨_, sl, (vl_len lf).symm⟩, ?_⟩
      refine ⟨q, lf.length, rfl, by omega, by omega, gp.pot, gp.tab, fun H3 d g3 hd => ?_⟩
      have lq : l ≠ q := fun z => by
        obtain ⟨x, y, e, _⟩ := pt
        rw [z, e] at hl
        cases hl
      have gq : g ≠ q := fun z => by
        obtain ⟨x, y, e, _⟩ := pt
        rw [z, e] at g0
        cases g0
      have el3 : H3 l = some (.lst (vl lf)) := g3.old l _ (tab_ne ht hl) lq el
      have eg3 : H3 g = some (.lst (vl ff)) := g3.old g _ (tab_ne ht g0) gq eg
      refine ⟨l, vl lf, (d : Int), d, _, rfl, rfl, el3, by omega, by omega, by rw [vl_len]; exact seq_in hd, vl_get (getD_of hd), ?_⟩
      rw [vl_erase]
      refine ⟨g, vl ff, _, rfl, rfl, by rw [upd_ne lg.symm]; exact eg3, by rw [vl_len]; exact small9 (by omega), ?_⟩
      rw [vl_snoc]
      have perm : (ff ++ [lf.getD d 0] ++ lf.eraseIdx d).Perm (List.range' 1 n) := by
        rw [List.append_assoc]
        exact ((erase_perm lf d _ (getD_of hd)).append_left ff).trans hp
      refine ⟨lf.eraseIdx d, ff ++ [lf.getD d 0], _, rfl, by rw [upd_ne lg, upd_same], upd_same, ?_, by rw [List.length_append, nf]; rfl, perm, ((gp.trans g3).put hl ht pt).put g0 ht pt⟩
      rw [List.length_eraseIdx_of_lt hd]
      omega
    · rintro σ H2 ⟨lf, ff, tv, rfl, el, eg, nl, nf, hp, gp⟩
      have e0 : lf = [] := List.length_eq_zero_iff.mp (by omega)
      have nf' : ff.length = n := by omega
      rw [e0, List.append_nil] at hp
      have io : IsOrd ff := ⟨by omega, by omega, by rw [nf']; exact hp⟩
      refine ⟨.ref g, rfl, false, g, vl ff, rfl, eg, fun z => (nomatch z), fun _ p ob hd hpn => ?_⟩
      exact k _ p ff (gp.put (gp.free hpn) ht pt) (gp.free hpn) ⟨ob, hd, upd_same⟩ io nf'

/-- _law_passed: the order as a list or as the tuple that it is -/
def spPassed (T : Addr) : Sp := fun vs H Q _ => ∃ (q a : Addr) (o : List Nat), vs = [.ref q, .ref a] ∧ OrdK true H a (vl o) ∧ PotAt H q ∧ GxR.TabG H T ∧ ∀ H' b p, Gp T q H H' → OrdK b H' p (vl o) → p ≠ q → Q (.ref p) H'
theorem ok_passed {f fD : Addr} {fd fdD : FuncData} (F : Fun K "_law_passed" "_law_passed" s_passed f fd) (D : Dd K mg fD fdD) (B : Bl2 mg) : FnOk P w K mg base CX0 2 f fd ["_law_pot_here", "_law_order_here"] (spPassed T) := by
  have G : FnOk P w K mg base CX0 1 fD fdD ["_law_pot_here", "_law_size"] (spDraw T) := ok_draw D.fn B
  refine F.ok sc_passed (fun vs H Q E h => ?_) (fun cdv A outer s H vs Q E hr h => ?_)
  · obtain ⟨q, a, o, rfl, _⟩ := h
    rfl
  · obtain ⟨q, a, o, rfl, ha, pt, ht, k⟩ := h
    refine ⟨_, pss_one (ps_ret (pe_ifExp (pt_cmpR op_eq (pe_call G hr (by rfl) D.at_ D.fn.kp D.bind .nil pass0 (pa_cons (pv 0) (pa_cons pe_int pa_nil))) pe_int (nomark _))
      (pe_callTy call_list_of (by rfl) B.b.list (by decide +kernel) (pa_cons (pv 1) pa_nil)) (pe_tupF (by rfl) B.b.tuple (pv 1)))), ?_⟩
    refine ⟨.ref q, rfl, q, 2, rfl, by decide, by decide, pt, ht, fun H1 d g hd => ?_⟩
    have a1 := g.ordT ht pt ha
    have aq : a ≠ q := fun z => by
      obtain ⟨x, y, e, _⟩ := pt
      obtain ⟨ob, _, e2⟩ := ha
      rw [z, e] at e2
      cases e2
    refine ⟨rfl, _, rfl, ite2 (fun _ => ?_) (fun _ => ?_)⟩
    · refine ⟨.ref a, rfl, a, vl o, rfl, a1.lt, fun l hl => ?_⟩
      obtain ⟨x, y, e, _⟩ := id g.pot
      refine k _ false l (g.then (Go.new g.tab hl)) upd_same (none_ne hl e)
    · refine ⟨.ref a, rfl, true, a, vl o, rfl, a1, fun _ => k _ true a g a1 aq, fun z => (nomatch z)⟩
end
end Lb

set_option Elab.async false
set_option linter.all false
set_option maxRecDepth 100000
set_option maxHeartbeats 2000000
namespace Lb

/-! ### orders as one-to-one maps of the places -/
theorem ext_at {a b : List Nat} (hl : a.length = b.length) (h : ∀ k, k < a.length → a.getD k 0 = b.getD k 0) : a = b := by
  refine List.ext_getElem? fun k => ?_
  by_cases hk : k < a.length
  · rw [getD_of hk, getD_of (by omega), h k hk]
  · rw [List.getElem?_eq_none (by omega), List.getElem?_eq_none (by omega)]
theorem perm_fits : ∀ (l m : List Nat), l.Nodup → (∀ x ∈ l, x ∈ m) → m.length ≤ l.length → l.Perm m
  | [], m, _, _, h => by
    have : m = [] := List.length_eq_zero_iff.mp (Nat.le_zero.mp h)
    rw [this]
  | x :: r, m, nd, hs, h => by
    obtain ⟨nx, ndr⟩ := List.nodup_cons.mp nd
    have hx := hs x (.head _)
    refine ((perm_fits r (m.erase x) ndr (fun y hy => ?_) ?_).cons x).trans (List.perm_cons_erase hx).symm
    · have ne : y ≠ x := fun z => nx (z ▸ hy)
      exact (List.mem_erase_of_ne ne).mpr (hs y (.tail _ hy))
    · rw [List.length_erase_of_mem hx]
      rw [List.length_cons] at h
      omega
theorem ord_of {l : List Nat} (h1 : 1 ≤ l.length) (h9 : l.length ≤ 9) (hs : ∀ k, k < l.length → 1 ≤ l.getD k 0 ∧ l.getD k 0 ≤ l.length) (inj : ∀ i j, i < l.length → j < l.length → l.getD i 0 = l.getD j 0 → i = j) : IsOrd l := by
  refine ⟨h1, h9, perm_fits _ _ ?_ (fun x hx => ?_) (by rw [List.length_range']; exact Nat.le_refl _)⟩
  · show List.Pairwise _ l
    refine List.pairwise_iff_getElem.mpr fun i j hi hj hij e => ?_
    have ei : l[i]? = l[j]? := by rw [List.getElem?_eq_getElem hi, List.getElem?_eq_getElem hj, e]
    rw [getD_of hi, getD_of hj] at ei
    have := inj i j hi hj (Option.some.inj ei)
    omega
  · obtain ⟨k, hk, e⟩ := List.getElem_of_mem hx
    have e2 : l.getD k 0 = x := by
      have := getD_of hk
      rw [List.getElem?_eq_getElem hk, e] at this
      exact (Option.some.inj this).symm
    have := hs k hk
    rw [e2] at this
    exact List.mem_range'.mpr ⟨x - 1, by omega, by omega⟩
theorem at_of {o : List Nat} {k x : Nat} (h : o[k]? = some x) : o.getD k 0 = x := by
  rw [List.getD_eq_getElem?_getD, h]
  rfl
section
variable {o : List Nat} (h : IsOrd o)
include h
theorem IsOrd.sm {k : Nat} (hk : k < o.length) : 1 ≤ o.getD k 0 ∧ o.getD k 0 ≤ o.length := h.small _ (List.mem_of_getElem? (getD_of hk))
theorem IsOrd.idx {k : Nat} (hk : k < o.length) : o.idxOf (o.getD k 0) = k := by
  obtain ⟨hi, e⟩ := List.getElem?_eq_some_iff.mp (getD_of hk)
  have nd : o.Nodup := h.perm.nodup_iff.mpr (List.nodup_range' ..)
  have z := nd.idxOf_getElem k hi
  rw [e] at z
  exact z
theorem IsOrd.idl {v : Nat} (h1 : 1 ≤ v) (h2 : v ≤ o.length) : o.idxOf v < o.length := List.idxOf_lt_length_iff.mpr (h.mem h1 h2)
theorem IsOrd.idv {v : Nat} (h1 : 1 ≤ v) (h2 : v ≤ o.length) : o.getD (o.idxOf v) 0 = v := by
  have hl := h.idl h1 h2
  exact at_of (by rw [List.getElem?_eq_getElem hl]; exact congrArg some (List.getElem_idxOf hl))
theorem IsOrd.inj {i j : Nat} (hi : i < o.length) (hj : j < o.length) (e : o.getD i 0 = o.getD j 0) : i = j := by rw [← h.idx hi, e, h.idx hj]
end
/-- the sorted order -/
def pl (n : Nat) : List Nat := List.range' 1 n
theorem len_pl (n : Nat) : (pl n).length = n := List.length_range'
theorem len_und (o : List Nat) : (und o).length = o.length := by
  unfold und
  rw [List.length_map, List.length_range']
theorem len_trn (o : List Nat) : (trn o).length = o.length := by
  unfold trn
  rw [List.length_map, List.length_reverse]
theorem len_beh (a b : List Nat) : (beh a b).length = b.length := by
  unfold beh
  rw [List.length_map]
theorem len_exch (o : List Nat) (i j : Nat) : (exch o i j).length = o.length := by
  unfold exch
  rw [List.length_set, List.length_set]
theorem at_pl {n k : Nat} (hk : k < n) : (pl n).getD k 0 = k + 1 := at_of (by
  unfold pl
  rw [List.getElem?_range' hk]
  show some (1 + 1 * k) = _
  rw [show 1 + 1 * k = k + 1 by omega])
theorem at_und {o : List Nat} {k : Nat} (hk : k < o.length) : (und o).getD k 0 = o.idxOf (k + 1) + 1 := at_of (by
  unfold und
  rw [List.getElem?_map, List.getElem?_range' hk]
  show some (o.idxOf (1 + 1 * k) + 1) = _
  rw [show 1 + 1 * k = k + 1 by omega])
theorem at_trn {o : List Nat} {k : Nat} (hk : k < o.length) : (trn o).getD k 0 = o.length + 1 - o.getD (o.length - 1 - k) 0 := at_of (by
  unfold trn
  rw [List.getElem?_map, List.getElem?_reverse hk, getD_of (by omega)]
  rfl)
theorem at_beh {a b : List Nat} {k : Nat} (hk : k < b.length) : (beh a b).getD k 0 = a.getD (b.getD k 0 - 1) 0 := at_of (by
  unfold beh
  rw [List.getElem?_map, getD_of hk]
  rfl)
theorem at_exch {o : List Nat} {i j k : Nat} (hi : i < o.length) (hj : j < o.length) (hk : k < o.length) : (exch o i j).getD k 0 = if k = j then o.getD i 0 else if k = i then o.getD j 0 else o.getD k 0 := by
  unfold exch
  by_cases e : k = j
  · rw [if_pos e, e]
    exact at_of (List.getElem?_set_self (by rw [List.length_set]; exact hj))
  · rw [if_neg e]
    by_cases e2 : k = i
    · rw [if_pos e2]
      subst e2
      exact at_of (by rw [List.getElem?_set_ne (Ne.symm e), List.getElem?_set_self hi])
    · rw [if_neg e2]
      exact at_of (by rw [List.getElem?_set_ne (Ne.symm e), List.getElem?_set_ne (Ne.symm e2), getD_of hk])
theorem ord_pl {n : Nat} (h1 : 1 ≤ n) (h9 : n ≤ 9) : IsOrd (pl n) := ⟨by rw [len_pl]; exact h1, by rw [len_pl]; exact h9, by rw [len_pl]; exact List.Perm.refl _⟩
section
variable {o : List Nat} (h : IsOrd o)
include h
theorem ord_und : IsOrd (und o) := by
  refine ord_of (by rw [len_und]; exact h.lo) (by rw [len_und]; exact h.hi) (fun k hk => ?_) (fun i j hi hj e => ?_)
  · rw [len_und] at hk ⊢
    rw [at_und hk]
    have := h.idl (v := k + 1) (by omega) (by omega)
    omega
  · rw [len_und] at hi hj
    rw [at_und hi, at_und hj] at e
    have e1 := h.idv (v := i + 1) (by omega) (by omega)
    have e2 := h.idv (v := j + 1) (by omega) (by omega)
    rw [show o.idxOf (i + 1) = o.idxOf (j + 1) by omega] at e1
    omega
theorem ord_trn : IsOrd (trn o) := by
  refine ord_of (by rw [len_trn]; exact h.lo) (by rw [len_trn]; exact h.hi) (fun k hk => ?_) (fun i j hi hj e => ?_)
  · rw [len_trn] at hk ⊢
    rw [at_trn hk]
    have := h.sm (k := o.length - 1 - k) (by omega)
    omega
  · rw [len_trn] at hi hj
    rw [at_trn hi, at_trn hj] at e
    have e1 := h.sm (k := o.length - 1 - i) (by omega)
    have e2 := h.sm (k := o.length - 1 - j) (by omega)
    have := h.inj (i := o.length - 1 - i) (j := o.length - 1 - j) (by omega) (by omega) (by omega)
    omega
theorem und_at {k : Nat} (hk : k < o.length) : (und o).getD (o.getD k 0 - 1) 0 = k + 1 := by
  have := h.sm hk
  rw [at_und (by omega), show o.getD k 0 - 1 + 1 = o.getD k 0 by omega, h.idx hk]
theorem at_und_sub {k : Nat} (hk : k < o.length) : o.getD ((und o).getD k 0 - 1) 0 = k + 1 := by
  rw [at_und hk, Nat.add_sub_cancel]
  exact h.idv (by omega) (by omega)
theorem beh_und : beh o (und o) = pl o.length := by
  refine ext_at (by rw [len_beh, len_und, len_pl]) fun k hk => ?_
  rw [len_beh, len_und] at hk
  rw [at_beh (by rw [len_und]; exact hk), at_pl hk]
  exact at_und_sub h hk
theorem und_beh' : beh (und o) o = pl o.length := by
  refine ext_at (by rw [len_beh, len_pl]) fun k hk => ?_
  rw [len_beh] at hk
  rw [at_beh hk, at_pl hk]
  exact und_at h hk
theorem beh_pl : beh o (pl o.length) = o := by
  refine ext_at (by rw [len_beh, len_pl]) fun k hk => ?_
  rw [len_beh, len_pl] at hk
  rw [at_beh (by rw [len_pl]; exact hk), at_pl hk, Nat.add_sub_cancel]
theorem pl_beh : beh (pl o.length) o = o := by
  refine ext_at (len_beh _ _) fun k hk => ?_
  rw [len_beh] at hk
  have := h.sm hk
  rw [at_beh hk, at_pl (by omega)]
  omega
/-- what goes behind undone to k is the place of k -/
theorem und_is {p : List Nat} (hl : p.length = o.length) (hp : ∀ k, k < o.length → 1 ≤ p.getD k 0 ∧ p.getD k 0 ≤ o.length ∧ o.getD (p.getD k 0 - 1) 0 = k + 1) : und o = p := by
  refine ext_at (by rw [len_und, hl]) fun k hk => ?_
  rw [len_und] at hk
  obtain ⟨a, b, c⟩ := hp k hk
  have e := at_und_sub h hk
  have z := (ord_und h).sm (k := k) (by rw [len_und]; exact hk)
  rw [len_und] at z
  have := h.inj (i := (und o).getD k 0 - 1) (j := p.getD k 0 - 1) (by omega) (by omega) (by rw [e, c])
  omega
theorem und_und : und (und o) = o := by
  refine und_is (ord_und h) (by rw [len_und]) fun k hk => ?_
  rw [len_und] at hk ⊢
  have := h.sm hk
  exact ⟨this.1, this.2, und_at h hk⟩
theorem trn_trn : trn (trn o) = o := by
  refine ext_at (by rw [len_trn, len_trn]) fun k hk => ?_
  rw [len_trn, len_trn] at hk
  have := h.sm hk
  rw [at_trn (by rw [len_trn]; exact hk), len_trn, at_trn (by omega), show o.length - 1 - (o.length - 1 - k) = k by omega]
  omega
theorem und_trn : und (trn o) = trn (und o) := by
  refine und_is (ord_trn h) (by rw [len_trn, len_und, len_trn]) fun k hk => ?_
  rw [len_trn] at hk ⊢
  have u := (ord_und h).sm (k := o.length - 1 - k) (by rw [len_und]; omega)
  rw [len_und] at u
  rw [at_trn (o := und o) (by rw [len_und]; exact hk), len_und]
  refine ⟨by omega, by omega, ?_⟩
  rw [at_trn (by omega), show o.length - 1 - (o.length + 1 - (und o).getD (o.length - 1 - k) 0 - 1) = (und o).getD (o.length - 1 - k) 0 - 1 by omega, at_und_sub h (by omega)]
  omega
theorem ord_beh {p : List Nat} (hp : IsOrd p) (hl : o.length = p.length) : IsOrd (beh o p) := by
  refine ord_of (by rw [len_beh]; exact hp.lo) (by rw [len_beh]; exact hp.hi) (fun k hk => ?_) (fun i j hi hj e => ?_)
  · rw [len_beh] at hk ⊢
    rw [at_beh hk]
    have := hp.sm hk
    have := h.sm (k := p.getD k 0 - 1) (by omega)
    omega
  · rw [len_beh] at hi hj
    rw [at_beh hi, at_beh hj] at e
    have a1 := hp.sm hi
    have a2 := hp.sm hj
    have := h.inj (by omega) (by omega) e
    exact hp.inj hi hj (by omega)
theorem und_beh {p : List Nat} (hp : IsOrd p) (hl : o.length = p.length) : und (beh o p) = beh (und p) (und o) := by
  refine und_is (ord_beh h hp hl) (by rw [len_beh, len_beh, len_und, hl]) fun k hk => ?_
  rw [len_beh] at hk ⊢
  have u := (ord_und h).sm (k := k) (by rw [len_und]; omega)
  rw [len_und] at u
  have v := (ord_und hp).sm (k := (und o).getD k 0 - 1) (by rw [len_und]; omega)
  rw [len_und] at v
  rw [at_beh (b := und o) (by rw [len_und]; omega)]
  refine ⟨v.1, v.2, ?_⟩
  rw [at_beh (by omega), at_und_sub hp (by omega), Nat.add_sub_cancel]
  exact at_und_sub h (by omega)
theorem trn_beh {p : List Nat} (hp : IsOrd p) (hl : o.length = p.length) : trn (beh o p) = beh (trn o) (trn p) := by
  refine ext_at (by rw [len_trn, len_beh, len_beh, len_trn]) fun k hk => ?_
  rw [len_trn, len_beh] at hk
  have u := hp.sm (k := p.length - 1 - k) (by omega)
  rw [at_trn (by rw [len_beh]; exact hk), len_beh, at_beh (by omega), at_beh (by rw [len_trn]; exact hk), at_trn hk, at_trn (by omega), hl]
  rw [show p.length - 1 - (p.length + 1 - p.getD (p.length - 1 - k) 0 - 1) = p.getD (p.length - 1 - k) 0 - 1 by omega]
theorem ord_exch {i j : Nat} (hi : i < o.length) (hj : j < o.length) : IsOrd (exch o i j) := by
  refine ord_of (by rw [len_exch]; exact h.lo) (by rw [len_exch]; exact h.hi) (fun k hk => ?_) (fun a b ha hb e => ?_)
  · rw [len_exch] at hk ⊢
    rw [at_exch hi hj hk]
    have := h.sm hi
    have := h.sm hj
    have := h.sm hk
    split
    · assumption
    · split <;> assumption
  · rw [len_exch] at ha hb
    have e1 : ∀ k, (if k = j then o.getD i 0 else if k = i then o.getD j 0 else o.getD k 0) = o.getD (if k = j then i else if k = i then j else k) 0 := fun k => by
      split
      · rfl
      · split <;> rfl
    rw [at_exch hi hj ha, at_exch hi hj hb, e1, e1] at e
    have lt : ∀ k, k < o.length → (if k = j then i else if k = i then j else k) < o.length := fun k hk => by
      split
      · exact hi
      · split
        · exact hj
        · exact hk
    have z := h.inj (lt a ha) (lt b hb) e
    repeat' (split at z)
    all_goals omega
end
theorem beh_beh {a b c : List Nat} (hb : b.length = c.length) (hc : IsOrd c) : beh (beh a b) c = beh a (beh b c) := by
  refine ext_at (by rw [len_beh, len_beh, len_beh]) fun k hk => ?_
  rw [len_beh] at hk
  have := hc.sm hk
  rw [at_beh hk, at_beh (by omega), at_beh (by rw [len_beh]; exact hk), at_beh hk]
theorem beh_step {o : List Nat} {i j : Nat} (hi : i < o.length) (hj : j < o.length) : beh o (exch (pl o.length) i j) = exch o i j := by
  refine ext_at (by rw [len_beh, len_exch, len_exch, len_pl]) fun k hk => ?_
  rw [len_beh, len_exch, len_pl] at hk
  rw [at_beh (by rw [len_exch, len_pl]; exact hk), at_exch (by rw [len_pl]; exact hi) (by rw [len_pl]; exact hj) (by rw [len_pl]; exact hk), at_exch hi hj hk, at_pl hi, at_pl hj, at_pl hk]
  split
  · rw [Nat.add_sub_cancel]
  · split <;> rw [Nat.add_sub_cancel]
theorem at_step {n i j k : Nat} (hi : i < n) (hj : j < n) (hk : k < n) : (exch (pl n) i j).getD k 0 = if k = j then i + 1 else if k = i then j + 1 else k + 1 := by
  rw [at_exch (by rw [len_pl]; exact hi) (by rw [len_pl]; exact hj) (by rw [len_pl]; exact hk), at_pl hi, at_pl hj, at_pl hk]
theorem ord_step {n i j : Nat} (h1 : 1 ≤ n) (h9 : n ≤ 9) (hi : i < n) (hj : j < n) : IsOrd (exch (pl n) i j) := ord_exch (ord_pl h1 h9) (by rw [len_pl]; exact hi) (by rw [len_pl]; exact hj)
theorem und_step {n i j : Nat} (h1 : 1 ≤ n) (h9 : n ≤ 9) (hi : i < n) (hj : j < n) : und (exch (pl n) i j) = exch (pl n) i j := by
  refine und_is (ord_step h1 h9 hi hj) rfl fun k hk => ?_
  rw [len_exch, len_pl] at hk ⊢
  rw [at_step hi hj hk]
  split
  · refine ⟨by omega, by omega, ?_⟩
    rw [at_step hi hj (by omega)]
    split
    · omega
    · rw [if_pos (by omega)]
      omega
  · split
    · refine ⟨by omega, by omega, ?_⟩
      rw [at_step hi hj (by omega), if_pos (by omega)]
      omega
    · refine ⟨by omega, by omega, ?_⟩
      rw [at_step hi hj (by omega), if_neg (by omega), if_neg (by omega)]
      omega
theorem step_beh {o : List Nat} (h : IsOrd o) {i j : Nat} (hi : i < o.length) (hj : j < o.length) : beh (exch (pl o.length) i j) o = exch o (o.idxOf (i + 1)) (o.idxOf (j + 1)) := by
  have i1 := h.idl (v := i + 1) (by omega) (by omega)
  have j1 := h.idl (v := j + 1) (by omega) (by omega)
  have i2 := h.idv (v := i + 1) (by omega) (by omega)
  have j2 := h.idv (v := j + 1) (by omega) (by omega)
  refine ext_at (by rw [len_beh, len_exch]) fun k hk => ?_
  rw [len_beh] at hk
  have s := h.sm hk
  rw [at_beh hk, at_step hi hj (by omega), at_exch i1 j1 hk, i2, j2]
  by_cases e : k = o.idxOf (j + 1)
  · rw [if_pos e, if_pos (by rw [e, j2]; omega)]
  · have ne : o.getD k 0 ≠ j + 1 := fun z => e (by rw [← z, h.idx hk])
    rw [if_neg e, if_neg (by omega)]
    by_cases e2 : k = o.idxOf (i + 1)
    · rw [if_pos e2, if_pos (by rw [e2, i2]; omega)]
    · have ne2 : o.getD k 0 ≠ i + 1 := fun z => e2 (by rw [← z, h.idx hk])
      rw [if_neg e2, if_neg (by omega)]
      omega

/-! ### levels -/
def sm (l : List Nat) (f : Nat → Nat) : Nat := (l.map f).sum
theorem sm_nil (f : Nat → Nat) : sm [] f = 0 := rfl
theorem sm_cons (a : Nat) (l : List Nat) (f : Nat → Nat) : sm (a :: l) f = f a + sm l f := by
  unfold sm
  rw [List.map_cons, List.sum_cons]
theorem sm_perm {l m : List Nat} (f : Nat → Nat) (h : l.Perm m) : sm l f = sm m f := by
  induction h with
  | nil => rfl
  | cons x _ ih => rw [sm_cons, sm_cons, ih]
  | swap x y l => rw [sm_cons, sm_cons, sm_cons, sm_cons]; omega
  | trans _ _ h1 h2 => rw [h1, h2]
theorem sm_congr {l : List Nat} {f g : Nat → Nat} (h : ∀ x ∈ l, f x = g x) : sm l f = sm l g := by
  unfold sm
  rw [List.map_congr_left h]
theorem sm_map (l : List Nat) (s f : Nat → Nat) : sm (l.map s) f = sm l fun x => f (s x) := by
  unfold sm
  rw [List.map_map]
  rfl
theorem sm_append (l m : List Nat) (f : Nat → Nat) : sm (l ++ m) f = sm l f + sm m f := by
  unfold sm
  rw [List.map_append, List.sum_append]
theorem sm_add (l : List Nat) (f g : Nat → Nat) : (sm l fun x => f x + g x) = sm l f + sm l g := by
  induction l with
  | nil => rfl
  | cons a r ih => rw [sm_cons, sm_cons, sm_cons, ih]; omega
theorem sm_zero {l : List Nat} {f : Nat → Nat} (h : ∀ x ∈ l, f x = 0) : sm l f = 0 := by
  induction l with
  | nil => rfl
  | cons a r ih => rw [sm_cons, h a (.head _), ih fun x hx => h x (.tail _ hx)]
theorem sm_swap (l m : List Nat) (g : Nat → Nat → Nat) : (sm l fun i => sm m (g i)) = sm m fun j => sm l fun i => g i j := by
  induction l with
  | nil =>
    rw [sm_nil]
    exact (sm_zero fun _ _ => rfl).symm
  | cons a r ih =>
    rw [sm_cons, ih, ← sm_add]
    refine sm_congr fun j _ => ?_
    rw [sm_cons]
theorem len_flat (f : Nat → List (Nat × Nat)) (l : List Nat) : (l.flatMap f).length = sm l fun a => (f a).length := by
  induction l with
  | nil => rfl
  | cons a r ih => rw [List.flatMap_cons, List.length_append, sm_cons, ih]
theorem len_filter (l : List Nat) (p : Nat → Bool) : (l.filter p).length = sm l fun b => if p b = true then 1 else 0 := by
  induction l with
  | nil => rfl
  | cons a r ih =>
    rw [sm_cons, List.filter_cons]
    split
    · rw [List.length_cons, ih]; omega
    · rw [ih]; omega
/-- all pairs of places, told by which count -/
def al (n : Nat) (g : Nat → Nat → Bool) : Nat := sm (List.range n) fun i => sm (List.range n) fun j => if g i j = true then 1 else 0
theorem al_congr {n : Nat} {g f : Nat → Nat → Bool} (h : ∀ i j, i < n → j < n → g i j = f i j) : al n g = al n f :=
  sm_congr fun i hi => sm_congr fun j hj => by rw [h i j (List.mem_range.mp hi) (List.mem_range.mp hj)]
theorem al_swap (n : Nat) (g : Nat → Nat → Bool) : al n g = al n fun i j => g j i := sm_swap _ _ _
theorem al_perm {n : Nat} (s : Nat → Nat) (h : ((List.range n).map s).Perm (List.range n)) (g : Nat → Nat → Bool) : al n g = al n fun i j => g (s i) (s j) := by
  unfold al
  rw [← sm_perm _ h, sm_map]
  refine sm_congr fun i _ => ?_
  rw [← sm_perm _ h, sm_map]
theorem lev_al (o : List Nat) : lev o = al o.length fun i j => decide (i < j ∧ o.getD i 0 > o.getD j 0) := by
  unfold lev wps al
  rw [len_flat]
  refine sm_congr fun a ha => ?_
  have ha' := List.mem_range.mp ha
  unfold row
  rw [List.length_map, len_filter]
  have e : List.range o.length = List.range (a + 1) ++ (List.range (o.length - (a + 1))).map (a + 1 + ·) := by
    rw [← List.range_add, show a + 1 + (o.length - (a + 1)) = o.length by omega]
  have z0 : (sm (List.range (a + 1)) fun j => if decide (a < j ∧ o.getD a 0 > o.getD j 0) = true then 1 else 0) = 0 := sm_zero fun x hx => ?_
  · rw [e, sm_append, sm_map]
    show _ = (sm (List.range (a + 1)) fun j => if decide (a < j ∧ o.getD a 0 > o.getD j 0) = true then 1 else 0) + _
    rw [z0, Nat.zero_add]
    refine sm_congr fun b hb => ?_
    have e2 : decide (a < a + 1 + b ∧ o.getD a 0 > o.getD (a + 1 + b) 0) = decide (o.getD a 0 > o.getD (a + 1 + b) 0) := decide_eq_decide.mpr ⟨fun z => z.2, fun z => ⟨by omega, z⟩⟩
    show _ = if decide (a < a + 1 + b ∧ o.getD a 0 > o.getD (a + 1 + b) 0) = true then 1 else 0
    rw [e2]
  · have := List.mem_range.mp hx
    rw [decide_eq_false (by omega)]
    rfl
theorem perm_of {n : Nat} {s : Nat → Nat} (h1 : ∀ i, i < n → s i < n) (h2 : ∀ i j, i < n → j < n → s i = s j → i = j) : ((List.range n).map s).Perm (List.range n) := by
  refine perm_fits _ _ ?_ (fun x hx => ?_) (by rw [List.length_map]; exact Nat.le_refl _)
  · show List.Pairwise _ _
    rw [List.pairwise_map]
    refine List.Pairwise.imp_of_mem (R := (· < ·)) (fun {a b} ha hb hab e => ?_) List.pairwise_lt_range
    have := h2 a b (List.mem_range.mp ha) (List.mem_range.mp hb) e
    omega
  · obtain ⟨i, hi, rfl⟩ := List.mem_map.mp hx
    exact List.mem_range.mpr (h1 i (List.mem_range.mp hi))
theorem lev_und {o : List Nat} (h : IsOrd o) : lev (und o) = lev o := by
  rw [lev_al, lev_al, len_und, al_swap o.length fun i j => decide (i < j ∧ o.getD i 0 > o.getD j 0)]
  rw [al_perm (fun i => o.getD i 0 - 1) (perm_of (fun i hi => by have := h.sm hi; omega) fun i j hi hj e => by
    have := h.sm hi
    have := h.sm hj
    exact h.inj hi hj (by omega))]
  refine al_congr fun i j hi hj => ?_
  have a := h.sm hi
  have b := h.sm hj
  rw [und_at h hi, und_at h hj]
  exact decide_eq_decide.mpr ⟨fun z => ⟨by omega, by omega⟩, fun z => ⟨by omega, by omega⟩⟩
theorem lev_trn {o : List Nat} (h : IsOrd o) : lev (trn o) = lev o := by
  rw [lev_al, lev_al, len_trn, al_swap o.length fun i j => decide (i < j ∧ o.getD i 0 > o.getD j 0)]
  rw [al_perm (fun i => o.length - 1 - i) (perm_of (fun i hi => by omega) fun i j hi hj e => by omega)]
  refine al_congr fun i j hi hj => ?_
  have a := h.sm hi
  have b := h.sm hj
  rw [at_trn (by omega), at_trn (by omega), show o.length - 1 - (o.length - 1 - i) = i by omega, show o.length - 1 - (o.length - 1 - j) = j by omega]
  exact decide_eq_decide.mpr ⟨fun z => ⟨by omega, by omega⟩, fun z => ⟨by omega, by omega⟩⟩
end Lb

set_option Elab.async false
set_option linter.all false
set_option maxRecDepth 100000
set_option maxHeartbeats 2000000
namespace Lb

/-! ### orders beside one another -/
def bsd (a b : List Nat) : List Nat := a ++ b.map (· + a.length)
theorem len_bsd (a b : List Nat) : (bsd a b).length = a.length + b.length := by
  unfold bsd
  rw [List.length_append, List.length_map]
theorem bsd_nil (a : List Nat) : bsd a [] = a := by
  unfold bsd
  rw [List.map_nil, List.append_nil]
theorem nil_bsd (a : List Nat) : bsd [] a = a := by
  unfold bsd
  rw [List.nil_append]
  show a.map (fun x => x + 0) = a
  rw [show (fun x : Nat => x + 0) = id from rfl, List.map_id]
theorem bsd_bsd (a b c : List Nat) : bsd (bsd a b) c = bsd a (bsd b c) := by
  unfold bsd
  rw [List.append_assoc, List.map_append, List.map_map, List.length_append, List.length_map]
  congr 2
  refine List.map_congr_left fun x _ => ?_
  show x + (a.length + b.length) = x + b.length + a.length
  omega
theorem at_bsd_l {a b : List Nat} {k : Nat} (h : k < a.length) : (bsd a b).getD k 0 = a.getD k 0 := at_of (by
  unfold bsd
  rw [List.getElem?_append_left h, getD_of h])
theorem at_bsd_r {a b : List Nat} {k : Nat} (h : k < b.length) : (bsd a b).getD (a.length + k) 0 = b.getD k 0 + a.length := at_of (by
  unfold bsd
  rw [List.getElem?_append_right (Nat.le_add_right _ _), Nat.add_sub_cancel_left, List.getElem?_map, getD_of h]
  rfl)
theorem ord_bsd {a b : List Nat} (ha : IsOrd a) (hb : IsOrd b) (h9 : a.length + b.length ≤ 9) : IsOrd (bsd a b) := by
  refine ⟨by rw [len_bsd]; have := ha.lo; omega, by rw [len_bsd]; exact h9, ?_⟩
  rw [len_bsd]
  unfold bsd
  rw [show List.range' 1 (a.length + b.length) = List.range' 1 a.length ++ (List.range' 1 b.length).map (· + a.length) by
    rw [← List.range'_append_1, show (fun x : Nat => x + a.length) = (a.length + ·) from funext fun x => Nat.add_comm _ _, List.map_add_range', Nat.add_comm 1]]
  exact ha.perm.append (hb.perm.map _)
theorem split_at {a : List Nat} {n : Nat} (k : Nat) (h : k < a.length + n) : k < a.length ∨ ∃ j, j < n ∧ k = a.length + j := by
  by_cases hk : k < a.length
  · exact .inl hk
  · exact .inr ⟨k - a.length, by omega, by omega⟩
theorem und_bsd {a b : List Nat} (ha : IsOrd a) (hb : IsOrd b) (h9 : a.length + b.length ≤ 9) : und (bsd a b) = bsd (und a) (und b) := by
  refine und_is (ord_bsd ha hb h9) (by rw [len_bsd, len_bsd, len_und, len_und]) fun k hk => ?_
  rw [len_bsd] at hk ⊢
  rcases split_at k hk with h | ⟨j, hj, rfl⟩
  · have u := (ord_und ha).sm (k := k) (by rw [len_und]; exact h)
    rw [len_und] at u
    rw [at_bsd_l (by rw [len_und]; exact h)]
    refine ⟨u.1, by omega, ?_⟩
    rw [at_bsd_l (by omega)]
    exact at_und_sub ha h
  · have u := (ord_und hb).sm (k := j) (by rw [len_und]; exact hj)
    rw [len_und] at u
    have e : (bsd (und a) (und b)).getD (a.length + j) 0 = (und b).getD j 0 + a.length := by
      have z := at_bsd_r (a := und a) (b := und b) (k := j) (by rw [len_und]; exact hj)
      rw [len_und] at z
      exact z
    rw [e]
    refine ⟨by omega, by omega, ?_⟩
    rw [show (und b).getD j 0 + a.length - 1 = a.length + ((und b).getD j 0 - 1) by omega, at_bsd_r (by omega), at_und_sub hb hj]
    omega
theorem trn_bsd {a b : List Nat} (ha : IsOrd a) (hb : IsOrd b) : trn (bsd a b) = bsd (trn b) (trn a) := by
  refine ext_at (by rw [len_trn, len_bsd, len_bsd, len_trn, len_trn]; omega) fun k hk => ?_
  rw [len_trn, len_bsd] at hk
  rw [at_trn (by rw [len_bsd]; exact hk), len_bsd]
  rcases split_at (a := b) (n := a.length) k (by omega) with h | ⟨j, hj, rfl⟩
  · rw [at_bsd_l (a := trn b) (b := trn a) (k := k) (by rw [len_trn]; exact h), at_trn h, show a.length + b.length - 1 - k = a.length + (b.length - 1 - k) by omega, at_bsd_r (by omega)]
    omega
  · have e : (bsd (trn b) (trn a)).getD (b.length + j) 0 = (trn a).getD j 0 + b.length := by
      have z := at_bsd_r (a := trn b) (b := trn a) (k := j) (by rw [len_trn]; exact hj)
      rw [len_trn] at z
      exact z
    have s := ha.sm (k := a.length - 1 - j) (by omega)
    rw [e, at_trn hj, show a.length + b.length - 1 - (b.length + j) = a.length - 1 - j by omega, at_bsd_l (by omega)]
    omega

/-! ### cuts -/
def cutq (o : List Nat) (m : Nat) : Bool := (o.take m).all fun k => decide (k ≤ m)
def cuts (o : List Nat) : List Nat := (List.range' 1 o.length).filter (cutq o)
def seg (b : Nat) : List Nat → List (Nat × Nat)
  | [] => []
  | c :: r => (b, c) :: seg c r
def cutOut (o : List Nat) (p : Nat × Nat) : List Nat := (o.drop p.1).take (p.2 - p.1)
def sl (o : List Nat) (p : Nat × Nat) : List Nat := (cutOut o p).map (· - p.1)
def blk (o : List Nat) : List (List Nat) := (seg 0 (cuts o)).map (sl o)
def endOf (b : Nat) (l : List Nat) : Nat := l.getLast?.getD b
theorem endOf_cons (b c : Nat) (r : List Nat) : endOf b (c :: r) = endOf c r := by
  unfold endOf
  rw [List.getLast?_cons]
  rfl
theorem seg_append : ∀ (l m : List Nat) (b : Nat), seg b (l ++ m) = seg b l ++ seg (endOf b l) m
  | [], m, b => rfl
  | c :: r, m, b => by
    rw [List.cons_append]
    show (b, c) :: seg c (r ++ m) = (b, c) :: (seg c r ++ _)
    rw [seg_append r m c, endOf_cons]
theorem seg_shift (d : Nat) : ∀ (l : List Nat) (b : Nat), seg (b + d) (l.map (· + d)) = (seg b l).map fun p => (p.1 + d, p.2 + d)
  | [], b => rfl
  | c :: r, b => by
    show (b + d, c + d) :: seg (c + d) (r.map (· + d)) = (b + d, c + d) :: _
    rw [seg_shift d r c]
theorem seg_mem : ∀ (l : List Nat) (b : Nat) (p : Nat × Nat), p ∈ seg b l → (p.1 = b ∨ p.1 ∈ l) ∧ p.2 ∈ l
  | [], _, _, h => nomatch h
  | c :: r, b, p, h => by
    rcases List.mem_cons.mp h with rfl | h
    · exact ⟨.inl rfl, .head _⟩
    · obtain ⟨h1, h2⟩ := seg_mem r c p h
      refine ⟨.inr ?_, .tail _ h2⟩
      rcases h1 with e | e
      · rw [e]
        exact .head _
      · exact .tail _ e
theorem zip_seg (e : Nat) : ∀ (l : List Nat) (b : Nat), List.zip (b :: l) (l ++ [e]) = seg b (l ++ [e])
  | [], b => rfl
  | c :: r, b => by
    show (b, c) :: List.zip (c :: r) (r ++ [e]) = (b, c) :: seg c (r ++ [e])
    rw [zip_seg e r c]
theorem cutq_iff {o : List Nat} {m : Nat} : cutq o m = true ↔ ∀ k ∈ o.take m, k ≤ m := by
  unfold cutq
  rw [List.all_eq_true]
  exact ⟨fun h k hk => of_decide_eq_true (h k hk), fun h k hk => decide_eq_true (h k hk)⟩
theorem cutq_end {o : List Nat} (h : IsOrd o) : cutq o o.length = true := cutq_iff.mpr fun k hk => (h.small k (List.mem_of_mem_take hk)).2
theorem cuts_last {o : List Nat} (h : IsOrd o) : cuts o = (List.range' 1 (o.length - 1)).filter (cutq o) ++ [o.length] := by
  have l1 := h.lo
  have e : List.range' 1 o.length = List.range' 1 (o.length - 1) ++ [o.length] := by
    have z := List.range'_append_1 (s := 1) (m := o.length - 1) (n := 1)
    rw [show o.length - 1 + 1 = o.length by omega] at z
    rw [← z, show 1 + (o.length - 1) = o.length by omega]
    rfl
  unfold cuts
  rw [e, List.filter_append, List.filter_cons_of_pos (cutq_end h)]
  rfl
theorem cuts_le {o : List Nat} {c : Nat} (h : c ∈ cuts o) : 1 ≤ c ∧ c ≤ o.length ∧ cutq o c = true := by
  unfold cuts at h
  obtain ⟨h1, h2⟩ := List.mem_filter.mp h
  obtain ⟨i, hi, e⟩ := List.mem_range'.mp h1
  exact ⟨by omega, by omega, h2⟩
theorem endOf_cuts {o : List Nat} (h : IsOrd o) : endOf 0 (cuts o) = o.length := by
  rw [cuts_last h]
  unfold endOf
  rw [List.getLast?_append]
  rfl
theorem cutq_l {a b : List Nat} {m : Nat} (h : m ≤ a.length) : cutq (bsd a b) m = cutq a m := by
  unfold cutq bsd
  rw [List.take_append_of_le_length h]
theorem cutq_r {a b : List Nat} (ha : IsOrd a) (m : Nat) : cutq (bsd a b) (m + a.length) = cutq b m := by
  rw [Bool.eq_iff_iff, cutq_iff, cutq_iff]
  have e : (bsd a b).take (m + a.length) = a ++ (b.take m).map (· + a.length) := by
    unfold bsd
    rw [Nat.add_comm m, List.take_length_add_append, List.map_take]
  rw [e]
  constructor
  · intro h k hk
    have := h (k + a.length) (List.mem_append.mpr (.inr (List.mem_map.mpr ⟨k, hk, rfl⟩)))
    omega
  · intro h k hk
    rcases List.mem_append.mp hk with hk | hk
    · have := (ha.small k hk).2
      omega
    · obtain ⟨j, hj, rfl⟩ := List.mem_map.mp hk
      have := h j hj
      show j + a.length ≤ m + a.length
      omega
theorem cuts_bsd {a b : List Nat} (ha : IsOrd a) : cuts (bsd a b) = cuts a ++ (cuts b).map (· + a.length) := by
  unfold cuts
  rw [len_bsd, ← List.range'_append_1, List.filter_append]
  congr 1
  · refine List.filter_congr fun m hm => ?_
    obtain ⟨i, hi, e⟩ := List.mem_range'.mp hm
    exact cutq_l (by omega)
  · rw [show List.range' (1 + a.length) b.length = (List.range' 1 b.length).map (· + a.length) by
      rw [show (fun x : Nat => x + a.length) = (a.length + ·) from funext fun x => Nat.add_comm _ _, List.map_add_range', Nat.add_comm 1], List.filter_map]
    congr 1
    refine List.filter_congr fun m hm => ?_
    exact cutq_r ha m
theorem sl_l {a b : List Nat} {p : Nat × Nat} (h1 : p.1 ≤ a.length) (h2 : p.2 ≤ a.length) : sl (bsd a b) p = sl a p := by
  unfold sl cutOut bsd
  rw [List.drop_append_of_le_length h1, List.take_append_of_le_length (by rw [List.length_drop]; omega)]
theorem sl_r {a b : List Nat} (p : Nat × Nat) : sl (bsd a b) (p.1 + a.length, p.2 + a.length) = sl b p := by
  unfold sl cutOut bsd
  show ((List.drop (p.1 + a.length) (a ++ b.map (· + a.length))).take (p.2 + a.length - (p.1 + a.length))).map _ = _
  rw [Nat.add_comm p.1, List.drop_length_add_append, show p.2 + a.length - (a.length + p.1) = p.2 - p.1 by omega, ← List.map_drop, ← List.map_take, List.map_map]
  refine List.map_congr_left fun x _ => ?_
  show x + a.length - (a.length + p.1) = x - p.1
  omega
theorem blk_bsd {a b : List Nat} (ha : IsOrd a) : blk (bsd a b) = blk a ++ blk b := by
  unfold blk
  rw [cuts_bsd ha, seg_append, endOf_cuts ha, List.map_append]
  congr 1
  · refine List.map_congr_left fun p hp => ?_
    obtain ⟨h1, h2⟩ := seg_mem _ _ _ hp
    refine sl_l ?_ (cuts_le h2).2.1
    rcases h1 with e | e
    · omega
    · exact (cuts_le e).2.1
  · have z := seg_shift a.length (cuts b) 0
    rw [Nat.zero_add] at z
    rw [z, List.map_map]
    exact List.map_congr_left fun p _ => sl_r p

/-! ### whole ones -/
structure Ind (b : List Nat) : Prop where
  ord : IsOrd b
  no : ∀ m, 1 ≤ m → m < b.length → cutq b m = false
theorem gt_cut {o : List Nat} (h : IsOrd o) {m : Nat} (hm : m ≤ o.length) (hc : cutq o m = true) : (o.take m).Perm (List.range' 1 m) ∧ ∀ t ∈ o.drop m, m < t := by
  have nd : o.Nodup := h.perm.nodup_iff.mpr (List.nodup_range' ..)
  have lt : (o.take m).length = m := by rw [List.length_take]; omega
  have p : (o.take m).Perm (List.range' 1 m) := perm_fits _ _ (List.Sublist.nodup (List.take_sublist _ _) nd) (fun x hx => by
    have a := cutq_iff.mp hc x hx
    have b := h.small x (List.mem_of_mem_take hx)
    exact List.mem_range'.mpr ⟨x - 1, by omega, by omega⟩) (by rw [List.length_range', lt]; exact Nat.le_refl _)
  refine ⟨p, fun t ht => ?_⟩
  refine Nat.lt_of_not_le fun le => ?_
  have b := h.small t (List.mem_of_mem_drop ht)
  have ht2 : t ∈ o.take m := p.mem_iff.mpr (List.mem_range'.mpr ⟨t - 1, by omega, by omega⟩)
  rw [← List.take_append_drop m o] at nd
  exact (List.nodup_append.mp nd).2.2 t ht2 t ht rfl
theorem cut_bsd {o : List Nat} (h : IsOrd o) {m : Nat} (h1 : 1 ≤ m) (h2 : m < o.length) (hc : cutq o m = true) :
    IsOrd (o.take m) ∧ IsOrd ((o.drop m).map (· - m)) ∧ o = bsd (o.take m) ((o.drop m).map (· - m)) := by
  obtain ⟨p, gt⟩ := gt_cut h (Nat.le_of_lt h2) hc
  have lt : (o.take m).length = m := by rw [List.length_take]; omega
  have h9 := h.hi
  have ld : ((o.drop m).map (· - m)).length = o.length - m := by rw [List.length_map, List.length_drop]
  have nd : o.Nodup := h.perm.nodup_iff.mpr (List.nodup_range' ..)
  have back : ((o.drop m).map (· - m)).map (· + m) = o.drop m := by
    rw [List.map_map]
    have : (o.drop m).map ((fun x => x + m) ∘ fun x => x - m) = (o.drop m).map id := List.map_congr_left fun x hx => by
      have := gt x hx
      show x - m + m = x
      omega
    rw [this, List.map_id]
  refine ⟨⟨by omega, by omega, by rw [lt]; exact p⟩, ⟨by omega, by omega, ?_⟩, ?_⟩
  · refine perm_fits _ _ ?_ (fun x hx => ?_) (by rw [List.length_range']; exact Nat.le_refl _)
    · have nd2 : (o.drop m).Nodup := List.Sublist.nodup (List.drop_sublist _ _) nd
      rw [← back] at nd2
      exact List.Pairwise.imp (fun h e => h (congrArg (· + m) e)) (List.pairwise_map.mp nd2)
    · obtain ⟨t, ht, rfl⟩ := List.mem_map.mp hx
      have a := gt t ht
      have b := h.small t (List.mem_of_mem_drop ht)
      rw [ld]
      exact List.mem_range'.mpr ⟨t - m - 1, by omega, by omega⟩
  · unfold bsd
    rw [lt, back, List.take_append_drop]
def bsdAll : List (List Nat) → List Nat
  | [] => []
  | b :: r => bsd b (bsdAll r)
theorem bsdAll_append : ∀ l m : List (List Nat), bsdAll (l ++ m) = bsd (bsdAll l) (bsdAll m)
  | [], m => (nil_bsd _).symm
  | b :: r, m => by
    show bsd b (bsdAll (r ++ m)) = bsd (bsd b (bsdAll r)) (bsdAll m)
    rw [bsdAll_append r m, bsd_bsd]
theorem blk_ind {b : List Nat} (h : Ind b) : blk b = [b] := by
  have e : cuts b = [b.length] := by
    rw [cuts_last h.ord, List.filter_eq_nil_iff.mpr fun m hm => ?_]
    · rfl
    · obtain ⟨i, hi, e⟩ := List.mem_range'.mp hm
      have := h.ord.lo
      rw [h.no m (by omega) (by omega)]
      exact Bool.false_ne_true
  unfold blk
  rw [e]
  show [sl b (0, b.length)] = [b]
  congr 1
  unfold sl cutOut
  show ((b.drop 0).take (b.length - 0)).map (fun x => x - 0) = b
  rw [List.drop_zero, Nat.sub_zero, List.take_length, show (fun x : Nat => x - 0) = id from rfl, List.map_id]
theorem parts : ∀ (n : Nat) (o : List Nat), o.length ≤ n → IsOrd o → ∃ bs : List (List Nat), bs ≠ [] ∧ (∀ b ∈ bs, Ind b) ∧ o = bsdAll bs
  | 0, o, hn, h => by
    have := h.lo
    omega
  | n + 1, o, hn, h => by
    by_cases c : ∃ m, 1 ≤ m ∧ m < o.length ∧ cutq o m = true
    · obtain ⟨m, h1, h2, hc⟩ := c
      obtain ⟨a, b, e⟩ := cut_bsd h h1 h2 hc
      obtain ⟨l1, n1, i1, e1⟩ := parts n (o.take m) (by rw [List.length_take]; omega) a
      obtain ⟨l2, n2, i2, e2⟩ := parts n ((o.drop m).map (· - m)) (by rw [List.length_map, List.length_drop]; omega) b
      refine ⟨l1 ++ l2, by simp [n1], fun b hb => ?_, ?_⟩
      · rcases List.mem_append.mp hb with z | z
        · exact i1 b z
        · exact i2 b z
      · rw [bsdAll_append, ← e1, ← e2]
        exact e
    · refine ⟨[o], by simp, fun b hb => ?_, (bsd_nil o).symm⟩
      cases List.mem_singleton.mp hb
      refine ⟨h, fun m h1 h2 => ?_⟩
      cases e : cutq o m with
      | false => rfl
      | true => exact absurd ⟨m, h1, h2, e⟩ c
theorem bsdAll_ord : ∀ bs : List (List Nat), bs ≠ [] → (∀ b ∈ bs, Ind b) → (bsdAll bs).length ≤ 9 → IsOrd (bsdAll bs)
  | [], n, _, _ => absurd rfl n
  | [b], _, h, _ => by
    show IsOrd (bsd b [])
    rw [bsd_nil]
    exact (h b (.head _)).ord
  | b :: c :: r, _, h, h9 => by
    have e : (bsdAll (b :: c :: r)).length = b.length + (bsdAll (c :: r)).length := len_bsd _ _
    exact ord_bsd (h b (.head _)).ord (bsdAll_ord (c :: r) (by simp) (fun x hx => h x (.tail _ hx)) (by omega)) (by omega)
theorem blk_all : ∀ bs : List (List Nat), (∀ b ∈ bs, Ind b) → blk (bsdAll bs) = bs
  | [], _ => rfl
  | b :: r, h => by
    show blk (bsd b (bsdAll r)) = b :: r
    rw [blk_bsd (h b (.head _)).ord, blk_ind (h b (.head _)), blk_all r fun x hx => h x (.tail _ hx)]
    rfl
/-- the blocks of an order are whole, and beside one another they are the order -/
theorem blk_parts {o : List Nat} (h : IsOrd o) : blk o ≠ [] ∧ (∀ b ∈ blk o, Ind b) ∧ o = bsdAll (blk o) := by
  obtain ⟨bs, n, i, e⟩ := parts o.length o (Nat.le_refl _) h
  have z : blk o = bs := by
    rw [e]
    exact blk_all bs i
  rw [z]
  exact ⟨n, i, e⟩
theorem ind_trn {b : List Nat} (h : Ind b) : Ind (trn b) := by
  refine ⟨ord_trn h.ord, fun m h1 h2 => ?_⟩
  rw [len_trn] at h2
  cases e : cutq (trn b) m with
  | false => rfl
  | true =>
    obtain ⟨a, c, z⟩ := cut_bsd (ord_trn h.ord) h1 (by rw [len_trn]; exact h2) e
    have z2 := congrArg trn z
    rw [trn_trn h.ord, trn_bsd a c] at z2
    have lc : (trn (((trn b).drop m).map (· - m))).length = b.length - m := by rw [len_trn, List.length_map, List.length_drop, len_trn]
    have no := h.no (b.length - m) (by omega) (by omega)
    have y := cutq_l (a := trn (((trn b).drop m).map (· - m))) (b := trn ((trn b).take m)) (m := b.length - m) (by omega)
    rw [← z2, no] at y
    have y2 := cutq_end (ord_trn c)
    rw [lc] at y2
    rw [y2] at y
    cases y
theorem ind_und {b : List Nat} (h : Ind b) : Ind (und b) := by
  refine ⟨ord_und h.ord, fun m h1 h2 => ?_⟩
  rw [len_und] at h2
  cases e : cutq (und b) m with
  | false => rfl
  | true =>
    obtain ⟨a, c, z⟩ := cut_bsd (ord_und h.ord) h1 (by rw [len_und]; exact h2) e
    have la : ((und b).take m).length = m := by rw [List.length_take, len_und]; omega
    have lc : (((und b).drop m).map (· - m)).length = b.length - m := by rw [List.length_map, List.length_drop, len_und]
    have h9 := h.ord.hi
    have z2 := congrArg und z
    rw [und_und h.ord, und_bsd a c (by omega)] at z2
    have no := h.no m h1 h2
    have y := cutq_l (a := und ((und b).take m)) (b := und (((und b).drop m).map (· - m))) (m := m) (by rw [len_und]; omega)
    rw [← z2, no] at y
    have y2 := cutq_end (ord_und a)
    rw [len_und, la] at y2
    rw [y2] at y
    cases y
theorem trn_all : ∀ bs : List (List Nat), (∀ b ∈ bs, Ind b) → (bsdAll bs).length ≤ 9 → trn (bsdAll bs) = bsdAll (bs.map trn).reverse
  | [], _, _ => rfl
  | [b], _, _ => by
    show trn (bsd b []) = bsd (trn b) []
    rw [bsd_nil, bsd_nil]
  | b :: c :: r, h, h9 => by
    have e : (bsdAll (b :: c :: r)).length = b.length + (bsdAll (c :: r)).length := len_bsd _ _
    have hr : ∀ x ∈ c :: r, Ind x := fun x hx => h x (.tail _ hx)
    show trn (bsd b (bsdAll (c :: r))) = _
    rw [trn_bsd (h b (.head _)).ord (bsdAll_ord _ (by simp) hr (by omega)), trn_all (c :: r) hr (by omega)]
    show bsd (bsdAll ((c :: r).map trn).reverse) (trn b) = bsdAll (trn b :: (c :: r).map trn).reverse
    generalize (c :: r).map trn = l
    rw [List.reverse_cons, bsdAll_append]
    show bsd _ (trn b) = bsd _ (bsd (trn b) [])
    rw [bsd_nil]
theorem und_all : ∀ bs : List (List Nat), (∀ b ∈ bs, Ind b) → (bsdAll bs).length ≤ 9 → und (bsdAll bs) = bsdAll (bs.map und)
  | [], _, _ => rfl
  | [b], _, _ => by
    show und (bsd b []) = bsd (und b) []
    rw [bsd_nil, bsd_nil]
  | b :: c :: r, h, h9 => by
    have e : (bsdAll (b :: c :: r)).length = b.length + (bsdAll (c :: r)).length := len_bsd _ _
    have hr : ∀ x ∈ c :: r, Ind x := fun x hx => h x (.tail _ hx)
    show und (bsd b (bsdAll (c :: r))) = _
    rw [und_bsd (h b (.head _)).ord (bsdAll_ord _ (by simp) hr (by omega)) (by omega), und_all (c :: r) hr (by omega)]
    rfl
theorem blk_trn {o : List Nat} (h : IsOrd o) : blk (trn o) = (blk o).reverse.map trn := by
  obtain ⟨_, i, e⟩ := blk_parts h
  have h9 := h.hi
  have z := trn_all (blk o) i (by rw [← e]; exact h9)
  rw [← e] at z
  rw [z, blk_all, List.map_reverse]
  intro b hb
  obtain ⟨c, hc, rfl⟩ := List.mem_map.mp (List.mem_reverse.mp hb)
  exact ind_trn (i c hc)
theorem blk_und {o : List Nat} (h : IsOrd o) : blk (und o) = (blk o).map und := by
  obtain ⟨_, i, e⟩ := blk_parts h
  have h9 := h.hi
  have z := und_all (blk o) i (by rw [← e]; exact h9)
  rw [← e] at z
  rw [z, blk_all]
  intro b hb
  obtain ⟨c, hc, rfl⟩ := List.mem_map.mp hb
  exact ind_und (i c hc)
theorem foldl_bsd : ∀ (r : List (List Nat)) (b : List Nat), r.foldl bsd b = bsd b (bsdAll r)
  | [], b => (bsd_nil b).symm
  | c :: r, b => by
    rw [List.foldl_cons, foldl_bsd r (bsd b c), bsd_bsd]
    rfl
end Lb

set_option Elab.async false
set_option linter.all false
set_option maxRecDepth 100000
set_option maxHeartbeats 2000000
namespace Lb

def shift (d : Nat) (p : Nat × Nat) : Nat × Nat := (p.1 + d, p.2 + d)
theorem row_l {a b : List Nat} (ha : IsOrd a) {i : Nat} (hi : i < a.length) : row (bsd a b) i (a.length + b.length - (i + 1)) = row a i (a.length - (i + 1)) := by
  unfold row
  congr 1
  rw [show a.length + b.length - (i + 1) = (a.length - (i + 1)) + b.length by omega, List.range_add, List.filter_append]
  have z : ((List.range b.length).map (a.length - (i + 1) + ·)).filter (fun k => decide ((bsd a b).getD i 0 > (bsd a b).getD (i + 1 + k) 0)) = [] := by
    refine List.filter_eq_nil_iff.mpr fun k hk => ?_
    obtain ⟨j, hj, rfl⟩ := List.mem_map.mp hk
    have hj := List.mem_range.mp hj
    have s := ha.sm hi
    rw [show i + 1 + (a.length - (i + 1) + j) = a.length + j by omega, at_bsd_l hi, at_bsd_r hj, decide_eq_false (by omega)]
    exact Bool.false_ne_true
  rw [z, List.append_nil]
  refine List.filter_congr fun k hk => ?_
  have hk := List.mem_range.mp hk
  rw [at_bsd_l hi, at_bsd_l (by omega)]
theorem row_r (a b : List Nat) {i : Nat} (hi : i < b.length) : row (bsd a b) (a.length + i) (a.length + b.length - (a.length + i + 1)) = (row b i (b.length - (i + 1))).map (shift a.length) := by
  unfold row
  rw [List.map_map, show a.length + b.length - (a.length + i + 1) = b.length - (i + 1) by omega]
  have e : ((List.range (b.length - (i + 1))).filter fun k => decide ((bsd a b).getD (a.length + i) 0 > (bsd a b).getD (a.length + i + 1 + k) 0)) = (List.range (b.length - (i + 1))).filter fun k => decide (b.getD i 0 > b.getD (i + 1 + k) 0) := by
    refine List.filter_congr fun k hk => ?_
    have hk := List.mem_range.mp hk
    rw [show a.length + i + 1 + k = a.length + (i + 1 + k) by omega, at_bsd_r hi, at_bsd_r (by omega)]
    exact decide_eq_decide.mpr ⟨fun h => by omega, fun h => by omega⟩
  rw [e]
  refine List.map_congr_left fun k _ => ?_
  show (a.length + i, a.length + i + 1 + k) = (i + a.length, i + 1 + k + a.length)
  rw [show a.length + i = i + a.length by omega, show i + a.length + 1 + k = i + 1 + k + a.length by omega]
theorem flat_congr {α β : Type} {f g : α → List β} : ∀ {l : List α}, (∀ x ∈ l, f x = g x) → l.flatMap f = l.flatMap g
  | [], _ => rfl
  | a :: r, h => by rw [List.flatMap_cons, List.flatMap_cons, h a (.head _), flat_congr fun x hx => h x (.tail _ hx)]
theorem flat_map_out {α β γ : Type} (f : α → List β) (g : β → γ) : ∀ l : List α, (l.flatMap f).map g = l.flatMap fun x => (f x).map g
  | [] => rfl
  | a :: r => by rw [List.flatMap_cons, List.flatMap_cons, List.map_append, flat_map_out f g r]
theorem flat_map_in {α β γ : Type} (f : α → β) (g : β → List γ) : ∀ l : List α, (l.map f).flatMap g = l.flatMap fun x => g (f x)
  | [] => rfl
  | a :: r => by rw [List.map_cons, List.flatMap_cons, List.flatMap_cons, flat_map_in f g r]
theorem wps_bsd {a b : List Nat} (ha : IsOrd a) : wps (bsd a b) = wps a ++ (wps b).map (shift a.length) := by
  unfold wps
  rw [len_bsd, List.range_add, List.flatMap_append, flat_map_out, flat_map_in]
  congr 1
  · exact flat_congr fun i hi => row_l ha (List.mem_range.mp hi)
  · exact flat_congr fun i hi => row_r a b (List.mem_range.mp hi)
theorem lev_bsd {a b : List Nat} (ha : IsOrd a) : lev (bsd a b) = lev a + lev b := by
  unfold lev
  rw [wps_bsd ha, List.length_append, List.length_map]
/-- how many wrong pairs have the place p ahead -/
def cnt (ps : List (Nat × Nat)) (p : Nat) : Nat := (ps.filter fun q => q.1 == p).length
def cod (o : List Nat) : List Nat := (List.range o.length).map (cnt (wps o))
theorem len_cod (o : List Nat) : (cod o).length = o.length := by
  unfold cod
  rw [List.length_map, List.length_range]
theorem wps_lt {o : List Nat} {q : Nat × Nat} (h : q ∈ wps o) : q.1 < o.length ∧ q.2 < o.length := by
  unfold wps at h
  obtain ⟨a, ha, hq⟩ := List.mem_flatMap.mp h
  unfold row at hq
  obtain ⟨b, hb, rfl⟩ := List.mem_map.mp hq
  have h1 := List.mem_range.mp ha
  have h2 := List.mem_range.mp (List.mem_filter.mp hb).1
  exact ⟨h1, by show a + 1 + b < o.length; omega⟩
theorem cod_bsd {a b : List Nat} (ha : IsOrd a) : cod (bsd a b) = cod a ++ cod b := by
  unfold cod
  rw [len_bsd, List.range_add, List.map_append, List.map_map]
  congr 1
  · refine List.map_congr_left fun p hp => ?_
    have hp := List.mem_range.mp hp
    unfold cnt
    have z : ((wps b).map (shift a.length)).filter (fun q => q.1 == p) = [] := List.filter_eq_nil_iff.mpr fun q hq => by
      obtain ⟨r, _, rfl⟩ := List.mem_map.mp hq
      show ¬ ((r.1 + a.length == p) = true)
      intro e
      have := beq_iff_eq.mp e
      omega
    rw [wps_bsd ha, List.filter_append, z, List.append_nil]
  · refine List.map_congr_left fun p hp => ?_
    show cnt (wps (bsd a b)) (a.length + p) = cnt (wps b) p
    unfold cnt
    have z : (wps a).filter (fun q => q.1 == a.length + p) = [] := List.filter_eq_nil_iff.mpr fun q hq => by
      have := (wps_lt hq).1
      intro e
      have := beq_iff_eq.mp e
      omega
    rw [wps_bsd ha, List.filter_append, z, List.nil_append, List.filter_map, List.length_map]
    congr 1
    refine List.filter_congr fun q _ => ?_
    show (q.1 + a.length == a.length + p) = (q.1 == p)
    rw [Bool.eq_iff_iff, beq_iff_eq, beq_iff_eq]
    omega
def fls (o : List Nat) : List Nat := (List.range (o.length - 1)).filter fun p => decide (o.getD p 0 > o.getD (p + 1) 0)
theorem fls_bsd {a b : List Nat} (ha : IsOrd a) (hb : IsOrd b) : fls (bsd a b) = fls a ++ (fls b).map (· + a.length) := by
  have l1 := ha.lo
  have l2 := hb.lo
  unfold fls
  have e : List.range ((bsd a b).length - 1) = List.range (a.length - 1) ++ ([a.length - 1] ++ (List.range (b.length - 1)).map (· + a.length)) := by
    rw [len_bsd, show a.length + b.length - 1 = (a.length - 1) + (1 + (b.length - 1)) by omega, List.range_add, List.range_add, List.map_append, List.map_map]
    congr 1
    congr 1
    refine List.map_congr_left fun x _ => ?_
    show a.length - 1 + (1 + x) = x + a.length
    omega
  rw [e, List.filter_append, List.filter_append, List.filter_map]
  congr 1
  · refine List.filter_congr fun p hp => ?_
    have hp := List.mem_range.mp hp
    rw [at_bsd_l (by omega), at_bsd_l (by omega)]
  · have z : [a.length - 1].filter (fun p => decide ((bsd a b).getD p 0 > (bsd a b).getD (p + 1) 0)) = [] := List.filter_eq_nil_iff.mpr fun p hp => by
      cases List.mem_singleton.mp hp
      have s := ha.sm (k := a.length - 1) (by omega)
      have w := at_bsd_r (a := a) (b := b) (k := 0) (by omega)
      rw [at_bsd_l (by omega), show a.length - 1 + 1 = a.length + 0 by omega, w, decide_eq_false (by omega)]
      exact Bool.false_ne_true
    rw [z, List.nil_append]
    congr 1
    refine List.filter_congr fun p hp => ?_
    have hp := List.mem_range.mp hp
    show decide ((bsd a b).getD (p + a.length) 0 > (bsd a b).getD (p + a.length + 1) 0) = _
    rw [show p + a.length = a.length + p by omega, show a.length + p + 1 = a.length + (p + 1) by omega, at_bsd_r (by omega), at_bsd_r (by omega)]
    exact decide_eq_decide.mpr ⟨fun h => by omega, fun h => by omega⟩

/-! the law's own ways -/
def lowd (l : List Nat) : List Nat := l.map fun t => 1 + (l.filter fun u => decide (u < t)).length
theorem count_below {n t : Nat} (h1 : 1 ≤ t) (h2 : t ≤ n) : ((List.range' 1 n).filter fun u => decide (u < t)).length = t - 1 := by
  have e : List.range' 1 n = List.range' 1 (t - 1) ++ List.range' t (n - (t - 1)) := by
    have z := List.range'_append_1 (s := 1) (m := t - 1) (n := n - (t - 1))
    rw [show 1 + (t - 1) = t by omega, show t - 1 + (n - (t - 1)) = n by omega] at z
    exact z.symm
  rw [e, List.filter_append, List.filter_eq_self.mpr fun u hu => ?_, List.filter_eq_nil_iff.mpr fun u hu => ?_, List.append_nil, List.length_range']
  · obtain ⟨i, hi, z⟩ := List.mem_range'.mp hu
    rw [decide_eq_false (by omega)]
    exact Bool.false_ne_true
  · obtain ⟨i, hi, z⟩ := List.mem_range'.mp hu
    exact decide_eq_true (by omega)
theorem lowd_ord {b : List Nat} (h : IsOrd b) (d : Nat) : lowd (b.map (· + d)) = b := by
  unfold lowd
  rw [List.map_map]
  conv => rhs; rw [← List.map_id b]
  refine List.map_congr_left fun t ht => ?_
  have s := h.small t ht
  show 1 + ((b.map (· + d)).filter fun u => decide (u < t + d)).length = t
  rw [List.filter_map, List.length_map]
  have e : (b.filter ((fun u => decide (u < t + d)) ∘ fun x => x + d)) = b.filter fun u => decide (u < t) := List.filter_congr fun u _ => by
    show decide (u + d < t + d) = decide (u < t)
    exact decide_eq_decide.mpr ⟨fun h => by omega, fun h => by omega⟩
  rw [e, (h.perm.filter _).length_eq, count_below s.1 s.2]
  omega
/-- a block's things lowered by their own ranks are lowered by what stands ahead -/
theorem lowd_cut {o : List Nat} (h : IsOrd o) {p : Nat × Nat} (hp : p ∈ seg 0 (cuts o)) : lowd (cutOut o p) = sl o p := by
  have ib : IsOrd (sl o p) := by
    obtain ⟨_, i, _⟩ := blk_parts h
    exact (i _ (List.mem_map.mpr ⟨p, hp, rfl⟩)).ord
  have gt : ∀ t ∈ o.drop p.1, p.1 < t := by
    obtain ⟨h1, h2⟩ := seg_mem _ _ _ hp
    rcases h1 with e | e
    · intro t ht
      have := h.small t (List.mem_of_mem_drop ht)
      omega
    · obtain ⟨c1, c2, c3⟩ := cuts_le e
      exact (gt_cut h c2 c3).2
  have back : cutOut o p = (sl o p).map (· + p.1) := by
    unfold sl
    rw [List.map_map]
    conv => lhs; rw [← List.map_id (cutOut o p)]
    refine List.map_congr_left fun t ht => ?_
    have := gt t (List.mem_of_mem_take ht)
    show t = t - p.1 + p.1
    omega
  conv => lhs; rw [back]
  exact lowd_ord ib p.1
/-- the greatest of the first m things is m exactly where they are the least ones -/
theorem max_ge : ∀ (l : List Nat) (a : Nat), a ≤ l.foldl max a ∧ ∀ x ∈ l, x ≤ l.foldl max a
  | [], a => ⟨Nat.le_refl _, fun _ h => nomatch h⟩
  | b :: r, a => by
    obtain ⟨h1, h2⟩ := max_ge r (max a b)
    refine ⟨Nat.le_trans (Nat.le_max_left _ _) h1, fun x hx => ?_⟩
    rcases List.mem_cons.mp hx with rfl | hx
    · exact Nat.le_trans (Nat.le_max_right _ _) h1
    · exact h2 x hx
theorem max_in : ∀ (l : List Nat) (a : Nat), l.foldl max a = a ∨ l.foldl max a ∈ l
  | [], a => .inl rfl
  | b :: r, a => by
    rw [List.foldl_cons]
    rcases max_in r (max a b) with e | e
    · rw [e]
      rcases Nat.le_total a b with h | h
      · rw [Nat.max_eq_right h]
        exact .inr (.head _)
      · rw [Nat.max_eq_left h]
        exact .inl rfl
    · exact .inr (.tail _ e)
theorem max_cut {o : List Nat} (h : IsOrd o) {m x : Nat} {r : List Nat} (h1 : 1 ≤ m) (h2 : m ≤ o.length) (e : o.take m = x :: r) : (r.foldl max x = m) ↔ cutq o m = true := by
  have lt : (o.take m).length = m := by rw [List.length_take]; omega
  have nd : o.Nodup := h.perm.nodup_iff.mpr (List.nodup_range' ..)
  obtain ⟨g1, g2⟩ := max_ge r x
  have all : ∀ k ∈ o.take m, k ≤ r.foldl max x := fun k hk => by
    rw [e] at hk
    rcases List.mem_cons.mp hk with rfl | hk
    · exact g1
    · exact g2 k hk
  have mem : r.foldl max x ∈ o.take m := by
    rw [e]
    rcases max_in r x with z | z
    · rw [z]
      exact .head _
    · exact .tail _ z
  constructor
  · intro z
    exact cutq_iff.mpr fun k hk => by rw [← z]; exact all k hk
  · intro z
    have le := cutq_iff.mp z _ mem
    refine Nat.le_antisymm le (Nat.le_of_not_lt fun lt2 => ?_)
    have p := perm_fits (o.take m) (List.range' 1 (m - 1)) (List.Sublist.nodup (List.take_sublist _ _) nd) (fun k hk => by
      have a := all k hk
      have b := h.small k (List.mem_of_mem_take hk)
      exact List.mem_range'.mpr ⟨k - 1, by omega, by omega⟩) (by rw [List.length_range', lt]; omega)
    have := p.length_eq
    rw [lt, List.length_range'] at this
    omega
theorem sort_cut {o : List Nat} (h : IsOrd o) {m : Nat} (h2 : m ≤ o.length) {ns : List Int} (hp : ns.Perm ((o.take m).map fun k : Nat => (k : Int))) (hs : ns.Pairwise (· ≤ ·)) :
    (ns = (List.range' 1 m).map fun k : Nat => (k : Int)) ↔ cutq o m = true := by
  constructor
  · intro z
    refine cutq_iff.mpr fun k hk => ?_
    have : (k : Int) ∈ ns := hp.mem_iff.mpr (List.mem_map.mpr ⟨k, hk, rfl⟩)
    rw [z] at this
    obtain ⟨j, hj, ej⟩ := List.mem_map.mp this
    obtain ⟨i, hi, ei⟩ := List.mem_range'.mp hj
    omega
  · intro z
    refine List.Perm.eq_of_pairwise (le := (· ≤ ·)) (fun a b _ _ h1 h2 => Int.le_antisymm h1 h2) hs ?_ (hp.trans ((gt_cut h h2 z).1.map _))
    rw [List.pairwise_map]
    exact (List.pairwise_lt_range' (s := 1) (n := m) (step := 1)).imp fun h => by omega
theorem take_seg {o : List Nat} {m : Nat} : (List.range' 1 (m + 1)).filter (cutq o) = (List.range' 1 m).filter (cutq o) ++ (if cutq o (m + 1) = true then [m + 1] else []) := by
  have z := List.range'_append_1 (s := 1) (m := m) (n := 1)
  rw [← z, List.filter_append]
  congr 1
  rw [show List.range' (1 + m) 1 = [m + 1] by rw [Nat.add_comm]; rfl]
  cases e : cutq o (m + 1) with
  | true => rw [List.filter_cons_of_pos e]; rfl
  | false => rw [List.filter_cons_of_neg (by rw [e]; exact Bool.false_ne_true)]; rfl
end Lb

set_option Elab.async false
set_option linter.all false
set_option maxRecDepth 100000
set_option maxHeartbeats 2000000
namespace Lb
open PySem PySem.Spec PyProof.Rows L2
open AutoSeq1 (wpAny_loadPart')

/-! ### for i, x in enumerate(t), t a tuple -/
theorem enum_newT (t : Addr) (items : Array Value) (n : Nat) (dd : Option Addr) (sl : Array (Option Value)) :
    Meets (Builtin.«enumerate.__new__» ⟨[.type "enumerate", .ref t], []⟩) (fun _ R s => s.heap.get? t = some ⟨.type "tuple", dd, .seq items n, sl⟩ ∧
      R (.ok (.ret (.ref (s.heap.push { cls := .type "tuple_iterator", data := .fields #[.ref t, .int 0 0] }).objs.size)))
        { s with heap := (s.heap.push { cls := .type "tuple_iterator", data := .fields #[.ref t, .int 0 0] }).push { cls := .type "enumerate", data := .fields #[.none, .bool false, .ref s.heap.objs.size, rawInt 0, .none, .none] } }) :=
  .of_wp fun prog w A R s h => by
    obtain ⟨hp, g, d, tk, os⟩ := s
    obtain ⟨ho, h⟩ := h
    have hsub := sub_enumerate
    have isT : Heap.IsTuple (Shared.heap ⟨hp, g, d, tk, os⟩) t items := ⟨_, ho, rfl, n, rfl⟩
    wp_walk using wpAny_loadPart' ho
    refine wpAny_stack_any fun st => wpAny_pure ?_
    split
    · rename_i c _ _ _ _ _
      cases (c == Value.type "enumerate") <;> (wp_walk using wpAny_loadPart' ho, wpAny_pyIter_tuple isT; exact ⟨_, rfl, h⟩)
    · wp_walk using wpAny_loadPart' ho, wpAny_pyIter_tuple isT
      exact ⟨_, rfl, h⟩
theorem call_enumT {P : Program} {w : World} {A : Around} {E : Value → Shared → Prop} {s : Shared} {t : Addr} {items : Array Value} {Q : Value → Shared → Prop} (ht : s.heap.IsTuple t items)
    (h : ∀ h', IsEnum h' (s.heap.objs.size + 1) s.heap.objs.size 0 .none → h'.IsTupleIter s.heap.objs.size t 0 → (∀ b o, s.heap.get? b = some o → h'.get? b = some o) → Q (.ref (s.heap.objs.size + 1)) { s with heap := h' }) :
    wpAny (model P w) A (call (.type "enumerate") [.ref t]) Q E s := by
  obtain ⟨⟨c, dd, dt, sl⟩, ho, hc, n, hd⟩ := ht
  have hc' : c = .type "tuple" := hc
  have hd' : dt = .seq items n := hd
  subst hc' hd'
  refine callType_new F.called_enumerate (by decide) (F.typeCall_enumerate_1 _) (F.newCall_enumerate_1 _) (fun obj => F.args_object_init_2 obj _) F.entry_enumerate_new (enum_newT t items n dd sl) ⟨ho, ?_⟩
  have z : (s.heap.push { cls := .type "tuple_iterator", data := .fields #[.ref t, .int 0 0] }).objs.size = s.heap.objs.size + 1 := Heap.size_push ..
  show _ ∧ _
  rw [z]
  have he : IsEnum ((s.heap.push { cls := .type "tuple_iterator", data := .fields #[.ref t, .int 0 0] }).push { cls := .type "enumerate", data := .fields #[.none, .bool false, .ref s.heap.objs.size, rawInt 0, .none, .none] }) (s.heap.objs.size + 1) s.heap.objs.size 0 .none := by
    have q := Heap.get?_push_size (s.heap.push { cls := .type "tuple_iterator", data := .fields #[.ref t, .int 0 0] }) (o := { cls := .type "enumerate", data := .fields #[.none, .bool false, .ref s.heap.objs.size, rawInt 0, .none, .none] }) rfl
    rw [z] at q
    exact q
  exact ⟨⟨_, he, rfl⟩, h _ he ⟨_, Heap.get?_push_of_some _ (Heap.get?_push_size _ rfl), rfl, rfl⟩ fun b o x => Heap.get?_push_of_some _ (Heap.get?_push_of_some _ x)⟩
/-- the places and things of the tuple at a, each pair a new tuple -/
def IteT (K : PySem.W.Frag) (a : Addr) : It :=
  ⟨fun i H => ∃ (xs : List V) (x : V), SqT K H a xs ∧ xs[i]? = some x, fun i H v H' => ∃ T x, v = .ref T ∧ H T = none ∧ H' = upd H T (.tup [.int (i : Nat), x]) ∧ ∀ xs, SqT K H a xs → xs[i]? = some x, fun i H => ∃ xs : List V, SqT K H a xs ∧ xs.length = i⟩
theorem turn_enumT {P : Program} {w : World} {K : PySem.W.Frag} {elts : List Expr} {kk : Nat} {tpos : Pos} (a e it : Addr) :
    Turn P w K (.Tuple elts kk tpos) (IteT K a) [e, it] e (fun i h => (∃ old, IsEnum h e it ((i : Nat) : Int) old) ∧ h.IsTupleIter it a i ∧ e ≠ it) where
  mem := .head _
  obj := fun i h ⟨⟨old, he⟩, ⟨o, ho, _, hd⟩, _⟩ b hb => by
    rcases List.mem_cons.mp hb with rfl | hb
    · exact ⟨_, he, fun v q => nomatch q⟩
    · cases List.mem_singleton.mp hb
      exact ⟨o, ho, fun v q => by rw [hd] at q; cases q⟩
  keep := fun i h h' ⟨⟨old, he⟩, hi, hne⟩ k => ⟨⟨old, k e (.head _) _ he⟩, hi.at fun o q => k it (.tail _ (.head _)) o q, hne⟩
  item := by
    intro X hP hw hK hc i pins s σ H E I hf ⟨⟨old, he⟩, hit, hne⟩ ⟨xs, x, hq, hx⟩
    subst hP hw hK
    obtain ⟨its, rv, p, hz⟩ := I.tuple hq
    have isT : s.heap.IsTuple a its.toArray := p
    obtain ⟨u, hu, ru⟩ := rv.get hx
    have el : e < s.heap.objs.size := Heap.lt_size he
    have il : it < s.heap.objs.size := let ⟨_, q, _⟩ := hit; Heap.lt_size q
    have a_it : a ≠ it := fun z => by
      obtain ⟨o1, e1, c1, _⟩ := isT
      obtain ⟨o2, e2, c2, _⟩ := hit
      rw [z, e2] at e1
      cases e1
      rw [c1] at c2
      exact absurd (Value.type.inj c2) (by decide)
    have a_e : e ≠ a := fun z => by
      obtain ⟨o1, e1, c1, _⟩ := isT
      have e2 : s.heap.get? e = some _ := he
      rw [z, e1] at e2
      cases e2
      exact absurd (Value.type.inj c1) (by decide)
    have hh := I.ok.hd hc
    have hi : i < its.toArray.size := by
      rw [List.size_toArray]
      exact (List.getElem?_eq_some_iff.mp hu).1
    refine wpAny_pyNext_enum_itemD (Draws.tuple (A := X.A.in1) hh it a a_it its.toArray) he ⟨hit, isT⟩ hi hne (fun z => ?_) fun y h' tk hy ho st' hT hsz hk => ?_
    · rcases List.mem_cons.mp z with z | z
      · exact hne z
      · exact a_e (List.mem_singleton.mp z)
    · have ey : y = u := by
        have z : its.toArray[i]? = some y := hy
        rw [List.getElem?_toArray, hu] at z
        exact (Option.some.inj z).symm
      subst ey
      refine ⟨_, rfl, wpAny_letOwnedTupleGo_enum (s := { s with heap := h', toks := tk + 1 }) ho fun h'' he' sb => ?_⟩
      have hT2 : h''.get? s.heap.objs.size = some { cls := .type "tuple", data := .seq #[.int i tk, y] } := (sb.2 _ (Nat.ne_of_gt el)).trans hT
      have I1 : L2.Inv X pins σ (upd H s.heap.objs.size (.tup [.int (i : Nat), x])) { s with heap := h'', toks := tk + 1 } := by
        refine I.turnedNew (ch := [e, it]) (fun b ob hb q => ?_) hf (Nat.le_refl _) ⟨by show 2 ≤ sizeLine; decide, [.int i tk, y], .cons ⟨_, rfl⟩ (.cons ru .nil), ⟨_, hT2, rfl, _, rfl⟩⟩
        have n1 : b ≠ e := fun z => hb (by rw [z]; exact .head _)
        have n2 : b ≠ it := fun z => hb (by rw [z]; exact .tail _ (.head _))
        exact (sb.2 b n1).trans (hk b ob n1 n2 q)
      refine ⟨.ref s.heap.objs.size, _, I1, rfl, ⟨_, x, rfl, I.hok.fresh (Nat.le_refl _), rfl, fun ys hy => by rw [I.tuple_inj hy hq]; exact hx⟩, ⟨⟨y, ?_⟩, st'.1.at fun o q => (sb.2 it hne.symm).trans q, hne⟩, fun b hb => ?_⟩
      · rw [show ((i + 1 : Nat) : Int) = (i : Int) + 1 by omega]
        exact he'
      · have hb' : b < s.heap.objs.size := by
          rcases List.mem_cons.mp hb with z | z
          · rw [z]
            exact el
          · rw [List.mem_singleton.mp z]
            exact il
        rw [upd_ne (Nat.ne_of_lt hb')]
        exact (hf b hb).1
  done := by
    intro X hP hw hK hc i pins s σ H E I hf ⟨⟨old, he⟩, hit, hne⟩ ⟨xs, hq, hx⟩
    subst hP hw hK
    obtain ⟨its, rv, p, hz⟩ := I.tuple hq
    have isT : s.heap.IsTuple a its.toArray := p
    have hh := I.ok.hd hc
    have lenI := rv.length
    have a_it : a ≠ it := fun z => by
      obtain ⟨o1, e1, c1, _⟩ := isT
      obtain ⟨o2, e2, c2, _⟩ := hit
      rw [z, e2] at e1
      cases e1
      rw [c1] at c2
      exact absurd (Value.type.inj c2) (by decide)
    have ei : its.toArray.size = i := by
      rw [List.size_toArray, ← lenI]
      exact hx
    obtain ⟨f0, f1, _, f3, f4, f5⟩ := hf it (.tail _ (.head _))
    refine wpAny_pyNext_enum_endD (Draws.tuple (A := X.A.in1) hh it a a_it its.toArray) he ⟨by rw [ei]; exact hit, isT⟩ fun h' eb => ⟨rfl, I.turned (t' := s.toks) (fun b o hb q => eb b o hb q) f0 f1 f3 f4 f5⟩
  self := fun A i s Q E ⟨⟨_, he⟩, _⟩ h => wpAny_pyIter_enum he h
def iEnumT (K : PySem.W.Frag) (ta : TA) : TI := fun σ H R => ta σ H fun vs H1 => ∃ a xs, vs = [.ref a] ∧ SqT K H1 a xs ∧ R (IteT K a) H1
theorem pi_enumT {X : Cx} {e : Expr} {ta : TA} {p pos tpos : Pos} {elts : List Expr} {kk : Nat} (hg : Gl X "enumerate") (hm : X.mg "enumerate" = none) (ha : PA X [e] ta) (hs : starEach [e] X.env = [(false, eval e X.env)] := by rfl) :
    PI X (.Tuple elts kk tpos) (.Call (.Name "enumerate" p) [e] [] pos) (iEnumT X.K ta) := by
  refine ⟨fun pins s σ H R I h => Call_ (ld_blt I hg hm boot_enumerate (PyProof.Rows.callWith_type1 (thn (ha.run pos pins s σ H _ I h) fun us s1 ⟨vs, H1, I1, r1, q1⟩ => ?_) hs rfl))⟩
  obtain ⟨a, xs, rfl, hq, q⟩ := q1
  rw [Vals.ref1 r1]
  obtain ⟨its, rv, p', hz⟩ := I1.tuple hq
  refine call_enumT (show s1.heap.IsTuple a its.toArray from p') fun h' he hit hk => wpAny_pyIter_enum he ?_
  refine ⟨s1.heap.objs.size + 1, [s1.heap.objs.size + 1, s1.heap.objs.size], _, _, H1, rfl, I1.kept (t' := s1.toks) hk, turn_enumT a (s1.heap.objs.size + 1) s1.heap.objs.size, ⟨⟨.none, he⟩, hit, Nat.succ_ne_self _⟩, fun b hb => ?_, q⟩
  have le : s1.heap.objs.size ≤ b := by
    rcases List.mem_cons.mp hb with z | z
    · rw [z]
      exact Nat.le_succ _
    · rw [List.mem_singleton.mp z]
      exact Nat.le_refl _
  exact I1.fpOk le (I1.hok.fresh le)
/-- the loop over enumerate(t): the pair is a new tuple at each turn -/
theorem for_enumT {K : PySem.W.Frag} {a : Addr} {xs : List V} {g : TG} {tb : TS} {D : Ends} {σ : L2.St} {H : Hp} (Pv : Nat → L2.St → Hp → Prop) (h0 : Pv 0 σ H) (hl : ∀ i σ H, i ≤ xs.length → Pv i σ H → SqT K H a xs)
    (hs : ∀ i x σ H T, xs[i]? = some x → Pv i σ H → H T = none → g (.ref T) σ (upd H T (.tup [.int (i : Nat), x])) fun σ2 H2 => tb { D with nx := Pv (i + 1), ct := Pv (i + 1), bk := D.nx } σ2 H2) (hd : ∀ σ H, Pv xs.length σ H → D.nx σ H) :
    ∃ W : Nat → Nat → L2.St → Hp → Prop, (∃ m, W 0 m σ H) ∧ ∀ i m σ H, W i m σ H →
      ((IteT K a).stop i H ∧ D.nx σ H) ∨ ((IteT K a).go i H ∧ ∃ N : L2.St → Hp → Prop, (∀ σ' H', N σ' H' → ∃ m', m' < m ∧ W (i + 1) m' σ' H') ∧ ∀ x H', (IteT K a).yld i H x H' → g x σ H' fun σ2 H2 => tb { D with nx := N, ct := N, bk := D.nx } σ2 H2) := by
  refine ⟨fun i m σ H => m = xs.length - i ∧ i ≤ xs.length ∧ Pv i σ H, ⟨_, rfl, Nat.zero_le _, h0⟩, ?_⟩
  rintro i m σ H ⟨rfl, hi, p⟩
  have sq := hl i σ H hi p
  by_cases hlt : i < xs.length
  · refine .inr ⟨⟨xs, xs[i], sq, List.getElem?_eq_getElem hlt⟩, Pv (i + 1), fun σ' H' p' => ⟨_, by omega, rfl, hlt, p'⟩, ?_⟩
    rintro x H' ⟨T, y, rfl, hT, rfl, hy⟩
    exact hs i y σ H T (hy xs sq) p hT
  · have e : i = xs.length := by omega
    subst e
    exact .inl ⟨⟨xs, sq, rfl⟩, hd σ H p⟩
end Lb

set_option Elab.async false
set_option linter.all false
set_option maxRecDepth 100000
set_option maxHeartbeats 2000000
namespace Lb
open PySem PySem.Spec PyProof.Rows L2

section
variable {X : Cx}
/-! max of one list or tuple of whole numbers -/
theorem reads_ints {h : Heap} : ∀ (ns : List Int) (its : List Value), Vals (ns.map V.int) its → ∃ as, ReadsAll h its (ns.map PyData.int) as
  | [], its, r => by
    cases r
    exact ⟨_, .nil⟩
  | n :: ns, its, r => by
    cases r with
    | cons r1 r2 =>
      obtain ⟨t, rfl⟩ := r1
      obtain ⟨as, q⟩ := reads_ints ns _ r2
      exact ⟨_, .cons (.int n t) q⟩
theorem depth_ints : ∀ ns : List Int, PyData.depthAll (ns.map PyData.int) = 0
  | [] => by
    show PyData.depthAll [] = 0
    rw [PyData.depthAll]
  | n :: ns => by
    show PyData.depthAll (PyData.int n :: ns.map PyData.int) = 0
    rw [PyData.depthAll, depth_ints ns, PyData.depth]
    rfl
theorem alike_ints (ns : List Int) : PySem.W.AlikeAll (ns.map PyData.int) := by
  refine ⟨fun x hx y hy => ?_, fun x hx => ?_⟩
  · obtain ⟨i, _, rfl⟩ := List.mem_map.mp hx
    obtain ⟨j, _, rfl⟩ := List.mem_map.mp hy
    rfl
  · obtain ⟨i, _, rfl⟩ := List.mem_map.mp hx
    exact fun z => nomatch z
def rMaxS (K : PySem.W.Frag) : List V → Hp → VK → Prop := fun xs H Q => ∃ (a : Addr) (n : Int) (ns : List Int), xs = [.ref a] ∧ SeqLT K H a ((n :: ns).map V.int) ∧ Q (.int (ns.foldl max n)) H
theorem cr_maxS (hc : X.calm = true) (hu : X.A.units + 1 < cLine) : CallR X (.builtin "max") (rMaxS X.K) := by
  intro pins s σ H xs us Q I r h
  obtain ⟨a, n, ns, rfl, hq, q⟩ := h
  rw [Vals.ref1 r]
  have room : X.A.units + 1 + PyData.depthAll (PyData.int n :: ns.map PyData.int) < cLine := by
    have e := depth_ints (n :: ns)
    rw [List.map_cons] at e
    rw [e]
    exact hu
  have fin : ∀ (v : Value) (h' : Heap) (tk : Nat) (bs : List Addr), Reads h' v (PySem.W.maxD (.int n) (ns.map PyData.int)) bs → (∀ b o, s.heap.get? b = some o → h'.get? b = some o) → EP X pins σ Q v { s with heap := h', toks := tk } := fun v h' tk bs rd hk => by
    rw [PySem.W.maxD_ints] at rd
    cases rd
    exact ⟨.int _, H, I.kept hk, ⟨_, rfl⟩, q⟩
  rcases hq with hq | hq
  · obtain ⟨its, rv, pl, hz⟩ := I.list hq
    obtain ⟨as, rd⟩ := reads_ints (h := s.heap) (n :: ns) its rv
    exact PySem.W.max_list_data (I.ok.hd hc) pl.isList (by simpa using rd) (alike_ints (n :: ns)) room fun i v h' tk bs _ r hk => fin v h' tk bs r hk
  · obtain ⟨its, rv, pl, hz⟩ := I.tuple hq
    obtain ⟨as, rd⟩ := reads_ints (h := s.heap) (n :: ns) its rv
    exact PySem.W.max_tuple_data (I.ok.hd hc) (show s.heap.IsTuple a its.toArray from pl) (by simpa using rd) (alike_ints (n :: ns)) room fun i v h' tk bs _ r hk => fin v h' tk bs r hk

/-! two tuples that are not empty: the new one is known as it is -/
def rCatF (K : PySem.W.Frag) : R2 := fun x y H Q => ∃ a b xs ys, x = .ref a ∧ y = .ref b ∧ SqT K H a xs ∧ SqT K H b ys ∧ xs ≠ [] ∧ ys ≠ [] ∧ xs.length + ys.length ≤ sizeLine ∧ ∀ (p : Addr) (o : Obj), o.dict = none → H p = none → Q (.ref p) (upd H p (.frz o (.tup (xs ++ ys))))
theorem op_catF : OpR X (binaryOp .Add) (rCatF X.K) := by
  intro pins s σ H x y v u Q I rx ry h
  obtain ⟨a, b, xs, ys, rfl, rfl, ha, hb, nx, ny, hz, q⟩ := h
  cases rx
  cases ry
  obtain ⟨its, r1, p1, _⟩ := I.tuple ha
  obtain ⟨its2, r2, p2, _⟩ := I.tuple hb
  refine HT.cat_tup p1 p2 (fun z => nx (r1.nil_iff.mp z)) (fun z => absurd (r2.nil_iff.mp z) ny) (fun _ => ?_) (by rw [← r1.length, ← r2.length]; exact hz)
  exact ⟨.ref s.heap.objs.size, _, inv_frz I (fun b o e => e) (by rw [List.length_append]; exact hz) (r1.append r2) s.toks, rfl, q _ _ rfl (I.hok.fresh (Nat.le_refl _))⟩

/-! a part of a list or a tuple -/
def rCut (K : PySem.W.Frag) : V → Option Int → Option Int → Hp → VK → Prop := fun x lo hi H Q => ∃ (a : Addr) (xs : List V), x = .ref a ∧ SeqLT K H a xs ∧
  (∀ H' p, (H' = H ∧ cutV xs lo hi = xs ∧ p = a) ∨ (H p = none ∧ (H' = upd H p (.lst (cutV xs lo hi)) ∨ H' = upd H p (.tup (cutV xs lo hi)))) → SeqLT K H' p (cutV xs lo hi) → Q (.ref p) H')
theorem sl_cut : SlR X (rCut X.K) := by
  intro pins s σ H x v vl vu lo hi sl Q I rx hs pl pu h
  obtain ⟨a, xs, rfl, hq, q⟩ := h
  rcases hq with hq | hq
  · exact sl_list pins s σ H _ v vl vu lo hi sl Q I rx hs pl pu ⟨a, xs, rfl, hq, fun p hp => q _ p (.inr ⟨hp, .inl rfl⟩) (.inl (.inl (.inl upd_same)))⟩
  · refine sl_tupA pins s σ H _ v vl vu lo hi sl Q I rx hs pl pu ⟨a, xs, rfl, hq, fun e => ?_, fun _ p hp => q _ p (.inr ⟨hp, .inr rfl⟩) (.inr (.inl (.inl upd_same)))⟩
    have z : cutV xs lo hi = xs := by
      unfold cutV
      rw [e.1, e.2, List.drop_zero, Nat.sub_zero, List.take_length]
    exact q _ _ (.inl ⟨rfl, z, rfl⟩) (by rw [z]; exact .inr hq)
end
theorem Go.cut {T a p : Addr} {H H' : Hp} {xs zs : List V} (t : GxR.TabG H T) (h : (H' = H ∧ zs = xs ∧ p = a) ∨ (H p = none ∧ (H' = upd H p (.lst zs) ∨ H' = upd H p (.tup zs)))) : Go T H H' := by
  rcases h with ⟨rfl, _⟩ | ⟨hp, rfl | rfl⟩
  · exact Go.refl t
  · exact Go.new t hp
  · exact Go.new t hp

/-! == of lists of whole numbers -/
theorem eqv_ints : ∀ a b : List Int, PyData.eqvAll (a.map PyData.int) (b.map PyData.int) = decide (a = b)
  | [], [] => by
    rw [List.map_nil, PyData.eqvAll]
    rfl
  | [], y :: b => by
    rw [List.map_nil, List.map_cons, PyData.eqvAll]
    · rfl
    all_goals exact fun _ => (nomatch ·)
  | x :: a, [] => by
    rw [List.map_nil, List.map_cons, PyData.eqvAll]
    · rfl
    all_goals exact fun _ => (nomatch ·)
  | x :: a, y :: b => by
    rw [List.map_cons, List.map_cons, PyData.eqvAll, eqv_ints a b, Bool.eq_iff_iff, Bool.and_eq_true, decide_eq_true_iff, decide_eq_true_iff]
    have e : PyData.eqv (.int x) (.int y) = true ↔ x = y := by
      rw [PyData.eqv]
      simp
    rw [e]
    constructor
    · rintro ⟨rfl, rfl⟩
      rfl
    · intro z
      cases z
      exact ⟨rfl, rfl⟩
theorem cast_eq {a b : List Nat} : (a.map fun k : Nat => (k : Int)) = b.map (fun k : Nat => (k : Int)) ↔ a = b := List.map_inj_right fun x y e => Int.ofNat.inj e
end Lb

set_option Elab.async false
set_option linter.all false
set_option maxRecDepth 100000
set_option maxHeartbeats 4000000
namespace Lb
open PySem PySem.Spec PyProof.Rows L2

abbrev s_code : Stmt := topS 14
abbrev s_falls : Stmt := topS 17
abbrev s_blocks : Stmt := topS 18
abbrev s_beside : Stmt := topS 19
theorem sc_code : FnScope ["order", "pairs", "place", "i", "j"] ["order"] (defScope s_code) := ⟨rfl, rfl, rfl, by decide +kernel, rfl, by decide +kernel, by decide +kernel⟩
theorem sc_falls : FnScope ["order", "place"] ["order"] (defScope s_falls) := ⟨rfl, rfl, rfl, by decide +kernel, rfl, by decide +kernel, by decide +kernel⟩
theorem sc_blocks : FnScope ["order", "size", "cuts", "many", "low", "high", "thing"] ["order"] (defScope s_blocks) := ⟨rfl, rfl, rfl, by decide +kernel, rfl, by decide +kernel, by decide +kernel⟩
theorem sc_beside : FnScope ["order", "other", "thing"] ["order", "other"] (defScope s_beside) := ⟨rfl, rfl, rfl, by decide +kernel, rfl, by decide +kernel, by decide +kernel⟩
/-- the scope of the comprehension that the i-th statement returns -/
def retE (l : List Stmt) (i : Nat) : Expr := match l[i]? with
  | some (.Return (some e) _) => e
  | _ => .Name "" ⟨0, 0, 0, 0⟩
def compSc : Expr → Scope
  | .ListComp _ _ sc _ => sc
  | .Call _ (.ListComp _ _ sc _ :: _) _ _ => sc
  | _ => ⟨.function, [], false, false, []⟩

theorem Paired.getL {α β : Type} {R : α → β → Prop} : ∀ {l : List α} {m : List β} {j : Nat} {x : α}, Paired R l m → l[j]? = some x → ∃ y, m[j]? = some y ∧ R x y
  | _, _, 0, _, .cons r _, e => ⟨_, rfl, by cases e; exact r⟩
  | _, _, j + 1, _, .cons _ t, e => Paired.getL (j := j) t (by simpa using e)
def OrdsAt (H : Hp) (ts : List Addr) (bs : List (List Nat)) : Prop := Paired (fun t b => OrdK true H t (vl b)) ts bs
theorem OrdsAt.keep {H H' : Hp} {ts : List Addr} {bs : List (List Nat)} (h : OrdsAt H ts bs) (k : ∀ a x, OrdK true H a (vl x) → OrdK true H' a (vl x)) : OrdsAt H' ts bs := Paired.mapP h fun _ _ e => k _ _ e
theorem Go.put {T l : Addr} {H0 H : Hp} {o : HO} (g : Go T H0 H) (n : H0 l = none) (t : GxR.TabG H0 T) : Go T H0 (upd H l o) := by
  have lT := tab_ne t n
  refine ⟨?_, fun b u n1 e => by rw [upd_ne (ne_of_none e n)]; exact g.2 b u n1 e⟩
  obtain ⟨ps, e, h⟩ := g.1
  exact ⟨ps, by rw [upd_ne lT.symm]; exact e, h⟩
theorem Go.lst {T a : Addr} {H H' : Hp} {xs : List V} (g : Go T H H') (t : GxR.TabG H T) (e : H a = some (.lst xs)) : H' a = some (.lst xs) := g.2 a _ (ne_tab t e fun _ z => by cases z) e
theorem ord_upd {H : Hp} {l b : Addr} {x : List Nat} {u : HO} {ys : List V} (e : H l = some (.lst ys)) (h : OrdK true H b (vl x)) : OrdK true (upd H l u) b (vl x) := by
  obtain ⟨ob, od, e2⟩ := h
  exact ⟨ob, od, by rw [upd_ne (ne_of e2 e fun z => by cases z)]; exact e2⟩
theorem PairsAt.go {T : Addr} {H H' : Hp} {ts : List Addr} {ps : List (Nat × Nat)} (h : PairsAt H ts ps) (t : GxR.TabG H T) (g : Go T H H') : PairsAt H' ts ps := h.keep fun b xs e => g.2 b _ (ne_tab t e fun _ z => by cases z) e
theorem cnt_step {ps : List (Nat × Nat)} {j : Nat} {q : Nat × Nat} (h : ps[j]? = some q) (p : Nat) : cnt (ps.take (j + 1)) p = cnt (ps.take j) p + (if q.1 == p then 1 else 0) := by
  unfold cnt
  rw [take_snoc h, List.filter_append, List.length_append]
  congr 1
  rw [List.filter_cons, List.filter_nil]
  split <;> rfl
theorem cnt_le (ps : List (Nat × Nat)) (p : Nat) : cnt ps p ≤ ps.length := List.length_filter_le _ _
theorem lev_le {o : List Nat} (h : o.length ≤ 9) : (wps o).length ≤ 90 := by
  have := wpTo_le (o := o) (i := o.length) (j := 0) h h (by omega)
  rw [wpTo_end] at this
  exact this
theorem cut_v (o : List Nat) (lo hi : Nat) (h1 : lo ≤ o.length) (h2 : hi ≤ o.length) : cutV (vl o) (some (lo : Int)) (some (hi : Int)) = vl ((o.drop lo).take (hi - lo)) := by
  unfold cutV
  rw [HT.sIx_nat, HT.sIx_nat, vl_len, Nat.min_eq_left h1, Nat.min_eq_left h2]
  unfold vl
  rw [← List.map_drop, ← List.map_drop, ← List.map_take, ← List.map_take]
theorem cut_to (o : List Nat) (hi : Nat) (h2 : hi ≤ o.length) : cutV (vl o) none (some (hi : Int)) = vl (o.take hi) := by
  unfold cutV
  rw [HT.sIx_nat, HT.sIx_none, vl_len, Nat.min_eq_left h2, List.drop_zero, Nat.sub_zero]
  unfold vl
  rw [← List.map_take, ← List.map_take]
theorem max_cast : ∀ (r : List Nat) (x : Nat), (r.map fun k : Nat => (k : Int)).foldl max (x : Int) = ((r.foldl max x : Nat) : Int)
  | [], x => rfl
  | y :: r, x => by
    rw [List.map_cons, List.foldl_cons, List.foldl_cons, show max (x : Int) (y : Int) = ((max x y : Nat) : Int) by omega, max_cast r]
theorem SeqLT.sqB {K : PySem.W.Frag} {H : Hp} {a : Addr} {xs : List V} (h : SeqLT K H a xs) : ∃ b, SqB K b H a xs := by
  rcases h with h | h
  · exact ⟨false, h⟩
  · exact ⟨true, h⟩

section
variable {P : Program} {w : World} {K : PySem.W.Frag} {mg : Str → Option Value} {base : Heap} {T c fO fI : Addr} {fdO fdI : FuncData}

/-- the outcome: a new list of these whole numbers -/
def OutL (T : Addr) (H : Hp) (Q : VK) (o : List Nat) : Prop := ∀ H' p, Go T H H' → H p = none → H' p = some (.lst (vl o)) → Q (.ref p) H'
/-- the outcome: a new list of orders, each a tuple -/
def OutB (T : Addr) (H : Hp) (Q : VK) (bs : List (List Nat)) : Prop := ∀ H' p ts, Go T H H' → H p = none → H' p = some (.lst (ts.map V.ref)) → OrdsAt H' ts bs → Q (.ref p) H'
def spNum (K : PySem.W.Frag) (T : Addr) (g : List Nat → List Nat) : Sp := fun vs H Q _ => ∃ (a : Addr) (o : List Nat), vs = [.ref a] ∧ SeqLT K H a (vl o) ∧ IsOrd o ∧ GxR.TabG H T ∧ OutL T H Q (g o)
theorem ok_falls {f fC : Addr} {fd fdC : FuncData} (F : Fun K "falls" "falls" s_falls f fd) (C : Cd K mg fC fdC) (O : Io K mg base T c fO fI fdO fdI) : FnOk P w K mg base CX0 4 f fd ["order"] (spNum K T fls) := by
  have G : FnOk P w K mg base CX0 3 fC fdC ["order"] (spChk K T) := ok_check_order C.fn O
  refine F.ok sc_falls (fun vs H Q E h => ?_) (fun cdv A outer s H vs Q E hr h => ?_)
  · obtain ⟨a, o, rfl, _⟩ := h
    rfl
  · obtain ⟨a, o, rfl, ha, ho, ht, q⟩ := h
    refine ⟨_, pss_cons (ps_expr (pe_call G hr (by rfl) C.at_ C.fn.kp C.bind .nil pass0 (pa_cons (pv 0) pa_nil)))
      (pss_one (ps_ret (pe_lc (own := [("place", 1)]) (g := gName 1) (by rfl) sc_falls.nd (pi_range1 (by rfl) O.B.range (pa_cons (pe_op op_sub (pe_callB call_len (by rfl) O.B.len PySem.boot_len (pa_cons (pv 0) pa_nil)) pe_int) pa_nil))
          (blkOk_by (own := [("place", 1)]) (N := ["order", "place"]) (sc := defScope s_falls) (by decide +kernel)) (fun _ _ _ _ _ => pg_name (i := 1) sc_falls.nd rfl (Or.inl rfl))
          (fun _ _ _ _ _ => pts_one (pt_cmpR op_gt (pe_ix (show IxR _ (rIx K) from ix_seq) (pv 0) (pv 1) (fun _ _ => rfl)) (pe_ix (show IxR _ (rIx K) from ix_seq) (pv 0) (pe_op op_add (pv 1) pe_int) (fun _ _ => rfl)) (nomark _)))
          (fun _ _ _ _ _ => pv 1)))), ?_⟩
    refine ⟨.ref a, rfl, a, o, rfl, ha, ho, ht, fun H1 g1 => ?_⟩
    have l1 := lenV_seq (K := K) (g1.lt ht ha)
    rw [vl_len] at l1
    have b9 := ho.hi
    have b1 := ho.lo
    refine ⟨.ref a, rfl, .ref a, _, rfl, l1, _, 1, rfl, rfl, (o.length : Int) - 1, rfl, by omega, by omega, fun D hD => ?_⟩
    refine lc_range (lo := 0) (n := ((o.length : Int) - 1).toNat) (fun i H2 => Made T H1 D ((List.range i).filter fun p => decide (o.getD p 0 > o.getD (p + 1) 0)) H2) (Made.start g1.1 hD) (fun i H2 hi m => ?_) (fun H2 m => ?_)
    · have hi' : i + 1 < o.length := by omega
      have gd := m.go hD
      have a2 := gd.lt g1.1 (g1.lt ht ha)
      refine ⟨rfl, .ref a, rfl, .int (0 + (i : Int)), rfl, ix_at a2 (i := i) (by omega) (by omega) ⟨.ref a, rfl, .int (0 + (i : Int)), rfl, _, 1, rfl, rfl, ix_at a2 (i := i + 1) hi' (by omega) ⟨_, _, rfl, rfl, _, rfl, ?_⟩⟩⟩
      have e0 : (List.range (i + 1)).filter (fun p => decide (o.getD p 0 > o.getD (p + 1) 0)) = (List.range i).filter (fun p => decide (o.getD p 0 > o.getD (p + 1) 0)) ++ (if o.getD i 0 > o.getD (i + 1) 0 then [i] else []) := by
        rw [List.range_succ, List.filter_append]
        congr 1
        by_cases h : o.getD i 0 > o.getD (i + 1) 0
        · rw [if_pos h, List.filter_cons_of_pos (by exact decide_eq_true h)]
          rfl
        · rw [if_neg h, List.filter_cons_of_neg (by rw [decide_eq_false h]; exact Bool.false_ne_true)]
          rfl
      have ll : ((List.range i).filter fun p => decide (o.getD p 0 > o.getD (p + 1) 0)).length ≤ i := Nat.le_trans (List.length_filter_le _ _) (by rw [List.length_range]; exact Nat.le_refl _)
      by_cases hgt : o.getD i 0 > o.getD (i + 1) 0
      · rw [decide_eq_true (show ((o.getD (i + 1) 0 : Nat) : Int) < ((o.getD i 0 : Nat) : Int) by omega)]
        have more := m.more (k := i) hD g1.1 (Go.refl m.1)
        refine iteT ⟨.int (0 + (i : Int)), rfl, _, more.1, by rw [vl_len]; exact small9 (by omega), ?_⟩
        rw [Int.zero_add, e0, if_pos hgt]
        exact more.2
      · rw [decide_eq_false (show ¬ ((o.getD (i + 1) 0 : Nat) : Int) < ((o.getD i 0 : Nat) : Int) by omega)]
        refine iteF ?_
        show Made T H1 D ((List.range (i + 1)).filter _) H2
        rw [e0, if_neg hgt, List.append_nil]
        exact m
    · have g2 := g1.trans (m.go hD)
      refine q H2 D g2 (g1.free hD) ?_
      have e := m.2.2
      rw [show ((o.length : Int) - 1).toNat = o.length - 1 by omega] at e
      exact e

theorem ok_code {f fW fC : Addr} {fd fdW fdC : FuncData} (F : Fun K "code" "code" s_code f fd) (W : Wd K mg fW fdW) (C : Cd K mg fC fdC) (O : Io K mg base T c fO fI fdO fdI) : FnOk P w K mg base CX0 5 f fd ["order"] (spNum K T cod) := by
  have G : FnOk P w K mg base CX0 4 fW fdW ["order"] (spWps K T) := ok_wrong_pairs W.fn C O
  refine F.ok sc_code (fun vs H Q E h => ?_) (fun cdv A outer s H vs Q E hr h => ?_)
  · obtain ⟨a, o, rfl, _⟩ := h
    rfl
  · obtain ⟨a, o, rfl, ha, ho, ht, q⟩ := h
    refine ⟨_, pss_cons (ps_set (i := 1) sc_code.nd rfl (Or.inr rfl) (pe_call G hr (by rfl) W.at_ W.fn.kp W.bind .nil pass0 (pa_cons (pv 0) pa_nil)))
      (pss_one (ps_ret (pe_lc (own := [("place", 2)]) (g := gName 2) (tt := tYes) (by rfl) sc_code.nd (pi_range1 (by rfl) O.B.range (pa_cons (pe_callB call_len (by rfl) O.B.len PySem.boot_len (pa_cons (pv 0) pa_nil)) pa_nil))
          (blkOk_by (own := [("place", 2)]) (N := ["order", "pairs", "place", "i", "j"]) (sc := defScope s_code) (by decide +kernel)) (fun _ _ _ _ _ => pg_name (i := 2) sc_code.nd rfl (Or.inr rfl)) (fun _ _ _ _ _ => pts_nil)
          (fun _ _ _ _ _ => pe_callB (show CallR _ _ (rLen K) from lenK) (by rfl) O.B.len PySem.boot_len (pa_cons (pe_lc (own := [("i", 3), ("j", 4)]) (by rfl) sc_code.nd (show PI _ _ _ (iSeq K (tVar 1)) from pi_seq (pv 1))
            (blkOk_by (by rfl))
            (fun _ _ _ _ _ => (show PG _ _ (gTup K 2 (gCons (gName 3) (gCons (gName 4) gNil))) from pg_tup rfl (pgs_cons (pg_name (i := 3) sc_code.nd rfl (Or.inl rfl)) (pgs_cons (pg_name (i := 4) sc_code.nd rfl (Or.inl rfl)) pgs_nil))))
            (fun _ _ _ _ _ => pts_one (pt_cmpR op_eq (pv 3) (pv 2) (nomark _))) (fun _ _ _ _ _ => pv 4)) pa_nil))))), ?_⟩
    refine ⟨.ref a, rfl, a, o, rfl, ha, ho, ht, fun H1 p ts g1 hp e1 e2 => ?_⟩
    have l1 := lenV_seq (K := K) (g1.lt ht ha)
    rw [vl_len] at l1
    have b9 := ho.hi
    refine ⟨.ref a, rfl, .ref a, _, rfl, l1, (o.length : Int), rfl, by omega, by omega, fun D hD => ?_⟩
    refine lc_range (lo := 0) (n := ((o.length : Int)).toNat) (fun i H2 => Made T H1 D ((cod o).take i) H2) (Made.start g1.1 hD) (fun i H2 hi m => ?_) (fun H2 m => ?_)
    · have hi' : i < o.length := by omega
      have gd := m.go hD
      have ep := gd.lst g1.1 e1
      have pa := e2.go g1.1 gd
      have lp := Paired.length e2
      refine ⟨rfl, .ref p, rfl, false, p, rfl, ⟨_, SqL.of ep⟩, fun D2 hD2 => ?_⟩
      refine lc_seq (b := false) (xs := ts.map V.ref) (fun j H3 => Go T H2 H3 ∧ ∃ us : List V, H3 D2 = some (.lst us) ∧ us.length = cnt ((wps o).take j) i) ⟨Go.new m.1 hD2, [], upd_same, rfl⟩ (fun j H3 _ z => SqL.of (z.1.lst m.1 ep)) (fun j x H3 hx z => ?_) (fun H3 z => ?_)
      · obtain ⟨g3, us, eD, eu⟩ := z
        rw [List.getElem?_map] at hx
        obtain ⟨t, htj, rfl⟩ := Option.map_eq_some_iff.mp hx
        obtain ⟨pq, hpq, et⟩ := Paired.getL (pa.go m.1 g3) htj
        refine ⟨t, _, rfl, SqT.of et, rfl, _, _, rfl, _, _, rfl, rfl, rfl, .int (pq.1 : Int), rfl, .int (0 + (i : Int)), rfl, rfl, _, rfl, ?_⟩
        have cl := cnt_le ((wps o).take j) i
        have lt := lev_le (o := o) b9
        rw [List.length_take] at cl
        have st := cnt_step hpq i
        by_cases hq : pq.1 = i
        · rw [decide_eq_true (show V.int (pq.1 : Int) = V.int (0 + (i : Int)) by rw [hq, Int.zero_add])]
          refine iteT ⟨.int (pq.2 : Int), rfl, us, eD, by rw [eu]; exact small9 (by omega), g3.put hD2 m.1, _, upd_same, ?_⟩
          rw [List.length_append, eu, st, hq, beq_self_eq_true]
          rfl
        · rw [decide_eq_false (show ¬ V.int (pq.1 : Int) = V.int (0 + (i : Int)) from fun z => hq (by have := V.int.inj z; omega))]
          refine iteF ⟨g3, us, eD, ?_⟩
          rw [eu, st, beq_eq_false_iff_ne.mpr hq]
          rfl
      · obtain ⟨g3, us, eD, eu⟩ := z
        refine ⟨.ref D2, us.length, rfl, .inl ⟨us, SqL.of eD, rfl⟩, ?_⟩
        rw [List.length_map, lp, List.take_length] at eu
        have more := m.more (k := cnt (wps o) i) hD g1.1 g3
        refine ⟨_, more.1, by rw [vl_len, List.length_take]; exact small9 (by omega), ?_⟩
        rw [eu]
        have at_ : (cod o)[i]? = some (cnt (wps o) i) := by
          unfold cod
          rw [List.getElem?_map, List.getElem?_range hi']
          rfl
        rw [take_snoc at_]
        exact more.2
    · have e : (cod o).take ((o.length : Int)).toNat = cod o := List.take_of_length_le (by rw [len_cod]; omega)
      rw [e] at m
      exact q H2 D (g1.trans (m.go hD)) (g1.free hD) m.2.2
end
end Lb

set_option Elab.async false
set_option linter.all false
set_option maxRecDepth 100000
set_option maxHeartbeats 4000000
namespace Lb
open PySem PySem.Spec PyProof.Rows L2

theorem zip_at {α β : Type} {a b : List α} {i : Nat} {x y : α} : a[i]? = some x → b[i]? = some y → (List.zip a b)[i]? = some (x, y) := fun h1 h2 => by
  rw [List.getElem?_zip_eq_some]
  exact ⟨h1, h2⟩
theorem seg_len : ∀ (l : List Nat) (b : Nat), (seg b l).length = l.length
  | [], _ => rfl
  | c :: r, b => by
    show (seg c r).length + 1 = r.length + 1
    rw [seg_len r c]
theorem cuts_len (o : List Nat) : (cuts o).length ≤ o.length := Nat.le_trans (List.length_filter_le _ _) (by rw [List.length_range']; exact Nat.le_refl _)
theorem blk_len (o : List Nat) : (blk o).length = (cuts o).length := by
  unfold blk
  rw [List.length_map, seg_len]
theorem vl_inv {l : List Nat} {i : Nat} {v : V} (h : (vl l)[i]? = some v) : ∃ k, l[i]? = some k ∧ v = .int (k : Int) := by
  have hi : i < l.length := by
    have z := (List.getElem?_eq_some_iff.mp h).1
    rw [vl_len] at z
    exact z
  exact ⟨l.getD i 0, getD_of hi, Option.some.inj (h.symm.trans (vl_get (getD_of hi)))⟩
theorem vl_cons (k : Nat) (l : List Nat) : vl (k :: l) = V.int (k : Int) :: vl l := rfl
theorem vl_app (a b : List Nat) : vl a ++ vl b = vl (a ++ b) := by
  unfold vl
  rw [List.map_append, List.map_append]

section
variable {P : Program} {w : World} {K : PySem.W.Frag} {mg : Str → Option Value} {base : Heap} {T c fO fI : Addr} {fdO fdI : FuncData}
structure BMade (T : Addr) (H1 : Hp) (D : Addr) (bs : List (List Nat)) (H : Hp) : Prop where
  go : Go T H1 H
  new : ∃ ts : List Addr, H D = some (.lst (ts.map V.ref)) ∧ OrdsAt H ts bs
def spBlk (K : PySem.W.Frag) (T : Addr) : Sp := fun vs H Q _ => ∃ (a : Addr) (o : List Nat), vs = [.ref a] ∧ SeqLT K H a (vl o) ∧ IsOrd o ∧ GxR.TabG H T ∧ OutB T H Q (blk o)
theorem ok_blocks {f fC : Addr} {fd fdC : FuncData} (F : Fun K "blocks" "blocks" s_blocks f fd) (C : Cd K mg fC fdC) (O : Io K mg base T c fO fI fdO fdI) (mm : mg "max" = none) (mz : mg "zip" = none) : FnOk P w K mg base CX0 4 f fd ["order"] (spBlk K T) := by
  have G : FnOk P w K mg base CX0 3 fC fdC ["order"] (spChk K T) := ok_check_order C.fn O
  refine F.ok sc_blocks (fun vs H Q E h => ?_) (fun cdv A outer s H vs Q E hr h => ?_)
  · obtain ⟨a, o, rfl, _⟩ := h
    rfl
  · obtain ⟨a, o, rfl, ha, ho, ht, q⟩ := h
    have hun := hr.un
    have eu : (A.deeper (envOfC "blocks" (defScope s_blocks) s.heap.objs.size f cdv)).units = A.units + 3 := rfl
    have hu : A.units + 3 + 1 < cLine := by omega
    refine ⟨_, pss_cons (ps_expr (pe_call G hr (by rfl) C.at_ C.fn.kp C.bind .nil pass0 (pa_cons (pv 0) pa_nil)))
      (pss_cons (ps_set (i := 1) sc_blocks.nd rfl (Or.inl rfl) (pe_callB call_len (by rfl) O.B.len PySem.boot_len (pa_cons (pv 0) pa_nil)))
      (pss_cons (ps_setLc (i := 2) (own := [("many", 3)]) (g := gName 3) (by rfl) sc_blocks.nd rfl rfl (by rfl) (pi_range2 (by rfl) O.B.range (pa_cons pe_int (pa_cons (pv 1) pa_nil)))
          (blkOk_by (by rfl)) (fun _ _ _ _ _ => pg_name (i := 3) sc_blocks.nd rfl (Or.inl rfl))
          (fun _ _ _ _ _ => pts_one (pt_cmpR op_eq (pe_callB (show CallR _ _ (rMaxS K) from cr_maxS rfl hu) (by rfl) mm (by decide +kernel) (pa_cons (pe_slice (show SlR _ (rCut K) from sl_cut) (pv 0) po_none (po_some (pv 3))) pa_nil)) (pv 3) (nomark _)))
          (fun _ _ _ _ _ => pv 3))
      (pss_one (ps_ret (pe_lc (own := [("low", 4), ("high", 5)]) (tt := tYes) (by rfl) sc_blocks.nd (pi_zip (by rfl) mz (pa_cons (pe_op op_cat (pe_lst (pa_cons pe_int pa_nil)) (pv 2)) (pa_cons (pe_op op_cat (pv 2) (pe_lst (pa_cons (pv 1) pa_nil))) pa_nil)))
          (blkOk_by (by rfl)) (fun _ _ _ _ _ => (show PG _ _ (gTup K 2 (gCons (gName 4) (gCons (gName 5) gNil))) from pg_tup rfl (pgs_cons (pg_name (i := 4) sc_blocks.nd rfl (Or.inr rfl)) (pgs_cons (pg_name (i := 5) sc_blocks.nd rfl (Or.inl rfl)) pgs_nil)))) (fun _ _ _ _ _ => pts_nil)
          (fun _ _ _ _ _ => pe_tupF (by rfl) O.B.tuple (pe_lc (own := [("thing", 6)]) (g := gName 6) (tt := tYes) (by rfl) sc_blocks.nd (show PI _ _ _ (iSeq K (tSl (rCut K) (tVar 0) (tPart (tVar 4)) (tPart (tVar 5)))) from pi_seq (pe_slice sl_cut (pv 0) (po_some (pv 4)) (po_some (pv 5))))
            (blkOk_by (by rfl)) (fun _ _ _ _ _ => pg_name (i := 6) sc_blocks.nd rfl (Or.inl rfl)) (fun _ _ _ _ _ => pts_nil) (fun _ _ _ _ _ => pe_op op_sub (pv 6) (pv 4))))))))), ?_⟩
    have b9 := ho.hi
    have b1 := ho.lo
    refine ⟨.ref a, rfl, a, o, rfl, ha, ho, ht, fun H1 g1 => ?_⟩
    have a1 := g1.lt ht ha
    have l1 := lenV_seq (K := K) a1
    rw [vl_len] at l1
    refine ⟨.ref a, rfl, .ref a, _, rfl, l1, ?_⟩
    -- the cuts
    refine ⟨.int (o.length : Int), rfl, _, _, rfl, ⟨by omega, by omega, by omega, by omega⟩, fun D hD => ?_⟩
    refine lc_range (lo := 1) (n := ((o.length : Int) - 1).toNat) (fun i H2 => Made T H1 D ((List.range' 1 i).filter (cutq o)) H2) (Made.start g1.1 hD) (fun i H2 hi m => ?_) (fun H2 m => ?_)
    · have hi' : i + 1 < o.length := by omega
      have gd := m.go hD
      have ei : (1 : Int) + (i : Int) = ((i + 1 : Nat) : Int) := by omega
      refine ⟨rfl, .ref a, rfl, .int (1 + (i : Int)), rfl, _, rfl, a, vl o, rfl, gd.lt g1.1 a1, fun H3 p hc sq => ?_⟩
      rw [ei] at hc sq ⊢
      rw [cut_to o (i + 1) (by omega)] at hc sq
      have g3 := Go.cut gd.1 hc
      obtain ⟨x, r, exr⟩ : ∃ x r, o.take (i + 1) = x :: r := by
        cases e : o.take (i + 1) with
        | nil =>
          have := congrArg List.length e
          rw [List.length_take, List.length_nil] at this
          omega
        | cons x r => exact ⟨x, r, rfl⟩
      rw [exr] at sq
      refine ⟨p, (x : Int), r.map fun k : Nat => (k : Int), rfl, sq, .int (((i + 1 : Nat)) : Int), rfl, rfl, _, rfl, ?_⟩
      rw [max_cast]
      have mc := max_cut ho (m := i + 1) (by omega) (by omega) exr
      have ll : ((List.range' 1 i).filter (cutq o)).length ≤ i := Nat.le_trans (List.length_filter_le _ _) (by rw [List.length_range']; exact Nat.le_refl _)
      have more := m.more (k := i + 1) hD g1.1 g3
      by_cases hq : cutq o (i + 1) = true
      · rw [decide_eq_true (show V.int ((r.foldl max x : Nat) : Int) = V.int ((i + 1 : Nat) : Int) by rw [mc.mpr hq])]
        refine iteT ⟨.int ((i + 1 : Nat) : Int), rfl, _, more.1, by rw [vl_len]; exact small9 (by omega), ?_⟩
        rw [take_seg, if_pos hq]
        exact more.2
      · rw [decide_eq_false (show ¬ V.int ((r.foldl max x : Nat) : Int) = V.int ((i + 1 : Nat) : Int) from fun z => hq (mc.mp (by have := V.int.inj z; omega)))]
        refine iteF ?_
        show Made T H1 D ((List.range' 1 (i + 1)).filter (cutq o)) H3
        rw [take_seg, if_neg hq, List.append_nil]
        exact ⟨g3.1, fun b u n1 n2 e => g3.2 b u n1 (m.2.1 b u n1 n2 e), more.1⟩
    · -- the blocks between them
      rw [show ((o.length : Int) - 1).toNat = o.length - 1 by omega] at m
      have ecu := cuts_last ho
      have lcu := cuts_len o
      generalize hcp : (List.range' 1 (o.length - 1)).filter (cutq o) = cp at m ecu
      have lcp : cp.length + 1 = (cuts o).length := by rw [ecu, List.length_append]; rfl
      have gd := m.go hD
      have eD := m.2.2
      refine ⟨by show 1 ≤ sizeLine; decide, fun z1 hz1 => ?_⟩
      have k1 := Go.new (o := .lst [V.int 0]) gd.1 hz1
      refine ⟨.ref D, rfl, z1, D, _, _, rfl, rfl, upd_same, k1.lst gd.1 eD, Nat.le_of_lt (small9 (by rw [vl_len]; show 1 + _ ≤ 100; omega)), fun za hza => ?_⟩
      have k2' := Go.new (o := .lst ([V.int 0] ++ vl cp)) k1.1 hza
      have k2 := k1.trans k2'
      have ea : (upd (upd H2 z1 (.lst [V.int 0])) za (.lst ([V.int 0] ++ vl cp))) za = some (.lst (vl (0 :: cp))) := upd_same
      generalize upd (upd H2 z1 (.lst [V.int 0])) za (.lst ([V.int 0] ++ vl cp)) = S1 at k2 ea ⊢
      refine ⟨.ref D, rfl, .int (o.length : Int), rfl, by show 1 ≤ sizeLine; decide, fun z2 hz2 => ?_⟩
      have k3' := Go.new (o := .lst [V.int (o.length : Int)]) k2.1 hz2
      have k3 := k2.trans k3'
      refine ⟨D, z2, _, _, rfl, rfl, k3.lst gd.1 eD, upd_same, Nat.le_of_lt (small9 (by rw [vl_len]; show _ + 1 ≤ 100; omega)), fun zb hzb => ?_⟩
      have k4' := Go.new (o := .lst (vl cp ++ [V.int (o.length : Int)])) k3.1 hzb
      have k4 := k3.trans k4'
      have eb : (upd (upd S1 z2 (.lst [V.int (o.length : Int)])) zb (.lst (vl cp ++ [V.int (o.length : Int)]))) zb = some (.lst (vl (cp ++ [o.length]))) := by
        rw [upd_same, vl_snoc]
      have ea4 := (k3'.trans k4').lst k2.1 ea
      generalize upd (upd S1 z2 (.lst [V.int (o.length : Int)])) zb (.lst (vl cp ++ [V.int (o.length : Int)])) = S2 at k4 eb ea4 ⊢
      have g4 := (g1.trans gd).trans k4
      refine ⟨za, zb, _, _, rfl, SqL.of ea4, SqL.of eb, fun L hL => ?_⟩
      have g4t := g4.1
      refine lc_it (walk_zip (n := (cuts o).length) (by rw [vl_len, vl_len, List.length_append, List.length_cons]; show _ = min (cp.length + 1) (cp.length + 1); omega)) (fun i H => BMade T S2 L ((blk o).take i) H)
        ⟨Go.new g4t hL, [], upd_same, .nil⟩ (fun i H _ m => ⟨SqL.of (m.go.lst g4t ea4), SqL.of (m.go.lst g4t eb)⟩) (fun i v H3 H4 hi m y => ?_) (fun H m => ?_)
      · obtain ⟨tt, x, y, rfl, htt, rfl, hx, hy⟩ := y
        obtain ⟨lo, hlo, rfl⟩ := vl_inv hx
        obtain ⟨hi', hhi, rfl⟩ := vl_inv hy
        have hz := zip_at (β := Nat) hlo hhi
        rw [zip_seg, ← ecu] at hz
        have hmem := List.mem_of_getElem? hz
        obtain ⟨hm1, hm2⟩ := seg_mem _ _ _ hmem
        have c2 := (cuts_le hm2).2.1
        have c1 : lo ≤ o.length := by
          rcases hm1 with e | e
          · have e : lo = 0 := e
            omega
          · exact (cuts_le e).2.1
        have gT := m.go.trans (Go.new (o := .tup [V.int (lo : Int), V.int (hi' : Int)]) m.go.1 htt)
        have aT := gT.lt g4t (g4.lt ht ha)
        refine ⟨tt, _, rfl, SqT.of upd_same, rfl, _, _, rfl, _, _, rfl, rfl, rfl, ?_⟩
        refine ⟨.ref a, rfl, .int (lo : Int), rfl, _, rfl, .int (hi' : Int), rfl, _, rfl, a, vl o, rfl, aT, fun H5 p hc sq => ?_⟩
        rw [cut_v o lo hi' c1 c2] at hc sq
        have g5' := Go.cut gT.1 hc
        have g5 := gT.trans g5'
        obtain ⟨bb, sqb⟩ := sq.sqB
        refine ⟨bb, p, rfl, ⟨_, sqb⟩, fun D2 hD2 => ?_⟩
        have lsl : (sl o (lo, hi')).length ≤ 9 := by
          unfold sl cutOut
          rw [List.length_map, List.length_take, List.length_drop]
          omega
        refine lc_seq (b := bb) (xs := vl ((o.drop lo).take (hi' - lo))) (fun j H6 => Made T H5 D2 ((sl o (lo, hi')).take j) H6) (Made.start g5.1 hD2) (fun j H6 _ z => (z.go hD2).sqB g5.1 sqb) (fun j v H6 hv z => ?_) (fun H6 z => ?_)
        · obtain ⟨t, htj, rfl⟩ := vl_inv hv
          have more := z.more (k := t - lo) hD2 g5.1 (Go.refl z.1)
          have at_ : (sl o (lo, hi'))[j]? = some (t - lo) := by
            unfold sl cutOut
            rw [List.getElem?_map, htj]
            rfl
          have gtl : lo ≤ t := by
            have ht2 := List.mem_of_mem_take (List.mem_of_getElem? htj)
            rcases hm1 with e | e
            · have e : lo = 0 := e
              omega
            · exact Nat.le_of_lt ((gt_cut ho c1 (cuts_le e).2.2).2 t ht2)
          refine ⟨rfl, .int (t : Int), rfl, .int (lo : Int), rfl, _, _, rfl, rfl, _, more.1, by rw [vl_len, List.length_take]; exact small9 (by omega), ?_⟩
          show Made T H5 D2 _ (upd H6 D2 (.lst (vl _ ++ [V.int ((t : Int) - (lo : Int))])))
          rw [show (t : Int) - (lo : Int) = ((t - lo : Nat) : Int) by omega, take_snoc at_]
          exact more.2
        · have e6 : (sl o (lo, hi')).take (vl ((o.drop lo).take (hi' - lo))).length = sl o (lo, hi') := List.take_of_length_le (by
            unfold sl cutOut
            rw [List.length_map, vl_len]
            exact Nat.le_refl _)
          rw [e6] at z
          refine ⟨false, D2, vl (sl o (lo, hi')), rfl, z.2.2, fun z => (nomatch z), fun _ t ob hod ht6 => ?_⟩
          have g6 := g5.trans (z.go hD2)
          have gn := Go.new (o := .frz ob (.tup (vl (sl o (lo, hi'))))) g6.1 ht6
          have gt3 : Go T H3 (upd H6 t (.frz ob (.tup (vl (sl o (lo, hi')))))) := (Go.new m.go.1 htt).trans (g5'.trans ((z.go hD2).trans gn))
          obtain ⟨ts, eL, os⟩ := m.new
          have eL2 := gt3.lst m.go.1 eL
          have lts := Paired.length os
          rw [List.length_take, blk_len] at lts
          refine ⟨ts.map V.ref, eL2, by rw [List.length_map]; exact small9 (by omega), (m.go.trans gt3).put hL g4t, ts ++ [t], ?_, ?_⟩
          · rw [upd_same, List.map_append]
            rfl
          · have at_ : (blk o)[i]? = some (sl o (lo, hi')) := by
              unfold blk
              rw [List.getElem?_map, hz]
              rfl
            rw [take_snoc at_]
            exact Paired.snoc (os.keep fun b x h => ord_upd eL2 (gt3.ord m.go.1 h)) (ord_upd eL2 ⟨ob, hod, upd_same⟩)
      · rw [List.take_of_length_le (by rw [blk_len]; exact Nat.le_refl _)] at m
        obtain ⟨ts, eL, os⟩ := m.new
        exact q H L ts (g4.trans m.go) (g4.free hL) eL os

def spBsd (K : PySem.W.Frag) (T : Addr) : Sp := fun vs H Q _ => ∃ (b1 b2 : Bool) (a d : Addr) (o p : List Nat), vs = [.ref a, .ref d] ∧ OrdK b1 H a (vl o) ∧ OrdK b2 H d (vl p) ∧ IsOrd o ∧ IsOrd p ∧ o.length + p.length ≤ 9 ∧ GxR.TabG H T ∧ Out T H Q (bsd o p)
theorem ok_beside {f fC : Addr} {fd fdC : FuncData} (F : Fun K "beside" "beside" s_beside f fd) (C : Cd K mg fC fdC) (O : Io K mg base T c fO fI fdO fdI) : FnOk P w K mg base CX0 4 f fd ["order", "other"] (spBsd K T) := by
  have G : FnOk P w K mg base CX0 3 fC fdC ["order"] (spChk K T) := ok_check_order C.fn O
  obtain ⟨tN, hN⟩ := O.N
  refine F.ok sc_beside (fun vs H Q E h => ?_) (fun cdv A outer s H vs Q E hr h => ?_)
  · obtain ⟨b1, b2, a, d, o, p, rfl, _⟩ := h
    rfl
  · obtain ⟨b1, b2, a, d, o, p, rfl, ha, hd, ho, hp, h9, ht, q⟩ := h
    refine ⟨_, pss_cons (ps_expr (pe_call G hr (by rfl) C.at_ C.fn.kp C.bind .nil pass0 (pa_cons (pv 0) pa_nil)))
      (pss_cons (ps_expr (pe_call G hr (by rfl) C.at_ C.fn.kp C.bind .nil pass0 (pa_cons (pv 1) pa_nil)))
      (pss_cons (ps_if (pt_cmpR op_gt (pe_op op_add (pe_callB call_len (by rfl) O.B.len PySem.boot_len (pa_cons (pv 0) pa_nil)) (pe_callB call_len (by rfl) O.B.len PySem.boot_len (pa_cons (pv 1) pa_nil))) (pe_glob (v := .int 9) (by rfl) hN ⟨_, rfl⟩) (nomark _)) (pss_one ps_never) pss_nil)
      (pss_one (ps_ret (pe_op op_catF (pe_tupF (by rfl) O.B.tuple (pv 0)) (pe_tupF (by rfl) O.B.tuple
        (pe_lc (own := [("thing", 2)]) (g := gName 2) (tt := tYes) (by rfl) sc_beside.nd (pi_seq (pv 1)) (blkOk_by (by rfl)) (fun _ _ _ _ _ => pg_name (i := 2) sc_beside.nd rfl (Or.inl rfl)) (fun _ _ _ _ _ => pts_nil)
          (fun _ _ _ _ _ => pe_op op_add (pv 2) (pe_callB (show CallR _ _ (rLen K) from lenK) (by rfl) O.B.len PySem.boot_len (pa_cons (pv 0) pa_nil)))))))))), ?_⟩
    refine ⟨.ref a, rfl, a, o, rfl, ha.lt, ho, ht, fun H1 g1 => ⟨.ref d, rfl, d, p, rfl, (g1.ord ht hd).lt, hp, g1.1, fun H2 g2' => ?_⟩⟩
    have g2 := g1.trans g2'
    have a2 := g2.ord ht ha
    have d2 := g2.ord ht hd
    have l1 := lenV_seq (K := K) a2.lt
    have l2 := lenV_seq (K := K) d2.lt
    rw [vl_len] at l1 l2
    refine ⟨.ref a, rfl, .ref a, _, rfl, l1, .ref d, rfl, .ref d, _, rfl, l2, _, _, rfl, rfl, _, _, rfl, rfl, _, rfl, ?_⟩
    rw [decide_eq_false (show ¬ (9 : Int) < (o.length : Int) + (p.length : Int) by omega)]
    refine iteF ?_
    -- tuple(order)
    have core : ∀ (H3 : Hp) (e : Addr), Go T H2 H3 → SqT K H3 e (vl o) → H2 e = none ∨ e = a →
        ∀ (D : Addr), H3 D = none → ∀ H4, Made T H3 D (p.map (· + o.length)) H4 → ∀ (t : Addr) (ob : Obj), ob.dict = none → H4 t = none → ∀ (r : Addr) (oc : Obj), oc.dict = none → (upd H4 t (.frz ob (.tup (vl (p.map (· + o.length)))))) r = none →
        Q (.ref r) (upd (upd H4 t (.frz ob (.tup (vl (p.map (· + o.length)))))) r (.frz oc (.tup (vl o ++ vl (p.map (· + o.length)))))) := by
      intro H3 e g3 se _ D hD H4 m t ob hob ht4 r oc hoc hr5
      have g4 := (g2.trans g3).trans (m.go hD)
      have g5 := g4.trans (Go.new (o := .frz ob (.tup (vl (p.map (· + o.length))))) g4.1 ht4)
      have g6 := g5.trans (Go.new (o := .frz oc (.tup (vl o ++ vl (p.map (· + o.length))))) g5.1 hr5)
      refine q _ r g6 (g5.free hr5) ⟨oc, hoc, ?_⟩
      rw [upd_same, vl_app]
      rfl
    have nx : vl o ≠ [] := fun z => by
      have := congrArg List.length z
      rw [vl_len, List.length_nil] at this
      have := ho.lo
      omega
    have ny : vl (p.map (· + o.length)) ≠ [] := fun z => by
      have := congrArg List.length z
      rw [vl_len, List.length_map, List.length_nil] at this
      have := hp.lo
      omega
    have hz : (vl o).length + (vl (p.map (· + o.length))).length ≤ sizeLine := by
      rw [vl_len, vl_len, List.length_map]
      exact Nat.le_of_lt (small9 (by omega))
    have rest : ∀ (H3 : Hp) (e : Addr), Go T H2 H3 → SqT K H3 e (vl o) → (H2 e = none ∨ e = a) → ∀ (QQ : VK), (∀ (D : Addr), H3 D = none → ∀ H4, Made T H3 D (p.map (· + o.length)) H4 → QQ (.ref D) H4) →
        tLc (iSeq K (tVar 1)) (gName 2) tYes (tOp (rI0 fun i j => .int (i + j)) (tVar 2) (tCB (rLen K) (tCons (tVar 0) tNil))) [2] [some (.ref a), some (.ref d), none] H3 QQ := by
      intro H3 e g3 se _ QQ qq
      have d3 := g3.ord g2.1 d2
      refine ⟨.ref d, rfl, b2, d, rfl, ⟨_, d3.sqB⟩, fun D hD => ?_⟩
      refine lc_seq (xs := vl p) (fun i H4 => Made T H3 D ((p.map (· + o.length)).take i) H4) (Made.start g3.1 hD) (fun i H4 _ m => ((m.go hD).ord g3.1 d3).sqB) (fun i x H4 hx m => ?_) (fun H4 m => ?_)
      · obtain ⟨k, hk, rfl⟩ := vl_inv hx
        have l4 := lenV_seq (K := K) ((m.go hD).ord g3.1 (g3.ord g2.1 a2)).lt
        rw [vl_len] at l4
        have more := m.more (k := k + o.length) hD g3.1 (Go.refl m.1)
        refine ⟨rfl, .int (k : Int), rfl, .ref a, rfl, .ref a, _, rfl, l4, _, _, rfl, rfl, _, more.1, by rw [vl_len, List.length_take, List.length_map]; exact small9 (by omega), ?_⟩
        have at_ : (p.map (· + o.length))[i]? = some (k + o.length) := by
          rw [List.getElem?_map, hk]
          rfl
        show Made T H3 D _ (upd H4 D (.lst (vl _ ++ [V.int ((k : Int) + (o.length : Int))])))
        rw [show (k : Int) + (o.length : Int) = ((k + o.length : Nat) : Int) by omega, take_snoc at_]
        exact more.2
      · rw [vl_len, List.take_of_length_le (by rw [List.length_map]; exact Nat.le_refl _)] at m
        exact qq D hD H4 m
    have both : ∀ (H3 : Hp) (e : Addr), Go T H2 H3 → SqT K H3 e (vl o) → (H2 e = none ∨ e = a) →
        tThen (tLc (iSeq K (tVar 1)) (gName 2) tYes (tOp (rI0 fun i j => .int (i + j)) (tVar 2) (tCB (rLen K) (tCons (tVar 0) tNil))) [2]) kTupF [some (.ref a), some (.ref d), none] H3 fun y H5 => rCatF K (.ref e) y H5 Q := by
      intro H3 e g3 se hn
      refine rest H3 e g3 se hn _ fun D hD H4 m => ?_
      refine ⟨false, D, _, rfl, m.2.2, fun z => (nomatch z), fun _ t ob hob ht4 => ?_⟩
      have gm := m.go hD
      have gn := Go.new (o := .frz ob (.tup (vl (p.map (· + o.length))))) gm.1 ht4
      refine ⟨e, t, _, _, rfl, rfl, gn.seqT gm.1 (gm.seqT g3.1 se), .inl (.inr ⟨ob, upd_same⟩), nx, ny, hz, fun r oc hoc hr5 => core H3 e g3 se hn D hD H4 m t ob hob ht4 r oc hoc hr5⟩
    refine ⟨.ref a, rfl, b1, a, vl o, rfl, a2, fun e => ?_, fun e t ob hob hn => ?_⟩
    · subst e
      exact both H2 a (Go.refl g2.1) a2.sqT (.inr rfl)
    · exact both _ t (Go.new g2.1 hn) (.inl (.inr ⟨ob, upd_same⟩)) (.inl hn)
end
end Lb

set_option Elab.async false
set_option linter.all false
set_option maxRecDepth 100000
set_option maxHeartbeats 4000000
namespace Lb
open PySem PySem.Spec PyProof.Rows L2

abbrev s_low : Stmt := topS 25
abbrev s_lblocks : Stmt := topS 26
abbrev s_lbeside : Stmt := topS 27
theorem sc_low : FnScope ["_law_things", "_law_thing", "_law_other"] ["_law_things"] (defScope s_low) := ⟨rfl, rfl, rfl, by decide +kernel, rfl, by decide +kernel, by decide +kernel⟩
theorem sc_lblocks : FnScope ["_law_order_here", "_law_found", "_law_begin", "_law_at"] ["_law_order_here"] (defScope s_lblocks) := ⟨rfl, rfl, rfl, by decide +kernel, rfl, by decide +kernel, by decide +kernel⟩
theorem sc_lbeside : FnScope ["_law_order_here", "_law_other", "_law_thing"] ["_law_order_here", "_law_other"] (defScope s_lbeside) := ⟨rfl, rfl, rfl, by decide +kernel, rfl, by decide +kernel, by decide +kernel⟩

/-- a def under its name, with its promise -/
structure Cl (P : Program) (w : World) (K : PySem.W.Frag) (mg : Str → Option Value) (base : Heap) (k : Nat) (x : Str) (ps : List Str) (sp : Sp) (f : Addr) (fd : FuncData) : Prop where
  ok : FnOk P w K mg base CX0 k f fd ps sp
  at_ : mg x = some (.ref f)
  kp : PySem.W.keepIn K (.ref f) = true
  bind : Binds K fd ps []
theorem Df.cl {P : Program} {w : World} {K : PySem.W.Frag} {mg : Str → Option Value} {base : Heap} {k : Nat} {x : Str} {st : Stmt} {ps : List Str} {f : Addr} {fd : FuncData} {sp : Sp} (D : Df K mg x st ps f fd) (h : FnOk P w K mg base CX0 k f fd ps sp) : Cl P w K mg base k x ps sp f fd := ⟨h, D.at_, D.fn.kp, D.bind⟩
section
variable {X : Cx} {k : Nat} {x : Str} {ps : List Str} {sp : Sp} {f : Addr} {fd : FuncData} {p pos : Pos} {e : Expr} {es : List Expr} {t : TA}
theorem pe_cl (C : Cl X.prog X.w X.K X.mg X.base k x ps sp f fd) (hr : Room k X.A) (hg : Gl X x) (ha : PA X (e :: es) t)
    (hdb : (x == ("__debug__" : Str)) = false := by decide) (he : starEach (e :: es) X.env = (false, eval e X.env) :: starEach es X.env := by rfl) (hpl : (backTo pos (starEach es X.env)).any (·.1) = false := by rfl) :
    PE X (.Call (.Name x p) (e :: es) [] pos) (tCall sp [] E0 t) := pe_call C.ok hr hg C.at_ C.kp C.bind .nil pass0 ha hdb he hpl
end

def blw (l : List Nat) (t : Nat) : Nat := (l.filter fun u => decide (u < t)).length
theorem blw_step {l : List Nat} {j u : Nat} (h : l[j]? = some u) (t : Nat) : blw (l.take (j + 1)) t = blw (l.take j) t + (if u < t then 1 else 0) := by
  unfold blw
  rw [take_snoc h, List.filter_append, List.length_append]
  congr 1
  rw [List.filter_cons, List.filter_nil]
  by_cases e : u < t
  · rw [if_pos (decide_eq_true e), if_pos e]
    rfl
  · rw [if_neg (by rw [decide_eq_false e]; exact Bool.false_ne_true), if_neg e]
    rfl
theorem nice_ints_ {ns : List Int} (h : ∀ x ∈ ns, 0 ≤ x ∧ x < 100) (hl : ns.length ≤ 100) : Nice 1 404 (.list (ns.map PyData.int)) := by
  have e : ns.map PyData.int = dl (ns.map Int.toNat) := by
    unfold dl
    rw [List.map_map]
    refine List.map_congr_left fun x hx => ?_
    have := h x hx
    show PyData.int x = PyData.int ((x.toNat : Nat) : Int)
    rw [show ((x.toNat : Nat) : Int) = x by omega]
  rw [e]
  refine (nice_ord (fun k hk => ?_) (by rw [List.length_map]; exact hl)).1
  obtain ⟨x, hx, rfl⟩ := List.mem_map.mp hk
  have := h x hx
  omega
theorem dp_ints {K : PySem.W.Frag} {H : Hp} : ∀ ns : List Int, DpAll K H (ns.map V.int) (ns.map PyData.int)
  | [] => .nil
  | n :: r => .cons (.int n) (dp_ints r)
theorem len_lowd (l : List Nat) : (lowd l).length = l.length := by
  unfold lowd
  rw [List.length_map]

section
variable {P : Program} {w : World} {K : PySem.W.Frag} {mg : Str → Option Value} {base : Heap} {T : Addr}
def spLow (K : PySem.W.Frag) (T : Addr) : Sp := fun vs H Q _ => ∃ (a : Addr) (l : List Nat), vs = [.ref a] ∧ SeqLT K H a (vl l) ∧ l.length ≤ 9 ∧ GxR.TabG H T ∧ Out T H Q (lowd l)
theorem ok_low {f : Addr} {fd : FuncData} (F : Fun K "_law_lowered" "_law_lowered" s_low f fd) (B : Bl2 mg) : FnOk P w K mg base CX0 1 f fd ["_law_things"] (spLow K T) := by
  refine F.ok sc_low (fun vs H Q E h => ?_) (fun cdv A outer s H vs Q E hr h => ?_)
  · obtain ⟨a, l, rfl, _⟩ := h
    rfl
  · obtain ⟨a, l, rfl, ha, h9, ht, q⟩ := h
    refine ⟨_, pss_one (ps_ret (pe_tupF (by rfl) B.b.tuple (pe_lc (own := [("_law_thing", 1)]) (g := gName 1) (tt := tYes) (by rfl) sc_low.nd (pi_seq (pv 0))
        (blkOk_by (by rfl)) (fun _ _ _ _ _ => pg_name (i := 1) sc_low.nd rfl (Or.inr rfl)) (fun _ _ _ _ _ => pts_nil)
        (fun _ _ _ _ _ => pe_op op_add pe_int (pe_callB (show CallR _ _ (rLen K) from lenK) (by rfl) B.b.len PySem.boot_len (pa_cons (pe_lc (own := [("_law_other", 2)]) (g := gName 2) (by rfl) sc_low.nd (show PI _ _ _ (iSeq K (tVar 0)) from pi_seq (pv 0))
          (blkOk_by (by rfl)) (fun _ _ _ _ _ => pg_name (i := 2) sc_low.nd rfl (Or.inl rfl)) (fun _ _ _ _ _ => pts_one (pt_cmpR op_lt (pv 2) (pv 1) (nomark _))) (fun _ _ _ _ _ => pv 2)) pa_nil)))))), ?_⟩
    obtain ⟨bb, sq⟩ := ha.sqB
    refine ⟨.ref a, rfl, bb, a, rfl, ⟨_, sq⟩, fun D hD => ?_⟩
    refine lc_seq (xs := vl l) (fun i H2 => Made T H D ((lowd l).take i) H2) (Made.start ht hD) (fun i H2 _ m => (m.go hD).sqB ht sq) (fun i x H2 hx m => ?_) (fun H2 m => ?_)
    · obtain ⟨t, hti, rfl⟩ := vl_inv hx
      have sq2 := (m.go hD).sqB ht sq
      refine ⟨rfl, .ref a, rfl, bb, a, rfl, ⟨_, sq2⟩, fun D2 hD2 => ?_⟩
      refine lc_seq (b := bb) (xs := vl l) (fun j H3 => Go T H2 H3 ∧ ∃ us : List V, H3 D2 = some (.lst us) ∧ us.length = blw (l.take j) t) ⟨Go.new m.1 hD2, [], upd_same, rfl⟩ (fun j H3 _ z => z.1.sqB m.1 sq2) (fun j x H3 hx z => ?_) (fun H3 z => ?_)
      · obtain ⟨g3, us, eD, eu⟩ := z
        obtain ⟨u, huj, rfl⟩ := vl_inv hx
        have hj := (List.getElem?_eq_some_iff.mp huj).1
        have st := blw_step huj t
        have cl : blw (l.take j) t ≤ 9 := Nat.le_trans (List.length_filter_le _ _) (by rw [List.length_take]; omega)
        refine ⟨rfl, .int (u : Int), rfl, .int (t : Int), rfl, _, _, rfl, rfl, _, rfl, ?_⟩
        by_cases hlt : u < t
        · rw [decide_eq_true (show (u : Int) < (t : Int) by omega)]
          refine iteT ⟨.int (u : Int), rfl, us, eD, by rw [eu]; exact small9 (by omega), g3.put hD2 m.1, _, upd_same, ?_⟩
          rw [List.length_append, eu, st, if_pos hlt]
          rfl
        · rw [decide_eq_false (show ¬ (u : Int) < (t : Int) by omega)]
          refine iteF ⟨g3, us, eD, ?_⟩
          rw [eu, st, if_neg hlt]
          rfl
      · obtain ⟨g3, us, eD, eu⟩ := z
        rw [vl_len, List.take_length] at eu
        have more := m.more (k := 1 + blw l t) hD ht g3
        refine ⟨.ref D2, us.length, rfl, .inl ⟨us, SqL.of eD, rfl⟩, _, _, rfl, rfl, _, more.1, by rw [vl_len, List.length_take]; exact small9 (by rw [len_lowd]; omega), ?_⟩
        have at_ : (lowd l)[i]? = some (1 + blw l t) := by
          unfold lowd
          rw [List.getElem?_map, hti]
          rfl
        show Made T H D _ (upd H3 D (.lst (vl _ ++ [V.int ((1 : Int) + (us.length : Int))])))
        rw [eu, show (1 : Int) + ((blw l t : Nat) : Int) = ((1 + blw l t : Nat) : Int) by omega, take_snoc at_]
        exact more.2
    · rw [List.take_of_length_le (by rw [len_lowd, vl_len]; exact Nat.le_refl _)] at m
      refine ⟨false, D, vl (lowd l), rfl, m.2.2, fun z => (nomatch z), fun _ p ob hd hp => ?_⟩
      have g := m.go hD
      exact q _ p (g.trans (Go.new g.1 hp)) (g.free hp) ⟨ob, hd, upd_same⟩

def spLbs (K : PySem.W.Frag) (T : Addr) : Sp := fun vs H Q _ => ∃ (a d : Addr) (o p : List Nat), vs = [.ref a, .ref d] ∧ SeqLT K H a (vl o) ∧ SeqLT K H d (vl p) ∧ o.length + p.length ≤ 9 ∧ GxR.TabG H T ∧ Out T H Q (bsd o p)
theorem ok_lbeside {f : Addr} {fd : FuncData} (F : Fun K "_law_beside" "_law_beside" s_lbeside f fd) (B : Bl2 mg) : FnOk P w K mg base CX0 1 f fd ["_law_order_here", "_law_other"] (spLbs K T) := by
  refine F.ok sc_lbeside (fun vs H Q E h => ?_) (fun cdv A outer s H vs Q E hr h => ?_)
  · obtain ⟨a, d, o, p, rfl, _⟩ := h
    rfl
  · obtain ⟨a, d, o, p, rfl, ha, hd, h9, ht, q⟩ := h
    refine ⟨_, pss_one (ps_ret (pe_tupF (by rfl) B.b.tuple (pe_op op_cat (pe_callTy call_list_of (by rfl) B.b.list (by decide +kernel) (pa_cons (pv 0) pa_nil))
        (pe_lc (own := [("_law_thing", 2)]) (g := gName 2) (tt := tYes) (by rfl) sc_lbeside.nd (pi_seq (pv 1)) (blkOk_by (by rfl)) (fun _ _ _ _ _ => pg_name (i := 2) sc_lbeside.nd rfl (Or.inl rfl)) (fun _ _ _ _ _ => pts_nil)
          (fun _ _ _ _ _ => pe_op op_add (pv 2) (pe_callB (show CallR _ _ (rLen K) from lenK) (by rfl) B.b.len PySem.boot_len (pa_cons (pv 0) pa_nil))))))), ?_⟩
    refine ⟨.ref a, rfl, a, vl o, rfl, ha, fun l hl => ?_⟩
    have g1 := Go.new (o := .lst (vl o)) ht hl
    have el : (upd H l (.lst (vl o))) l = some (.lst (vl o)) := upd_same
    obtain ⟨bb, sq⟩ := (g1.lt ht hd).sqB
    refine ⟨.ref d, rfl, bb, d, rfl, ⟨_, sq⟩, fun D hD => ?_⟩
    refine lc_seq (xs := vl p) (fun i H4 => Made T _ D ((p.map (· + o.length)).take i) H4) (Made.start g1.1 hD) (fun i H4 _ m => (m.go hD).sqB g1.1 sq) (fun i x H4 hx m => ?_) (fun H4 m => ?_)
    · obtain ⟨k, hk, rfl⟩ := vl_inv hx
      have l4 := lenV_seq (K := K) ((m.go hD).lt g1.1 (g1.lt ht ha))
      rw [vl_len] at l4
      have more := m.more (k := k + o.length) hD g1.1 (Go.refl m.1)
      refine ⟨rfl, .int (k : Int), rfl, .ref a, rfl, .ref a, _, rfl, l4, _, _, rfl, rfl, _, more.1, by rw [vl_len, List.length_take, List.length_map]; exact small9 (by omega), ?_⟩
      have at_ : (p.map (· + o.length))[i]? = some (k + o.length) := by
        rw [List.getElem?_map, hk]
        rfl
      show Made T _ D _ (upd H4 D (.lst (vl _ ++ [V.int ((k : Int) + (o.length : Int))])))
      rw [show (k : Int) + (o.length : Int) = ((k + o.length : Nat) : Int) by omega, take_snoc at_]
      exact more.2
    · rw [vl_len, List.take_of_length_le (by rw [List.length_map]; exact Nat.le_refl _)] at m
      have gm := m.go hD
      refine ⟨l, D, _, _, rfl, rfl, gm.lst g1.1 el, m.2.2, Nat.le_of_lt (small9 (by rw [vl_len, vl_len, List.length_map]; omega)), fun r hr2 => ?_⟩
      rw [vl_app]
      have g2 := (g1.trans gm).trans (Go.new (o := .lst (vl (o ++ p.map (· + o.length)))) gm.1 hr2)
      refine ⟨false, r, _, rfl, upd_same, fun z => (nomatch z), fun _ t ob hod ht2 => ?_⟩
      exact q _ t (g2.trans (Go.new g2.1 ht2)) (g2.free ht2) ⟨ob, hod, upd_same⟩

def spLbl (K : PySem.W.Frag) (T : Addr) : Sp := fun vs H Q _ => ∃ (a : Addr) (o : List Nat), vs = [.ref a] ∧ SeqLT K H a (vl o) ∧ IsOrd o ∧ GxR.TabG H T ∧ OutB T H Q (blk o)
theorem ok_lblocks {f fL : Addr} {fd fdL : FuncData} (F : Fun K "_law_blocks" "_law_blocks" s_lblocks f fd) (L : Cl P w K mg base 1 "_law_lowered" ["_law_things"] (spLow K T) fL fdL) (B : Bl2 mg) : FnOk P w K mg base CX0 2 f fd ["_law_order_here"] (spLbl K T) := by
  refine F.ok sc_lblocks (fun vs H Q E h => ?_) (fun cdv A outer s H vs Q E hr h => ?_)
  · obtain ⟨a, o, rfl, _⟩ := h
    rfl
  · obtain ⟨a, o, rfl, ha, ho, ht, q⟩ := h
    have hun := hr.un
    have eu : (A.deeper (envOfC "_law_blocks" (defScope s_lblocks) s.heap.objs.size f cdv)).units = A.units + 3 := rfl
    have hu : A.units + 3 + 64 < cLine := by omega
    refine ⟨_, pss_cons (ps_par (i := 1) (j := 2) (by rfl) sc_lblocks.nd rfl rfl (by decide) rfl rfl (pa_cons (pe_lst pa_nil) (pa_cons pe_int pa_nil)) (by rfl))
      (pss_cons (ps_for PassesOwn.never rfl (pi_range1 (by rfl) B.b.range (pa_cons (pe_callB call_len (by rfl) B.b.len PySem.boot_len (pa_cons (pv 0) pa_nil)) pa_nil)) (pg_name (i := 3) sc_lblocks.nd rfl (.inl rfl))
        (pss_one (ps_if (pt_cmpR (op_eqD hu) (pe_callB cr_sortLT (by rfl) B.b.sorted (by decide +kernel) (pa_cons (pe_slice sl_cut (pv 0) po_none (po_some (pe_op op_add (pv 3) pe_int))) pa_nil)) (pe_listRg rfl (by rfl) B.b.list (prg_2 (by rfl) B.b.range pe_int (pe_op op_add (pv 3) pe_int))) (nomark _))
          (pss_cons (ps_expr (pe_bm PySem.F.plainAttrs_list PySem.F.slot_list_append PySem.F.type_list_append mt_append (pv 1) (pa_cons (pe_cl L hr (by rfl) (pa_cons (pe_slice sl_cut (pv 0) (po_some (pv 2)) (po_some (pe_op op_add (pv 3) pe_int))) pa_nil)) pa_nil)))
            (pss_one (ps_set (i := 2) sc_lblocks.nd rfl (Or.inl rfl) (pe_op op_add (pv 3) pe_int)))) pss_nil)))
      (pss_one (ps_ret (pv 1)))), ?_⟩
    have b9 := ho.hi
    refine ⟨Nat.zero_le _, fun g hg => ⟨_, _, rfl, ?_⟩⟩
    have g1 := Go.new (o := .lst []) ht hg
    have l1 := lenV_seq (K := K) (g1.lt ht ha)
    rw [vl_len] at l1
    refine ⟨.ref a, rfl, .ref a, _, rfl, l1, (o.length : Int), rfl, by omega, by omega, ?_⟩
    refine for_range (lo := 0) (n := ((o.length : Int)).toNat) (fun i σ H2 => ∃ (tv : Option V) (ts : List Addr), σ = [some (.ref a), some (.ref g), some (.int ((endOf 0 ((List.range' 1 i).filter (cutq o)) : Nat) : Int)), tv] ∧ Go T H H2 ∧ H2 g = some (.lst (ts.map V.ref)) ∧ OrdsAt H2 ts ((seg 0 ((List.range' 1 i).filter (cutq o))).map (sl o)))
      ⟨none, [], rfl, g1, upd_same, .nil⟩ ?_ ?_
    · rintro i σ H2 hi ⟨tv, ts, rfl, g2, e, os⟩
      have hi' : i < o.length := by omega
      have e0 : (0 : Int) + (i : Int) + 1 = ((i + 1 : Nat) : Int) := by omega
      refine ⟨.ref a, rfl, .int (0 + (i : Int)), rfl, _, 1, rfl, rfl, _, rfl, a, vl o, rfl, g2.lt ht ha, fun H3 p hc sq => ?_⟩
      rw [e0, cut_to o (i + 1) (by omega)] at hc sq
      have g3' := Go.cut g2.1 hc
      have g3 := g2.trans g3'
      refine ⟨p, (o.take (i + 1)).map fun k : Nat => (k : Int), rfl, sq, by rw [List.length_map, List.length_take]; omega, fun ns p2 hp1 hp2 hn2 => ?_⟩
      have g4 := g3.trans (Go.new (o := .lst (ns.map V.int)) g3.1 hn2)
      refine ⟨.int (0 + (i : Int)), rfl, _, 2, rfl, rfl, 1, 0 + (i : Int) + 2, rfl, rfl, RgOk.of_le (by omega) (by omega) (by omega) (by omega), fun p4 hn4 => ?_⟩
      rw [show (0 : Int) + (i : Int) + 2 = ((i + 1 : Nat) : Int) + 1 by omega, rg_vl]
      have g5 := g4.trans (Go.new (o := .lst (vl (List.range' 1 (i + 1)))) g4.1 hn4)
      have n42 : p2 ≠ p4 := ne_of_none upd_same hn4
      have gt : g ≠ T := tab_ne ht hg
      have e5 : (upd (upd H3 p2 (.lst (ns.map V.int))) p4 (.lst (vl (List.range' 1 (i + 1))))) g = some (.lst (ts.map V.ref)) := (g3'.trans ((Go.new g3.1 hn2).trans (Go.new g4.1 hn4))).lst g2.1 e
      have os5 : OrdsAt (upd (upd H3 p2 (.lst (ns.map V.int))) p4 (.lst (vl (List.range' 1 (i + 1))))) ts ((seg 0 ((List.range' 1 i).filter (cutq o))).map (sl o)) := os.keep fun b x h => (g3'.trans ((Go.new g3.1 hn2).trans (Go.new g4.1 hn4))).ord g2.1 h
      have nl : ∀ x ∈ ns, 0 ≤ x ∧ x < 100 := fun x hx => by
        obtain ⟨k, hk, rfl⟩ := List.mem_map.mp (hp1.mem_iff.mp hx)
        have := ho.small k (List.mem_of_mem_take hk)
        omega
      have ll : ns.length ≤ 100 := by
        rw [hp1.length_eq, List.length_map, List.length_take]
        omega
      have nc1 := nice_ints_ nl ll
      have nc2 := nice_ints_ (ns := (List.range' 1 (i + 1)).map fun k : Nat => (k : Int)) (fun x hx => by
        obtain ⟨k, hk, rfl⟩ := List.mem_map.mp hx
        obtain ⟨j, hj, z⟩ := List.mem_range'.mp hk
        omega) (by rw [List.length_map, List.length_range']; omega)
      refine ⟨_, _, .lst (.inl (.inl (by rw [upd_ne n42, upd_same]))) (dp_ints ns), .lst (xs := vl (List.range' 1 (i + 1))) (.inl (.inl upd_same)) (dp_ints _), nc1.shaped (by decide), nc2.shaped (by decide), ?_⟩
      rw [PyData.eqv, eqv_ints]
      have sc := sort_cut ho (m := i + 1) (by omega) hp1 hp2
      have st := take_seg (o := o) (m := i)
      generalize upd (upd H3 p2 (.lst (ns.map V.int))) p4 (.lst (vl (List.range' 1 (i + 1)))) = S at g5 e5 os5 ⊢
      by_cases hq : cutq o (i + 1) = true
      · rw [decide_eq_true (sc.mpr hq)]
        refine ⟨true, rfl, iteT ?_⟩
        rw [if_pos hq] at st
        have lo1 : endOf 0 ((List.range' 1 i).filter (cutq o)) ≤ o.length := by
          unfold endOf
          cases z : ((List.range' 1 i).filter (cutq o)).getLast? with
          | none => exact Nat.zero_le _
          | some v =>
            obtain ⟨j, hj, z2⟩ := List.mem_range'.mp (List.mem_filter.mp (List.mem_of_getLast? z)).1
            show v ≤ o.length
            omega
        refine ⟨.ref g, rfl, .inl ⟨rfl, _, SqL.of e5⟩, .ref a, rfl, .int ((endOf 0 ((List.range' 1 i).filter (cutq o)) : Nat) : Int), rfl, _, rfl, .int (0 + (i : Int)), rfl, _, 1, rfl, rfl, _, rfl, a, vl o, rfl, g5.lt ht ha, fun H6 p6 hc6 sq6 => ?_⟩
        rw [e0, cut_v o _ (i + 1) lo1 (by omega)] at hc6 sq6
        have g6' := Go.cut g5.1 hc6
        have g6 := g5.trans g6'
        refine ⟨p6, _, rfl, sq6, by rw [List.length_take, List.length_drop]; omega, g6.1, fun H7 p7 g7' _ e7 => ?_⟩
        have g7 := g6.trans g7'
        have seq : seg 0 ((List.range' 1 (i + 1)).filter (cutq o)) = seg 0 ((List.range' 1 i).filter (cutq o)) ++ [(endOf 0 ((List.range' 1 i).filter (cutq o)), i + 1)] := by
          rw [st, seg_append]
          rfl
        have mem : (endOf 0 ((List.range' 1 i).filter (cutq o)), i + 1) ∈ seg 0 (cuts o) := by
          have z := List.range'_append_1 (s := 1) (m := i + 1) (n := o.length - (i + 1))
          rw [show i + 1 + (o.length - (i + 1)) = o.length by omega] at z
          unfold cuts
          rw [← z, List.filter_append, seg_append, seq]
          exact List.mem_append.mpr (.inl (List.mem_append.mpr (.inr (.head _))))
        rw [show (o.drop (endOf 0 ((List.range' 1 i).filter (cutq o)))).take (i + 1 - endOf 0 ((List.range' 1 i).filter (cutq o))) = cutOut o (endOf 0 ((List.range' 1 i).filter (cutq o)), i + 1) from rfl, lowd_cut ho mem] at e7
        have e8 := (g6'.trans g7').lst g5.1 e5
        have os8 := os5.keep fun b x h => (g6'.trans g7').ord g5.1 h
        have lts := Paired.length os8
        have ls : (seg 0 ((List.range' 1 i).filter (cutq o))).length ≤ i := by
          rw [seg_len]
          exact Nat.le_trans (List.length_filter_le _ _) (by rw [List.length_range']; exact Nat.le_refl _)
        rw [List.length_map] at lts
        refine ⟨g, _, _, rfl, rfl, e8, by rw [List.length_map]; exact small9 (by omega), .int (0 + (i : Int)), rfl, _, 1, rfl, rfl, ?_⟩
        refine ⟨some (.int (0 + (i : Int))), ts ++ [p7], ?_, g7.put hg ht, ?_, ?_⟩
        · show [some (V.ref a), some (V.ref g), some (V.int (0 + (i : Int) + 1)), some (V.int (0 + (i : Int)))] = _
          rw [st, e0]
          unfold endOf
          rw [List.getLast?_append]
          rfl
        · rw [upd_same, List.map_append]
          rfl
        · rw [seq, List.map_append]
          exact Paired.snoc (os8.keep fun b x h => ord_upd e8 h) (ord_upd e8 e7)
      · rw [decide_eq_false (fun z => hq (sc.mp z))]
        rw [if_neg hq, List.append_nil] at st
        refine ⟨false, rfl, iteF ⟨some (.int (0 + (i : Int))), ts, ?_, g5, e5, by rw [st]; exact os5⟩⟩
        rw [st]
        rfl
    · rintro σ H2 ⟨tv, ts, rfl, g2, e, os⟩
      refine ⟨.ref g, rfl, q H2 g ts g2 hg e ?_⟩
      rw [show ((o.length : Int)).toNat = o.length by omega] at os
      exact os
end
end Lb

set_option Elab.async false
set_option linter.all false
set_option maxRecDepth 100000
set_option maxHeartbeats 4000000
namespace Lb
open PySem PySem.Spec PyProof.Rows L2

abbrev s_one_right : Stmt := topS 28
theorem sc_one_right : FnScope ["_law_pot_here", "_law_order_here", "_law_passed_here", "_law_stay", "_law_due", "_law_told", "_law_whole", "_law_block"] ["_law_pot_here", "_law_order_here"] (defScope s_one_right) := ⟨rfl, rfl, rfl, by decide +kernel, rfl, by decide +kernel, by decide +kernel⟩

/-! keywords alone -/
def kw1 {α : Type} : List α → List α → List α
  | [], [a] => [a]
  | _, _ => []
def kw2 {α : Type} : List α → List α → List α
  | [], [a, b] => [b, a]
  | _, _ => []
theorem kw1_rel {vs : List V} {us : List Value} {zs : List V} {ws : List Value} (r : Vals vs us) (q : Vals zs ws) : Vals (kw1 vs zs) (kw1 us ws) := by
  cases r with
  | nil =>
    cases q with
    | nil => exact .nil
    | cons a t =>
      cases t with
      | nil => exact .cons a .nil
      | cons _ _ => exact .nil
  | cons _ _ => exact .nil
theorem kw2_rel {vs : List V} {us : List Value} {zs : List V} {ws : List Value} (r : Vals vs us) (q : Vals zs ws) : Vals (kw2 vs zs) (kw2 us ws) := by
  cases r with
  | nil =>
    cases q with
    | nil => exact .nil
    | cons a t =>
      cases t with
      | nil => exact .nil
      | cons b t =>
        cases t with
        | nil => exact .cons b (.cons a .nil)
        | cons _ _ => exact .nil
  | cons _ _ => exact .nil

/-! data -/
def dO (b : Bool) (o : List Nat) : PyData := if b = true then .tuple (dl o) else .list (dl o)
theorem ord_dpB {K : PySem.W.Frag} {H : Hp} {b : Bool} {p : Addr} {x : List Nat} (a : OrdK b H p (vl x)) : Dp K H (.ref p) (dO b x) := by
  cases b with
  | false => exact .lst a.sqL (dp_vl x)
  | true => exact .tup a.sqT (dp_vl x)
theorem ord_dp {K : PySem.W.Frag} {H : Hp} {p : Addr} {x : List Nat} (a : OrdK true H p (vl x)) : Dp K H (.ref p) (.tuple (dl x)) := .tup a.sqT (dp_vl x)
theorem IsOrd.niceB {o : List Nat} (h : IsOrd o) (b : Bool) : Nice 2 4000 (dO b o) := by
  cases b with
  | false => exact h.nice.1.mono (by decide) (by decide)
  | true => exact h.nice.2.mono (by decide) (by decide)
def tupD (bs : List (List Nat)) : List PyData := bs.map fun b => PyData.tuple (dl b)
theorem ords_dp {K : PySem.W.Frag} {H : Hp} : ∀ {ts : List Addr} {bs : List (List Nat)}, OrdsAt H ts bs → DpAll K H (ts.map V.ref) (tupD bs)
  | _, _, .nil => .nil
  | _, _, .cons r t => .cons (ord_dp r) (ords_dp t)
theorem nice_ords {bs : List (List Nat)} (h : ∀ b ∈ bs, IsOrd b) (hl : bs.length ≤ 9) : Nice 2 4000 (.list (tupD bs)) := by
  refine (nice_list (n := 1) (m := 404) (ds := tupD bs) fun d hd => ?_).mono (by decide) (by unfold tupD; rw [List.length_map]; omega)
  obtain ⟨b, hb, rfl⟩ := List.mem_map.mp hd
  exact (h b hb).nice.2
theorem Nice.fit {n : Nat} {d : PyData} (h : Nice n 4000 d) : d.shown.length ≤ sizeLine := Nat.le_trans h.txt (by decide)
theorem ne_str {z : Str} {H : Hp} {Q : VK} (q : Q (.bl false) H) : rNe (.str z) (.str z) H Q := by
  refine ⟨rfl, ?_⟩
  rw [decide_eq_true rfl]
  exact q
theorem ne_data {K : PySem.W.Frag} {H : Hp} {Q : VK} {x y : V} {n m : Nat} {d : PyData} (a : Dp K H x d) (b : Dp K H y d) (h : Nice n m d) (hn : n ≤ 64) (q : Q (.bl false) H) : rNeD K x y H Q := by
  refine ⟨_, _, a, b, h.shaped hn, h.shaped hn, ?_⟩
  rw [h.refl]
  exact q
theorem eq_data {K : PySem.W.Frag} {H : Hp} {Q : VK} {x y : V} {n m : Nat} {d : PyData} (a : Dp K H x d) (b : Dp K H y d) (h : Nice n m d) (hn : n ≤ 64) (q : Q (.bl true) H) : rEqD K x y H Q := by
  refine ⟨_, _, a, b, h.shaped hn, h.shaped hn, ?_⟩
  rw [h.refl]
  exact q
theorem Gp.lst {T q a : Addr} {H H' : Hp} {xs : List V} (g : Gp T q H H') (t : GxR.TabG H T) (n : a ≠ q) (e : H a = some (.lst xs)) : H' a = some (.lst xs) := g.old a _ (ne_tab t e fun _ z => by cases z) n e
theorem OrdsAt.go {T : Addr} {H H' : Hp} {ts : List Addr} {bs : List (List Nat)} (h : OrdsAt H ts bs) (t : GxR.TabG H T) (g : Go T H H') : OrdsAt H' ts bs := h.keep fun a x e => g.ord t e
theorem OrdsAt.gp {T q : Addr} {H H' : Hp} {ts : List Addr} {bs : List (List Nat)} (h : OrdsAt H ts bs) (t : GxR.TabG H T) (p : PotAt H q) (g : Gp T q H H') : OrdsAt H' ts bs := h.keep fun a x e => g.ordT t p e
theorem cut_rest (xs : List V) (x : V) : cutV (x :: xs) (some 1) none = xs := by
  unfold cutV
  rw [show (1 : Int) = ((1 : Nat) : Int) from rfl, HT.sIx_nat, HT.sIx_none, List.length_cons, Nat.min_eq_left (by omega)]
  show (xs.take (xs.length + 1 - 1)) = xs
  rw [Nat.add_sub_cancel, List.take_length]
theorem all_true : ∀ n : Nat, (List.replicate n true).all id = true
  | 0 => rfl
  | n + 1 => by
    rw [List.replicate_succ, List.all_cons, all_true n]
    rfl
theorem Paired.rev {α β : Type} {R : α → β → Prop} : ∀ {l : List α} {m : List β}, Paired R l m → Paired R l.reverse m.reverse
  | _, _, .nil => .nil
  | _, _, .cons r t => by
    rw [List.reverse_cons, List.reverse_cons]
    exact Paired.snoc (Paired.rev t) r
theorem BMade.more {T D t : Addr} {H1 H H' : Hp} {bs : List (List Nat)} {i : Nat} {b : List Nat} (m : BMade T H1 D (bs.take i) H) (hD : H1 D = none) (ht : GxR.TabG H1 T) (g : Go T H H') (hb : bs[i]? = some b) (e : OrdK true H' t (vl b)) (h9 : bs.length ≤ 9) :
    ∃ acc, H' D = some (.lst acc) ∧ acc.length < sizeLine ∧ BMade T H1 D (bs.take (i + 1)) (upd H' D (.lst (acc ++ [.ref t]))) := by
  obtain ⟨ts, eL, os⟩ := m.new
  have e2 := g.lst m.go.1 eL
  have lt := Paired.length os
  rw [List.length_take] at lt
  refine ⟨ts.map V.ref, e2, by rw [List.length_map]; exact small9 (by omega), (m.go.trans g).put hD ht, ts ++ [t], ?_, ?_⟩
  · rw [upd_same, List.map_append]
    rfl
  · rw [take_snoc hb]
    exact Paired.snoc ((os.go m.go.1 g).keep fun a x h => ord_upd e2 h) (ord_upd e2 e)
theorem ords_of {bs : List (List Nat)} (h : ∀ b ∈ bs, Ind b) : ∀ b ∈ bs, IsOrd b := fun b hb => (h b hb).ord

/-- the defs that the law calls -/
structure Defs (P : Program) (w : World) (K : PySem.W.Frag) (mg : Str → Option Value) (base : Heap) (T : Addr)
    (fU fT fB fK fL fC fF fW gP gD gO gS gB gE : Addr) (dU dT dB dK dL dC dF dW eP eD eO eS eB eE : FuncData) : Prop where
  und : Cl P w K mg base 5 "undone" ["order"] (spUnd T) fU dU
  trn : Cl P w K mg base 5 "turned" ["order"] (spTrn T) fT dT
  bsd : Cl P w K mg base 5 "beside" ["order", "other"] (spBsd K T) fB dB
  blk : Cl P w K mg base 5 "blocks" ["order"] (spBlk K T) fK dK
  lev : Cl P w K mg base 5 "level" ["order"] (spLev K T) fL dL
  cod : Cl P w K mg base 5 "code" ["order"] (spNum K T cod) fC dC
  fls : Cl P w K mg base 5 "falls" ["order"] (spNum K T fls) fF dF
  wps : Cl P w K mg base 5 "wrong_pairs" ["order"] (spWps K T) fW dW
  pot : Cl P w K mg base 5 "_law_pot" ["_law_script", "_law_k"] (spPot K T) gP eP
  draw : Cl P w K mg base 5 "_law_draw" ["_law_pot_here", "_law_size"] (spDraw T) gD eD
  order : Cl P w K mg base 5 "_law_order" ["_law_pot_here", "_law_many"] (spOrder T) gO eO
  passed : Cl P w K mg base 5 "_law_passed" ["_law_pot_here", "_law_order_here"] (spPassed T) gS eS
  lbl : Cl P w K mg base 5 "_law_blocks" ["_law_order_here"] (spLbl K T) gB eB
  lbs : Cl P w K mg base 5 "_law_beside" ["_law_order_here", "_law_other"] (spLbs K T) gE eE
  B : Bl2 mg
/-- what must be known of the defs' parameters for calls with keywords -/
structure Kws (K : PySem.W.Frag) (dK dB : FuncData) : Prop where
  blk : KBinds K dK ["order"] ["order"] kw1 kw1
  bsd : KBinds K dB ["order", "other"] ["other", "order"] kw2 kw2

section
variable {P : Program} {w : World} {K : PySem.W.Frag} {mg : Str → Option Value} {base : Heap} {T : Addr}
  {fU fT fB fK fL fC fF fW gP gD gO gS gB gE : Addr} {dU dT dB dK dL dC dF dW eP eD eO eS eB eE : FuncData}
def spOne (T : Addr) : Sp := fun vs H Q _ => ∃ (q a : Addr) (o : List Nat), vs = [.ref q, .ref a] ∧ OrdK true H a (vl o) ∧ IsOrd o ∧ PotAt H q ∧ GxR.TabG H T ∧ ∀ H', Gp T q H H' → Q (.bl true) H'
theorem ok_one_right {f : Addr} {fd : FuncData} (F : Fun K "_law_one_right" "_law_one_right" s_one_right f fd) (D : Defs P w K mg base T fU fT fB fK fL fC fF fW gP gD gO gS gB gE dU dT dB dK dL dC dF dW eP eD eO eS eB eE) (W : Kws K dK dB) :
    FnG P w K mg base 6 f fd ["_law_pot_here", "_law_order_here"] (spOne T) := by
  refine okG F sc_one_right (fun vs H Q E h => ?_) (fun cdv A outer s H vs Q E hg hr h => ?_)
  · obtain ⟨q, a, o, rfl, _⟩ := h
    rfl
  · obtain ⟨q, a, o, rfl, ha, io, pt, ht, k⟩ := h
    have b9 := io.hi
    have hun := hr.un
    have eu : (A.deeper (envOfC "_law_one_right" (defScope s_one_right) s.heap.objs.size f cdv)).units = A.units + 3 := rfl
    have hu : A.units + 3 + 64 < cLine := by omega
    have hu2 : A.units + 3 + (2 + 1) < cLine := by omega
    obtain ⟨nb0, inds, eo⟩ := blk_parts io
    have lb : (blk o).length ≤ 9 := by
      rw [blk_len]
      exact Nat.le_trans (cuts_len o) b9
    have nb := nice_ords (ords_of inds) lb
    refine ⟨_, pss_cons (ps_set (i := 2) sc_one_right.nd rfl (Or.inl rfl) (pe_cl D.passed hr (by rfl) (pa_cons (pv 0) (pa_cons (pv 1) pa_nil))))
      (pss_cons (ps_par3 (i := 3) (j := 4) (l := 5) (by rfl) sc_one_right.nd rfl rfl rfl (by decide) (by decide) (by decide) rfl rfl rfl (pa_cons (pe_callB (cr_reprD (n := 2) hg hu2) (by rfl) D.B.repr (by decide +kernel) (pa_cons (pv 2) pa_nil)) (pa_cons (pe_cl D.lbl hr (by rfl) (pa_cons (pv 1) pa_nil)) (pa_cons (pe_cl D.blk hr (by rfl) (pa_cons (pv 2) pa_nil)) pa_nil))) (by rfl))
      (pss_cons (ps_if (PW.pt (pw_or (pt_not (pt_val (pe_callB call_isi (by rfl) D.B.b.isinstance (by decide +kernel) (pa_cons (pv 5) (pa_cons (pe_bltn (v := .ty "list") (by rfl) D.B.b.list (by decide +kernel) rfl) pa_nil)))))
          (pw_or1 (pt_cmpR op_ne (pe_callB (cr_reprD (n := 2) hg hu2) (by rfl) D.B.repr (by decide +kernel) (pa_cons (pv 5) pa_nil)) (pe_callB (cr_reprD (n := 2) hg hu2) (by rfl) D.B.repr (by decide +kernel) (pa_cons (pv 4) pa_nil)) (nomark _))))) (pss_one (ps_ret pe_bl)) pss_nil)
      (pss_cons (ps_expr (pe_bm PySem.F.plainAttrs_list PySem.F.slot_list_append PySem.F.type_list_append mt_append (pv 5) (pa_cons pe_non pa_nil)))
      (pss_cons (ps_if (PW.pt (pw_or (pt_cmpR op_ne (pe_callB (cr_reprD (n := 2) hg hu2) (by rfl) D.B.repr (by decide +kernel) (pa_cons (pe_callKW D.blk.ok hr (by rfl) D.blk.at_ D.blk.kp W.blk pass0 (pk_cons (pv 1) pk_nil)) pa_nil)) (pe_callB (cr_reprD (n := 2) hg hu2) (by rfl) D.B.repr (by decide +kernel) (pa_cons (pv 4) pa_nil)) (nomark _))
          (pw_or1 (pt_cmpR op_ne (pe_callB (cr_reprD (n := 2) hg hu2) (by rfl) D.B.repr (by decide +kernel) (pa_cons (pv 2) pa_nil)) (pv 3) (nomark _))))) (pss_one (ps_ret pe_bl)) pss_nil)
      (pss_cons (ps_set (i := 6) sc_one_right.nd rfl (Or.inl rfl) (pe_ix ix_list (pv 4) pe_int (fun _ _ => rfl)))
      (pss_cons (ps_for PassesOwn.never rfl (pi_list (pe_slice sl_list (pv 4) (po_some pe_int) po_none)) (pg_name (i := 7) sc_one_right.nd rfl (.inl rfl))
        (pss_one (ps_set (i := 6) sc_one_right.nd rfl (Or.inl rfl) (pe_cl D.bsd hr (by rfl) (pa_cons (pv 6) (pa_cons (pe_cl D.passed hr (by rfl) (pa_cons (pv 0) (pa_cons (pv 7) pa_nil))) pa_nil))))))
      (pss_cons (ps_if (PW.pt (pw_or (pt_cmpR op_ne (pe_callB (cr_reprD (n := 2) hg hu2) (by rfl) D.B.repr (by decide +kernel) (pa_cons (pv 6) pa_nil)) (pe_callB (cr_reprD (n := 2) hg hu2) (by rfl) D.B.repr (by decide +kernel) (pa_cons (pv 1) pa_nil)) (nomark _))
          (pw_or1 (pt_not (pt_val (pe_callB (cr_all rfl) (by rfl) D.B.b.all (by decide +kernel) (pa_cons (pe_lc (own := [("_law_block", 7)]) (g := gName 7) (tt := tYes) (by rfl) sc_one_right.nd (pi_list (pv 4)) (blkOk_by (by rfl)) (fun _ _ _ _ _ => pg_name (i := 7) sc_one_right.nd rfl (Or.inl rfl)) (fun _ _ _ _ _ => pts_nil)
            (fun _ _ _ _ _ => pe_cmpR (show OpR _ _ (rEqD K) from op_eqD hu) (pe_cl D.blk hr (by rfl) (pa_cons (pv 7) pa_nil)) (pe_lst (pa_cons (pv 7) pa_nil)) (nomark _))) pa_nil))))))) (pss_one (ps_ret pe_bl)) pss_nil)
      (pss_cons (ps_if (pt_cmpR (op_neD hu) (pe_cl D.blk hr (by rfl) (pa_cons (pe_cl D.trn hr (by rfl) (pa_cons (pv 1) pa_nil)) pa_nil))
          (pe_lc (own := [("_law_block", 7)]) (g := gName 7) (tt := tYes) (by rfl) sc_one_right.nd (pi_list (pe_rev (pv 4))) (blkOk_by (by rfl)) (fun _ _ _ _ _ => pg_name (i := 7) sc_one_right.nd rfl (Or.inl rfl)) (fun _ _ _ _ _ => pts_nil) (fun _ _ _ _ _ => pe_cl D.trn hr (by rfl) (pa_cons (pv 7) pa_nil))) (nomark _)) (pss_one (ps_ret pe_bl)) pss_nil)
      (pss_one (ps_ret (pe_cmpR (op_eqD hu) (pe_cl D.blk hr (by rfl) (pa_cons (pe_cl D.und hr (by rfl) (pa_cons (pv 1) pa_nil)) pa_nil))
          (pe_lc (own := [("_law_block", 7)]) (g := gName 7) (tt := tYes) (by rfl) sc_one_right.nd (pi_list (pv 4)) (blkOk_by (by rfl)) (fun _ _ _ _ _ => pg_name (i := 7) sc_one_right.nd rfl (Or.inl rfl)) (fun _ _ _ _ _ => pts_nil) (fun _ _ _ _ _ => pe_cl D.und hr (by rfl) (pa_cons (pv 7) pa_nil))) (nomark _)))))))))))), ?_⟩
    -- passed, stay, due, told
    refine ⟨.ref q, rfl, .ref a, rfl, q, a, o, rfl, ha, pt, ht, fun H1 b p m1 ep pq => ?_⟩
    have np := io.niceB b
    have a1 := m1.ordT ht pt ha
    refine ⟨.ref p, rfl, p, _, rfl, ord_dpB ep, np.shw, np.noDict, np.dep, np.fit, ?_⟩
    refine ⟨.ref a, rfl, a, o, rfl, a1.lt, io, m1.tab, fun H2 d ds g2 hd ed od => ?_⟩
    refine ⟨.ref p, rfl, p, o, rfl, (g2.ord m1.tab ep).lt, io, g2.1, fun H3 t ts g3 htn et ot => ?_⟩
    refine ⟨_, _, _, rfl, ?_⟩
    -- isinstance(told, list), repr(told) != repr(due)
    refine ⟨.ref t, rfl, .ref t, .ty "list", _, _, true, rfl, .ty _, .base (.lst et), kit_ty (by decide +kernel), true, rfl, iteF ?_⟩
    refine ⟨.ref t, rfl, t, _, rfl, .lst (SqL.of et) (ords_dp ot), nb.shw, nb.noDict, nb.dep, nb.fit, .ref d, rfl, d, _, rfl, .lst (SqL.of (g3.lst g2.1 ed)) (ords_dp (od.go g2.1 g3)), nb.shw, nb.noDict, nb.dep, nb.fit, ne_str ⟨false, rfl, iteF ?_⟩⟩
    -- told.append(None)
    have lts := Paired.length ot
    refine ⟨.ref t, rfl, .inl ⟨rfl, _, SqL.of et⟩, t, _, _, rfl, rfl, et, by rw [List.length_map]; exact small9 (by omega), ?_⟩
    have g4' : Go T H2 (upd H3 t (.lst (ts.map V.ref ++ [V.non]))) := g3.put htn g2.1
    have m2 := m1.then g2
    have m4 := m2.then g4'
    have ed4 := g4'.lst g2.1 ed
    have od4 := od.go g2.1 g4'
    have a4 := m4.ordT ht pt ha
    have ep4 := g4'.ord g2.1 (g2.ord m1.tab ep)
    have dq : d ≠ q := by
      obtain ⟨x, y, e, _⟩ := m1.pot
      exact none_ne hd e
    have fin : ∀ H', Gp T q (upd H3 t (.lst (ts.map V.ref ++ [V.non]))) H' → Q (.bl true) H' := fun H' g => k H' (m4.trans g)
    have ts4 := m4.tab
    have p4 := m4.pot
    generalize upd H3 t (.lst (ts.map V.ref ++ [V.non])) = S at g4' m4 ed4 od4 a4 ep4 fin ts4 p4 ⊢
    -- repr(blocks(order = order)) != repr(due), repr(passed) != stay
    refine ⟨.ref a, rfl, a, o, rfl, a4.lt, io, ts4, fun H5 r rs g5 _ er ors => ?_⟩
    refine ⟨r, _, rfl, .lst (SqL.of er) (ords_dp ors), nb.shw, nb.noDict, nb.dep, nb.fit, .ref d, rfl, d, _, rfl, .lst (SqL.of (g5.lst ts4 ed4)) (ords_dp (od4.go ts4 g5)), nb.shw, nb.noDict, nb.dep, nb.fit, ne_str ⟨false, rfl, iteF ?_⟩⟩
    refine ⟨.ref p, rfl, p, _, rfl, ord_dpB (g5.ord ts4 ep4), np.shw, np.noDict, np.dep, np.fit, _, rfl, ne_str ⟨false, rfl, iteF ?_⟩⟩
    -- whole = due[0]
    have c5 := g5.gp ts4 p4
    have ed5 := g5.lst ts4 ed4
    have od5 := od4.go ts4 g5
    obtain ⟨b0, br, ebs⟩ : ∃ b0 br, blk o = b0 :: br := by
      cases e : blk o with
      | nil => exact absurd e nb0
      | cons x y => exact ⟨x, y, rfl⟩
    obtain ⟨d0, dr, eds, od0, odr⟩ : ∃ d0 dr, ds = d0 :: dr ∧ OrdK true H5 d0 (vl b0) ∧ OrdsAt H5 dr br := by
      rw [ebs] at od5
      cases od5 with
      | cons r q => exact ⟨_, _, rfl, r, q⟩
    have edc : H5 d = some (.lst ((d0 :: dr).map V.ref)) := by rw [← eds]; exact ed5
    have at0 : atI ((d0 :: dr).map V.ref) 0 = some (.ref d0) := atI_nat (show ((d0 :: dr).map V.ref)[0]? = some (V.ref d0) from rfl)
    refine ⟨.ref d, rfl, d, _, 0, _, rfl, rfl, SqL.of edc, at0, ?_⟩
    -- beside one another
    refine ⟨.ref d, rfl, 1, rfl, d, _, rfl, SqL.of edc, fun l hl => ?_⟩
    rw [show cutV (List.map V.ref (d0 :: dr)) (some 1) none = dr.map V.ref from cut_rest _ _]
    have g6' := Go.new (o := .lst (dr.map V.ref)) c5.tab hl
    have c6 := c5.then g6'
    have el : (upd H5 l (.lst (dr.map V.ref))) l = some (.lst (dr.map V.ref)) := upd_same
    have lq : l ≠ q := by
      obtain ⟨x, y, e, _⟩ := c5.pot
      exact none_ne hl e
    have od06 := g6'.ord c5.tab od0
    have odr6 := odr.go c5.tab g6'
    generalize upd H5 l (.lst (dr.map V.ref)) = S6 at g6' c6 el od06 odr6 ⊢
    have t6 := c6.tab
    have p6 := c6.pot
    have lds := Paired.length odr6
    have lbs : (blk o).length = br.length + 1 := by rw [ebs]; rfl
    have ltake : ∀ m, (bsdAll ((blk o).take m)).length ≤ 9 := fun m => by
      have e := congrArg List.length eo
      rw [← List.take_append_drop m (blk o), bsdAll_append, len_bsd] at e
      rw [← List.take_append_drop m (blk o), List.take_append_drop] 
      omega
    refine ⟨l, rfl, ⟨_, SqL.of el⟩, ?_⟩
    refine for_list (xs := dr.map V.ref) (fun i σ H7 => ∃ (wv : Addr) (tv : Option V), σ = [some (.ref q), some (.ref a), some (.ref p), some (.str (dO b o).shown), some (.ref d), some (.ref t), some (.ref wv), tv] ∧ Gp T q S6 H7 ∧ OrdK true H7 wv (vl (bsdAll ((blk o).take (i + 1)))))
      ⟨d0, none, rfl, Gp.refl t6 p6, by rw [ebs]; show OrdK true S6 d0 (vl (bsd b0 [])); rw [bsd_nil]; exact od06⟩ ?_ ?_ ?_
    · rintro i σ H7 _ ⟨wv, tv, _, g7, _⟩
      exact SqL.of (g7.lst t6 lq el)
    · rintro i x σ H7 hx ⟨wv, tv, rfl, g7, ew⟩
      rw [List.getElem?_map] at hx
      obtain ⟨ti, hti, rfl⟩ := Option.map_eq_some_iff.mp hx
      obtain ⟨bi, hbi, eti⟩ := Paired.getL odr6 hti
      have hb2 : (blk o)[i + 1]? = some bi := by rw [ebs]; exact hbi
      have ibi := (inds bi (List.mem_of_getElem? hb2)).ord
      refine ⟨.ref wv, rfl, .ref q, rfl, .ref ti, rfl, q, ti, bi, rfl, g7.ordT t6 p6 eti, g7.pot, g7.tab, fun H8 bb pp c8 ep8 _ => ?_⟩
      have stp : bsdAll ((blk o).take (i + 1 + 1)) = bsd (bsdAll ((blk o).take (i + 1))) bi := by
        rw [take_snoc hb2, bsdAll_append]
        show bsd _ (bsd bi []) = _
        rw [bsd_nil]
      have l2 := ltake (i + 1 + 1)
      rw [stp, len_bsd] at l2
      have iw : IsOrd (bsdAll ((blk o).take (i + 1))) := bsdAll_ord _ (by rw [ebs]; simp) (fun y hy => inds y (List.mem_of_mem_take hy)) (ltake _)
      refine ⟨true, bb, wv, pp, _, bi, rfl, c8.ordT g7.tab g7.pot ew, ep8, iw, ibi, l2, c8.tab, fun H9 r9 g9 _ e9 => ⟨r9, _, rfl, g7.trans (c8.then g9), ?_⟩⟩
      rw [stp]
      exact e9
    · rintro σ H7 ⟨wv, tv, rfl, g7, ew⟩
      rw [List.length_map, List.take_of_length_le (by omega), ← eo] at ew
      -- repr(whole) != repr(order)
      have a7 := (c6.trans g7).ordT ts4 p4 a4
      have n2 := io.niceB true
      refine ⟨.ref wv, rfl, wv, dO true o, rfl, ord_dpB ew, n2.shw, n2.noDict, n2.dep, n2.fit, .ref a, rfl, a, dO true o, rfl, ord_dpB a7, n2.shw, n2.noDict, n2.dep, n2.fit, ne_str ⟨false, rfl, iteF ?_⟩⟩
      have ed7 : H7 d = some (.lst (ds.map V.ref)) := (c6.trans g7).lst ts4 dq ed4
      have od7 : OrdsAt H7 ds (blk o) := od4.gp ts4 p4 (c6.trans g7)
      have t7 := g7.tab
      have dlen := Paired.length od7
      have fin7 : ∀ H', Go T H7 H' → Q (.bl true) H' := fun H' g => fin H' ((c6.trans g7).then g)
      clear ew g7 fin k
      -- all(blocks(block) == [block] for block in due)
      refine ⟨.ref d, rfl, d, rfl, ⟨_, SqL.of ed7⟩, fun L hL => ?_⟩
      refine lc_list (xs := ds.map V.ref) (fun i H8 => Go T H7 H8 ∧ H8 L = some (.lst ((List.replicate i true).map V.bl))) ⟨Go.new t7 hL, upd_same⟩ (fun i H8 _ m => SqL.of (m.1.lst t7 ed7)) (fun i x H8 hx m => ?_) (fun H8 m => ?_)
      · obtain ⟨g8, e8⟩ := m
        rw [List.getElem?_map] at hx
        obtain ⟨ti, hti, rfl⟩ := Option.map_eq_some_iff.mp hx
        obtain ⟨bi, hbi, eti⟩ := Paired.getL od7 hti
        have ii := inds bi (List.mem_of_getElem? hbi)
        have hi : i < (blk o).length := (List.getElem?_eq_some_iff.mp hbi).1
        refine ⟨rfl, .ref ti, rfl, ti, bi, rfl, (g8.ord t7 eti).lt, ii.ord, g8.1, fun H9 r9 rs9 g9 _ e9 o9 => ?_⟩
        rw [blk_ind ii] at o9
        refine ⟨.ref ti, rfl, by show 1 ≤ sizeLine; decide, fun z hz => ?_⟩
        have g10 := Go.new (o := .lst [.ref ti]) g9.1 hz
        have n1 := nice_ords (bs := [bi]) (fun y hy => by cases List.mem_singleton.mp hy; exact ii.ord) (by show 1 ≤ 9; decide)
        refine eq_data (.lst (SqL.of (g10.lst g9.1 e9)) (ords_dp (o9.go g9.1 g10))) (.lst (SqL.of upd_same) (.cons (ord_dp ((g9.trans g10).ord g8.1 (g8.ord t7 eti))) .nil)) n1 (by decide) ?_
        have gg := g9.trans g10
        refine ⟨_, gg.lst g8.1 e8, by rw [List.length_map, List.length_replicate]; exact small9 (by omega), (g8.trans gg).put hL t7, ?_⟩
        rw [upd_same, List.replicate_succ', List.map_append]
        rfl
      · obtain ⟨g8, e8⟩ := m
        rw [List.length_map] at e8
        refine ⟨L, List.replicate ds.length true, rfl, SqL.of e8, ?_⟩
        rw [all_true]
        refine ⟨true, rfl, iteF ?_⟩
        have t8 := g8.1
        have ed8 := g8.lst t7 ed7
        have od8 := od7.go t7 g8
        have a8 := g8.ord t7 a7
        -- blocks(turned(order)) != [turned(block) for block in due[::-1]]
        refine ⟨.ref a, rfl, true, a, o, rfl, a8, io, t8, fun H9 x9 g9 _ e9 => ?_⟩
        refine ⟨x9, _, rfl, e9.lt, ord_trn io, g9.1, fun H10 x10 ts10 g10' _ e10 o10 => ?_⟩
        have g10 := g9.trans g10'
        rw [blk_trn io] at o10
        refine ⟨.ref d, rfl, false, d, ds.map V.ref, rfl, g10.lst t8 ed8, fun v hv => ?_⟩
        have g11' : Go T H10 (upd H10 v (if false = true then .tup (ds.map V.ref).reverse else .lst (ds.map V.ref).reverse)) := Go.new g10.1 hv
        have g11 := g10.trans g11'
        have ev : (upd H10 v (if false = true then .tup (ds.map V.ref).reverse else .lst (ds.map V.ref).reverse)) v = some (.lst (ds.reverse.map V.ref)) := by
          rw [upd_same, List.map_reverse]
          rfl
        have o10 := o10.go g10.1 g11'
        have e10 := g11'.lst g10.1 e10
        generalize upd H10 v (if false = true then .tup (ds.map V.ref).reverse else .lst (ds.map V.ref).reverse) = S11 at g11' g11 ev o10 e10 ⊢
        have od11 : OrdsAt S11 ds.reverse (blk o).reverse := Paired.rev (od8.go t8 g11)
        have t11 := g11.1
        refine ⟨v, rfl, ⟨_, SqL.of ev⟩, fun L2 hL2 => ?_⟩
        have lr : ((blk o).reverse.map trn).length ≤ 9 := by rw [List.length_map, List.length_reverse]; exact lb
        refine lc_list (xs := ds.reverse.map V.ref) (fun i H12 => BMade T S11 L2 (((blk o).reverse.map trn).take i) H12) ⟨Go.new t11 hL2, [], upd_same, .nil⟩ (fun i H12 _ m => SqL.of (m.go.lst t11 ev)) (fun i x H12 hx m => ?_) (fun H12 m => ?_)
        · rw [List.getElem?_map] at hx
          obtain ⟨ti, hti, rfl⟩ := Option.map_eq_some_iff.mp hx
          obtain ⟨bi, hbi, eti⟩ := Paired.getL (od11.go t11 m.go) hti
          have ii := inds bi (List.mem_reverse.mp (List.mem_of_getElem? hbi))
          refine ⟨rfl, .ref ti, rfl, true, ti, bi, rfl, eti, ii.ord, m.go.1, fun H13 r13 g13 _ e13 => ?_⟩
          exact m.more hL2 t11 g13 (by rw [List.getElem?_map, hbi]; rfl) e13 lr
        · have ll : (ds.reverse.map V.ref).length = ((blk o).reverse.map trn).length := by rw [List.length_map, List.length_reverse, List.length_map, List.length_reverse, dlen]
          rw [ll, List.take_length] at m
          obtain ⟨ts12, e12, o12⟩ := m.new
          have nt := nice_ords (bs := (blk o).reverse.map trn) (fun y hy => by
            obtain ⟨z, hz, rfl⟩ := List.mem_map.mp hy
            exact ord_trn (inds z (List.mem_reverse.mp hz)).ord) lr
          refine ne_data (.lst (SqL.of (m.go.lst t11 e10)) (ords_dp (o10.go t11 m.go))) (.lst (SqL.of e12) (ords_dp o12)) nt (by decide) ⟨false, rfl, iteF ?_⟩
          have g12 := g8.trans (g11.trans m.go)
          have t12 := g12.1
          have ed12 := g12.lst t7 ed7
          have od12 := od7.go t7 g12
          have a12 := g12.ord t7 a7
          -- blocks(undone(order)) == [undone(block) for block in due]
          refine ⟨.ref a, rfl, true, a, o, rfl, a12, io, t12, fun H13 x13 g13 _ e13 => ?_⟩
          refine ⟨x13, _, rfl, e13.lt, ord_und io, g13.1, fun H14 x14 ts14 g14' _ e14 o14 => ?_⟩
          have g14 := g13.trans g14'
          rw [blk_und io] at o14
          have t14 := g14.1
          have ed14 := g14.lst t12 ed12
          have od14 := od12.go t12 g14
          refine ⟨.ref d, rfl, d, rfl, ⟨_, SqL.of ed14⟩, fun L3 hL3 => ?_⟩
          have lu : ((blk o).map und).length ≤ 9 := by rw [List.length_map]; exact lb
          refine lc_list (xs := ds.map V.ref) (fun i H15 => BMade T H14 L3 (((blk o).map und).take i) H15) ⟨Go.new t14 hL3, [], upd_same, .nil⟩ (fun i H15 _ m => SqL.of (m.go.lst t14 ed14)) (fun i x H15 hx m => ?_) (fun H15 m => ?_)
          · rw [List.getElem?_map] at hx
            obtain ⟨ti, hti, rfl⟩ := Option.map_eq_some_iff.mp hx
            obtain ⟨bi, hbi, eti⟩ := Paired.getL (od14.go t14 m.go) hti
            have ii := inds bi (List.mem_of_getElem? hbi)
            refine ⟨rfl, .ref ti, rfl, true, ti, bi, rfl, eti, ii.ord, m.go.1, fun H16 r16 g16 _ e16 => ?_⟩
            exact m.more hL3 t14 g16 (by rw [List.getElem?_map, hbi]; rfl) e16 lu
          · have ll : (ds.map V.ref).length = ((blk o).map und).length := by rw [List.length_map, List.length_map, dlen]
            rw [ll, List.take_length] at m
            obtain ⟨ts15, e15, o15⟩ := m.new
            have nu := nice_ords (bs := (blk o).map und) (fun y hy => by
              obtain ⟨z, hz, rfl⟩ := List.mem_map.mp hy
              exact ord_und (inds z hz).ord) lu
            exact eq_data (.lst (SqL.of (m.go.lst t14 e14)) (ords_dp (o14.go t14 m.go))) (.lst (SqL.of e15) (ords_dp o15)) nu (by decide) (fin7 _ (g12.trans (g14.trans m.go)))
end
end Lb

set_option Elab.async false
set_option linter.all false
set_option maxRecDepth 100000
set_option maxHeartbeats 4000000
namespace Lb
open PySem PySem.Spec PyProof.Rows L2

abbrev s_two_right : Stmt := topS 29
theorem sc_two_right : FnScope ["_law_pot_here", "_law_order_here", "_law_other", "_law_made", "_law_due", "_law_many", "_law_far", "_law_at", "_law_near", "_law_later"] ["_law_pot_here", "_law_order_here", "_law_other"] (defScope s_two_right) := ⟨rfl, rfl, rfl, by decide +kernel, rfl, by decide +kernel, by decide +kernel⟩
theorem Paired.app {α β : Type} {R : α → β → Prop} : ∀ {l : List α} {m : List β} {l2 : List α} {m2 : List β}, Paired R l m → Paired R l2 m2 → Paired R (l ++ l2) (m ++ m2)
  | _, _, _, _, .nil, q => q
  | _, _, _, _, .cons r t, q => .cons r (Paired.app t q)
def pairD (ps : List (Nat × Nat)) : List PyData := ps.map fun p => PyData.tuple [.int (p.1 : Int), .int (p.2 : Int)]
theorem pairs_dp {K : PySem.W.Frag} {H : Hp} : ∀ {ts : List Addr} {ps : List (Nat × Nat)}, PairsAt H ts ps → DpAll K H (ts.map V.ref) (pairD ps)
  | _, _, .nil => .nil
  | _, _, .cons r t => .cons (.tup (SqT.of r) (.cons (.int _) (.cons (.int _) .nil))) (pairs_dp t)
theorem nice_pairs {ps : List (Nat × Nat)} (h : ∀ p ∈ ps, p.1 < 100 ∧ p.2 < 100) (hl : ps.length ≤ 90) : Nice 2 4000 (.list (pairD ps)) := by
  refine (nice_list (n := 1) (m := 12) (ds := pairD ps) fun d hd => ?_).mono (by decide) (by unfold pairD; rw [List.length_map]; omega)
  obtain ⟨p, hp, rfl⟩ := List.mem_map.mp hd
  have := h p hp
  refine (nice_tup (n := 0) (m := 2) (ds := [.int (p.1 : Int), .int (p.2 : Int)]) fun x hx => ?_).mono (by decide) (by show (2 + 2) * 2 + 4 ≤ 12; decide)
  rcases List.mem_cons.mp hx with rfl | hx
  · exact nice_int this.1
  · cases List.mem_singleton.mp hx
    exact nice_int this.2
theorem nice_nums {l : List Nat} (h : ∀ k ∈ l, k < 100) (hl : l.length ≤ 100) : Nice 2 4000 (.list (dl l)) := (nice_ord h hl).1.mono (by decide) (by decide)
theorem cod_small {o : List Nat} (h : o.length ≤ 9) : ∀ k ∈ cod o, k < 100 := fun k hk => by
  unfold cod at hk
  obtain ⟨p, _, rfl⟩ := List.mem_map.mp hk
  have := cnt_le (wps o) p
  have := lev_le h
  omega
theorem fls_small {o : List Nat} (h : o.length ≤ 9) : (∀ k ∈ fls o, k < 100) ∧ (fls o).length ≤ 9 := by
  refine ⟨fun k hk => ?_, ?_⟩
  · have := List.mem_range.mp (List.mem_filter.mp hk).1
    omega
  · exact Nat.le_trans (List.length_filter_le _ _) (by rw [List.length_range]; omega)
theorem len_blk9 {o : List Nat} (h : o.length ≤ 9) : (blk o).length ≤ 9 := by
  rw [blk_len]
  exact Nat.le_trans (cuts_len o) h
theorem lst_dp {K : PySem.W.Frag} {H : Hp} {p : Addr} {l : List Nat} (e : H p = some (.lst (vl l))) : Dp K H (.ref p) (.list (dl l)) := .lst (SqL.of e) (dp_vl l)

section
variable {P : Program} {w : World} {K : PySem.W.Frag} {mg : Str → Option Value} {base : Heap} {T : Addr}
  {fU fT fB fK fL fC fF fW gP gD gO gS gB gE : Addr} {dU dT dB dK dL dC dF dW eP eD eO eS eB eE : FuncData}
def spTwo (T : Addr) : Sp := fun vs H Q _ => ∃ (q a d : Addr) (o p : List Nat), vs = [.ref q, .ref a, .ref d] ∧ OrdK true H a (vl o) ∧ OrdK true H d (vl p) ∧ IsOrd o ∧ IsOrd p ∧ o.length + p.length ≤ 9 ∧ PotAt H q ∧ GxR.TabG H T ∧ ∀ H', Gp T q H H' → Q (.bl true) H'
theorem ok_two_right {f : Addr} {fd : FuncData} (F : Fun K "_law_two_right" "_law_two_right" s_two_right f fd) (D : Defs P w K mg base T fU fT fB fK fL fC fF fW gP gD gO gS gB gE dU dT dB dK dL dC dF dW eP eD eO eS eB eE) (W : Kws K dK dB) :
    FnG P w K mg base 6 f fd ["_law_pot_here", "_law_order_here", "_law_other"] (spTwo T) := by
  refine okG F sc_two_right (fun vs H Q E h => ?_) (fun cdv A outer s H vs Q E hg hr h => ?_)
  · obtain ⟨q, a, d, o, p, rfl, _⟩ := h
    rfl
  · obtain ⟨q, a, d, o, p, rfl, ha, hd, io, ip, h9, pt, ht, k⟩ := h
    have hun := hr.un
    have eu : (A.deeper (envOfC "_law_two_right" (defScope s_two_right) s.heap.objs.size f cdv)).units = A.units + 3 := rfl
    have hu : A.units + 3 + 64 < cLine := by omega
    have hu2 : A.units + 3 + (2 + 1) < cLine := by omega
    have lo9 := io.hi
    have lp9 := ip.hi
    have ib := ord_bsd io ip h9
    have lb : (bsd o p).length ≤ 9 := by rw [len_bsd]; exact h9
    refine ⟨_, pss_cons (ps_set (i := 3) sc_two_right.nd rfl (Or.inl rfl) (pe_cl D.bsd hr (by rfl) (pa_cons (pe_cl D.passed hr (by rfl) (pa_cons (pv 0) (pa_cons (pv 1) pa_nil))) (pa_cons (pe_cl D.passed hr (by rfl) (pa_cons (pv 0) (pa_cons (pv 2) pa_nil))) pa_nil))))
      (pss_cons (ps_set (i := 4) sc_two_right.nd rfl (Or.inl rfl) (pe_cl D.lbs hr (by rfl) (pa_cons (pv 1) (pa_cons (pv 2) pa_nil))))
      (pss_cons (ps_if (PW.pt (pw_or (pt_cmpR op_ne (pe_callB (cr_reprD (n := 2) hg hu2) (by rfl) D.B.repr (by decide +kernel) (pa_cons (pv 3) pa_nil)) (pe_callB (cr_reprD (n := 2) hg hu2) (by rfl) D.B.repr (by decide +kernel) (pa_cons (pv 4) pa_nil)) (nomark _))
          (pw_or1 (pt_cmpR op_ne (pe_callB (cr_reprD (n := 2) hg hu2) (by rfl) D.B.repr (by decide +kernel) (pa_cons (pe_callKW D.bsd.ok hr (by rfl) D.bsd.at_ D.bsd.kp W.bsd pass0 (pk_cons (pv 2) (pk_cons (pe_callTy call_list_of (by rfl) D.B.b.list (by decide +kernel) (pa_cons (pv 1) pa_nil)) pk_nil))) pa_nil)) (pe_callB (cr_reprD (n := 2) hg hu2) (by rfl) D.B.repr (by decide +kernel) (pa_cons (pv 4) pa_nil)) (nomark _))))) (pss_one (ps_ret pe_bl)) pss_nil)
      (pss_cons (ps_if (PW.pt (pw_or (pt_cmpR (op_neD hu) (pe_cl D.blk hr (by rfl) (pa_cons (pv 3) pa_nil)) (pe_op op_cat (pe_cl D.lbl hr (by rfl) (pa_cons (pv 1) pa_nil)) (pe_cl D.lbl hr (by rfl) (pa_cons (pv 2) pa_nil))) (nomark _))
          (pw_or1 (pt_cmpR op_ne (pe_cl D.lev hr (by rfl) (pa_cons (pv 3) pa_nil)) (pe_op op_add (pe_cl D.lev hr (by rfl) (pa_cons (pv 1) pa_nil)) (pe_cl D.lev hr (by rfl) (pa_cons (pv 2) pa_nil))) (nomark _))))) (pss_one (ps_ret pe_bl)) pss_nil)
      (pss_cons (ps_set (i := 5) sc_two_right.nd rfl (Or.inr rfl) (pe_callB call_len (by rfl) D.B.b.len PySem.boot_len (pa_cons (pv 1) pa_nil)))
      (pss_cons (ps_if (PW.pt (pw_or (pt_cmpR (op_neD hu) (pe_cl D.cod hr (by rfl) (pa_cons (pv 3) pa_nil)) (pe_op op_cat (pe_cl D.cod hr (by rfl) (pa_cons (pv 1) pa_nil)) (pe_cl D.cod hr (by rfl) (pa_cons (pv 2) pa_nil))) (nomark _))
          (pw_or1 (pt_cmpR (op_neD hu) (pe_cl D.und hr (by rfl) (pa_cons (pv 3) pa_nil)) (pe_cl D.lbs hr (by rfl) (pa_cons (pe_cl D.und hr (by rfl) (pa_cons (pv 1) pa_nil)) (pa_cons (pe_cl D.und hr (by rfl) (pa_cons (pv 2) pa_nil)) pa_nil))) (nomark _))))) (pss_one (ps_ret pe_bl)) pss_nil)
      (pss_cons (ps_if (pt_cmpR (op_neD hu) (pe_cl D.fls hr (by rfl) (pa_cons (pv 3) pa_nil)) (pe_op op_cat (pe_cl D.fls hr (by rfl) (pa_cons (pv 1) pa_nil))
          (pe_lc (own := [("_law_at", 7)]) (g := gName 7) (tt := tYes) (by rfl) sc_two_right.nd (pi_list (pe_cl D.fls hr (by rfl) (pa_cons (pv 2) pa_nil))) (blkOk_by (by rfl)) (fun _ _ _ _ _ => pg_name (i := 7) sc_two_right.nd rfl (Or.inl rfl)) (fun _ _ _ _ _ => pts_nil) (fun _ _ _ _ _ => pe_op op_add (pv 7) (pv 5)))) (nomark _)) (pss_one (ps_ret pe_bl)) pss_nil)
      (pss_cons (ps_setLc (i := 6) (own := [("_law_near", 8), ("_law_later", 9)]) (tt := tYes) (by rfl) sc_two_right.nd rfl rfl (by rfl) (pi_list (pe_cl D.wps hr (by rfl) (pa_cons (pv 2) pa_nil))) (blkOk_by (by rfl))
          (fun _ _ _ _ _ => (show PG _ _ (gTup K 2 (gCons (gName 8) (gCons (gName 9) gNil))) from pg_tup rfl (pgs_cons (pg_name (i := 8) sc_two_right.nd rfl (Or.inl rfl)) (pgs_cons (pg_name (i := 9) sc_two_right.nd rfl (Or.inl rfl)) pgs_nil)))) (fun _ _ _ _ _ => pts_nil)
          (fun _ _ _ _ _ => pe_tup (pa_cons (pe_op op_add (pv 8) (pv 5)) (pa_cons (pe_op op_add (pv 9) (pv 5)) pa_nil))))
      (pss_one (ps_ret (pe_and (pe_cmpR (op_eqD hu) (pe_cl D.wps hr (by rfl) (pa_cons (pv 3) pa_nil)) (pe_op op_cat (pe_cl D.wps hr (by rfl) (pa_cons (pv 1) pa_nil)) (pv 6)) (nomark _))
          (pe_one (pe_cmpR (op_eqD hu) (pe_cl D.trn hr (by rfl) (pa_cons (pv 3) pa_nil)) (pe_cl D.bsd hr (by rfl) (pa_cons (pe_cl D.trn hr (by rfl) (pa_cons (pv 2) pa_nil)) (pa_cons (pe_cl D.trn hr (by rfl) (pa_cons (pv 1) pa_nil)) pa_nil))) (nomark _))))))))))))), ?_⟩
    -- made, due
    refine ⟨.ref q, rfl, .ref a, rfl, q, a, o, rfl, ha, pt, ht, fun H1 c1 p1 m1 e1 n1 => ⟨.ref q, rfl, .ref d, rfl, q, d, p, rfl, m1.ordT ht pt hd, m1.pot, m1.tab, fun H2 c2 p2 m2' e2 n2 => ?_⟩⟩
    have m2 := m1.trans m2'
    refine ⟨c1, c2, p1, p2, o, p, rfl, m2'.ord m1.tab n1 e1, e2, io, ip, h9, m2.tab, fun H3 mv g3 _ em => ?_⟩
    have m3 := m2.then g3
    refine ⟨.ref a, rfl, .ref d, rfl, a, d, o, p, rfl, (m3.ordT ht pt ha).lt, (m3.ordT ht pt hd).lt, h9, m3.tab, fun H4 dv g4 _ edv => ?_⟩
    have m4 := m3.then g4
    have em := g4.ord m3.tab em
    have a4 := m4.ordT ht pt ha
    have d4 := m4.ordT ht pt hd
    have ts := m4.tab
    have fin : ∀ H', Go T H4 H' → Q (.bl true) H' := fun H' g => k H' (m4.then g)
    clear k m4 m3 g4 g3 m2 m2' m1 ha hd pt ht
    -- repr(made) != repr(due), repr(beside(other = other, order = list(order))) != repr(due)
    have nm := ib.niceB true
    refine ⟨.ref mv, rfl, mv, dO true (bsd o p), rfl, ord_dpB em, nm.shw, nm.noDict, nm.dep, nm.fit, .ref dv, rfl, dv, dO true (bsd o p), rfl, ord_dpB edv, nm.shw, nm.noDict, nm.dep, nm.fit, ne_str ⟨false, rfl, iteF ?_⟩⟩
    refine ⟨.ref d, rfl, .ref a, rfl, a, vl o, rfl, a4.lt, fun l hl => ?_⟩
    have g5' := Go.new (o := .lst (vl o)) ts hl
    refine ⟨false, true, l, d, o, p, rfl, upd_same, g5'.ord ts d4, io, ip, h9, g5'.1, fun H5 r5 g5 _ e5 => ?_⟩
    have g5 := g5'.trans g5
    refine ⟨r5, dO true (bsd o p), rfl, ord_dpB e5, nm.shw, nm.noDict, nm.dep, nm.fit, .ref dv, rfl, dv, dO true (bsd o p), rfl, ord_dpB (g5.ord ts edv), nm.shw, nm.noDict, nm.dep, nm.fit, ne_str ⟨false, rfl, iteF ?_⟩⟩
    -- blocks(made) != blocks(order) + blocks(other)
    refine ⟨.ref mv, rfl, mv, _, rfl, (g5.ord ts em).lt, ib, g5.1, fun H6 t6 ts6 g6' _ e6 o6 => ?_⟩
    have g6 := g5.trans g6'
    refine ⟨.ref a, rfl, a, o, rfl, (g6.ord ts a4).lt, io, g6.1, fun H7 t7 ts7 g7' _ e7 o7 => ?_⟩
    have g7 := g6.trans g7'
    refine ⟨.ref d, rfl, d, p, rfl, (g7.ord ts d4).lt, ip, g7.1, fun H8 t8 ts8 g8' _ e8 o8 => ?_⟩
    have g8 := g7.trans g8'
    have l7 := Paired.length o7
    have l8 := Paired.length o8
    have k7 := len_blk9 lo9
    have k8 := len_blk9 lp9
    refine ⟨t7, t8, _, _, rfl, rfl, g8'.lst g7.1 e7, e8, Nat.le_of_lt (small9 (by rw [List.length_map, List.length_map]; omega)), fun z hz => ?_⟩
    have gz := Go.new (o := .lst (ts7.map V.ref ++ ts8.map V.ref)) g8.1 hz
    have g9 := g8.trans gz
    have nbk := nice_ords (ords_of (blk_parts ib).2.1) (len_blk9 lb)
    rw [blk_bsd io] at o6 nbk
    have oz : OrdsAt (upd H8 z (.lst (ts7.map V.ref ++ ts8.map V.ref))) (ts7 ++ ts8) (blk o ++ blk p) := Paired.app (o7.go g7.1 (g8'.trans gz)) (o8.go g8.1 gz)
    have ez : (upd H8 z (.lst (ts7.map V.ref ++ ts8.map V.ref))) z = some (.lst ((ts7 ++ ts8).map V.ref)) := by rw [upd_same, List.map_append]
    have g69 := g7'.trans (g8'.trans gz)
    generalize upd H8 z (.lst (ts7.map V.ref ++ ts8.map V.ref)) = S9 at gz g9 oz ez g69 ⊢
    refine ne_data (.lst (SqL.of (g69.lst g6.1 e6)) (ords_dp (o6.go g6.1 g69))) (.lst (SqL.of ez) (ords_dp oz)) nbk (by decide) ⟨false, rfl, iteF ?_⟩
    clear oz ez g69 gz
    -- level(made) != level(order) + level(other)
    refine ⟨.ref mv, rfl, mv, _, rfl, (g9.ord ts em).lt, ib, g9.1, fun H10 g10' => ?_⟩
    have g10 := g9.trans g10'
    refine ⟨.ref a, rfl, a, o, rfl, (g10.ord ts a4).lt, io, g10.1, fun H11 g11' => ?_⟩
    have g11 := g10.trans g11'
    refine ⟨.ref d, rfl, d, p, rfl, (g11.ord ts d4).lt, ip, g11.1, fun H12 g12' => ?_⟩
    have g12 := g11.trans g12'
    refine ⟨_, _, rfl, rfl, rfl, _, rfl, ?_⟩
    rw [decide_eq_true (show V.int ((lev (bsd o p) : Nat) : Int) = V.int (((lev o : Nat) : Int) + ((lev p : Nat) : Int)) by rw [lev_bsd io]; rfl)]
    refine iteF ?_
    -- many
    have l12 := lenV_seq (K := K) (g12.ord ts a4).lt
    rw [vl_len] at l12
    refine ⟨.ref a, rfl, .ref a, _, rfl, l12, ?_⟩
    -- code(made) != code(order) + code(other)
    refine ⟨.ref mv, rfl, mv, _, rfl, (g12.ord ts em).lt, ib, g12.1, fun H13 t13 g13' _ e13 => ?_⟩
    have g13 := g12.trans g13'
    refine ⟨.ref a, rfl, a, o, rfl, (g13.ord ts a4).lt, io, g13.1, fun H14 t14 g14' _ e14 => ?_⟩
    have g14 := g13.trans g14'
    refine ⟨.ref d, rfl, d, p, rfl, (g14.ord ts d4).lt, ip, g14.1, fun H15 t15 g15' _ e15 => ?_⟩
    have g15 := g14.trans g15'
    refine ⟨t14, t15, _, _, rfl, rfl, g15'.lst g14.1 e14, e15, Nat.le_of_lt (small9 (by rw [vl_len, vl_len, len_cod, len_cod]; omega)), fun z hz => ?_⟩
    rw [vl_app, ← cod_bsd io]
    have gz := Go.new (o := .lst (vl (cod (bsd o p)))) g15.1 hz
    have g16 := g15.trans gz
    refine ne_data (lst_dp ((g14'.trans (g15'.trans gz)).lst g13.1 e13)) (lst_dp upd_same) (nice_nums (cod_small lb) (by rw [len_cod]; omega)) (by decide) ⟨false, rfl, iteF ?_⟩
    generalize upd H15 z (.lst (vl (cod (bsd o p)))) = S16 at g16 ⊢
    -- undone(made) != beside(undone(order), undone(other))
    refine ⟨.ref mv, rfl, true, mv, _, rfl, g16.ord ts em, ib, g16.1, fun H17 t17 g17' _ e17 => ?_⟩
    have g17 := g16.trans g17'
    refine ⟨.ref a, rfl, true, a, o, rfl, g17.ord ts a4, io, g17.1, fun H18 t18 g18' _ e18 => ?_⟩
    have g18 := g17.trans g18'
    refine ⟨.ref d, rfl, true, d, p, rfl, g18.ord ts d4, ip, g18.1, fun H19 t19 g19' _ e19 => ?_⟩
    have g19 := g18.trans g19'
    refine ⟨t18, t19, _, _, rfl, (g19'.ord g18.1 e18).lt, e19.lt, by rw [len_und, len_und]; exact h9, g19.1, fun H20 t20 g20' _ e20 => ?_⟩
    have g20 := g19.trans g20'
    rw [← und_bsd io ip h9] at e20
    refine ne_data (ord_dpB ((g18'.trans (g19'.trans g20')).ord g17.1 e17)) (ord_dpB e20) ((ord_und ib).niceB true) (by decide) ⟨false, rfl, iteF ?_⟩
    -- falls(made) != falls(order) + [at + many for at in falls(other)]
    refine ⟨.ref mv, rfl, mv, _, rfl, (g20.ord ts em).lt, ib, g20.1, fun H21 t21 g21' _ e21 => ?_⟩
    have g21 := g20.trans g21'
    refine ⟨.ref a, rfl, a, o, rfl, (g21.ord ts a4).lt, io, g21.1, fun H22 t22 g22' _ e22 => ?_⟩
    have g22 := g21.trans g22'
    refine ⟨.ref d, rfl, d, p, rfl, (g22.ord ts d4).lt, ip, g22.1, fun H23 t23 g23' _ e23 => ?_⟩
    have g23 := g22.trans g23'
    refine ⟨t23, rfl, ⟨_, SqL.of e23⟩, fun L hL => ?_⟩
    have f1 := fls_small lo9
    have f2 := fls_small lp9
    have f3 := fls_small lb
    refine lc_list (xs := vl (fls p)) (fun i H24 => Made T H23 L (((fls p).map (· + o.length)).take i) H24) (Made.start g23.1 hL) (fun i H24 _ m => SqL.of ((m.go hL).lst g23.1 e23)) (fun i x H24 hx m => ?_) (fun H24 m => ?_)
    · obtain ⟨x, hxi, rfl⟩ := vl_inv hx
      have more := m.more (k := x + o.length) hL g23.1 (Go.refl m.1)
      refine ⟨rfl, .int (x : Int), rfl, .int (o.length : Int), rfl, _, _, rfl, rfl, _, more.1, by rw [vl_len, List.length_take, List.length_map]; exact small9 (by omega), ?_⟩
      have at_ : ((fls p).map (· + o.length))[i]? = some (x + o.length) := by
        rw [List.getElem?_map, hxi]
        rfl
      show Made T H23 L _ (upd H24 L (.lst (vl _ ++ [V.int ((x : Int) + (o.length : Int))])))
      rw [show (x : Int) + (o.length : Int) = ((x + o.length : Nat) : Int) by omega, take_snoc at_]
      exact more.2
    · rw [vl_len, List.take_of_length_le (by rw [List.length_map]; exact Nat.le_refl _)] at m
      have g24' := m.go hL
      have g24 := g23.trans g24'
      refine ⟨t22, L, _, _, rfl, rfl, (g23'.trans g24').lst g22.1 e22, m.2.2, Nat.le_of_lt (small9 (by rw [vl_len, vl_len, List.length_map]; omega)), fun z hz => ?_⟩
      rw [vl_app, ← fls_bsd io ip]
      have gz := Go.new (o := .lst (vl (fls (bsd o p)))) g24.1 hz
      have g25 := g24.trans gz
      refine ne_data (lst_dp ((g22'.trans (g23'.trans (g24'.trans gz))).lst g21.1 e21)) (lst_dp upd_same) (nice_nums f3.1 (by omega)) (by decide) ⟨false, rfl, iteF ?_⟩
      generalize upd H24 z (.lst (vl (fls (bsd o p)))) = S25 at g25 ⊢
      -- far
      refine ⟨.ref d, rfl, d, p, rfl, (g25.ord ts d4).lt, ip, g25.1, fun H26 t26 ts26 g26' _ e26 o26 => ?_⟩
      have g26 := g25.trans g26'
      have l26 := Paired.length o26
      have w1 := lev_le (o := o) lo9
      have w2 := lev_le (o := p) lp9
      have w3 := lev_le (o := bsd o p) lb
      refine ⟨t26, rfl, ⟨_, SqL.of e26⟩, fun L2 hL2 => ?_⟩
      refine lc_list (xs := ts26.map V.ref) (fun i H27 => PMade T H26 L2 (((wps p).map (shift o.length)).take i) H27) ⟨(Go.new (o := .lst []) g26.1 hL2).1, fun b u _ e => by rw [upd_ne (ne_of_none e hL2)]; exact e, [], upd_same, .nil⟩ (fun i H27 _ m => SqL.of (Go.lst ⟨m.tab, m.old⟩ g26.1 e26)) (fun i x H27 hx m => ?_) (fun H27 m => ?_)
      · have gm : Go T H26 H27 := ⟨m.tab, m.old⟩
        rw [List.getElem?_map] at hx
        obtain ⟨ti, hti, rfl⟩ := Option.map_eq_some_iff.mp hx
        obtain ⟨pq, hpq, eti⟩ := Paired.getL (o26.go g26.1 gm) hti
        refine ⟨ti, _, rfl, SqT.of eti, rfl, _, _, rfl, _, _, rfl, rfl, rfl, .int (pq.1 : Int), rfl, .int (o.length : Int), rfl, _, _, rfl, rfl, .int (pq.2 : Int), rfl, .int (o.length : Int), rfl, _, _, rfl, rfl, by show 2 ≤ sizeLine; decide, fun t hn => ?_⟩
        obtain ⟨us, eL, eu⟩ := m.new
        have lu := Paired.length eu
        rw [List.length_take, List.length_map] at lu
        have at_ : ((wps p).map (shift o.length))[i]? = some (shift o.length pq) := by
          rw [List.getElem?_map, hpq]
          rfl
        have nDt : L2 ≠ t := ne_of_none eL hn
        have nTt : t ≠ T := tab_ne m.tab hn
        have nTD : L2 ≠ T := tab_ne g26.1 hL2
        refine ⟨us.map V.ref, by rw [upd_ne nDt]; exact eL, by rw [List.length_map]; exact small9 (by omega), ?_, ?_, us ++ [t], ?_, ?_⟩
        · obtain ⟨ps, z, hz⟩ := m.tab
          exact ⟨ps, by rw [upd_ne nTD.symm, upd_ne nTt.symm]; exact z, hz⟩
        · intro b u n e
          rw [upd_ne (ne_of_none e hL2), upd_ne (ne_of_none (m.old b u n e) hn)]
          exact m.old b u n e
        · rw [upd_same, List.map_append]
          rfl
        · rw [take_snoc at_]
          refine Paired.snoc (eu.keep fun b xs e => ?_) ?_
          · rw [upd_ne (ne_of e eL (by intro z; cases z)), upd_ne (ne_of_none e hn)]
            exact e
          · show upd _ L2 _ t = some (.tup [V.int ((pq.1 + o.length : Nat) : Int), V.int ((pq.2 + o.length : Nat) : Int)])
            rw [upd_ne nDt.symm, upd_same]
            rfl
      · have g27' : Go T H26 H27 := ⟨m.tab, m.old⟩
        have g27 := g26.trans g27'
        have ll : (ts26.map V.ref).length = ((wps p).map (shift o.length)).length := by rw [List.length_map, List.length_map, l26]
        rw [ll, List.take_length] at m
        obtain ⟨us, eF, pF⟩ := m.new
        -- wrong_pairs(made) == wrong_pairs(order) + far
        refine ⟨.ref mv, rfl, mv, _, rfl, (g27.ord ts em).lt, ib, g27.1, fun H28 t28 ts28 g28' _ e28 o28 => ?_⟩
        have g28 := g27.trans g28'
        refine ⟨.ref a, rfl, a, o, rfl, (g28.ord ts a4).lt, io, g28.1, fun H29 t29 ts29 g29' _ e29 o29 => ?_⟩
        have g29 := g28.trans g29'
        have l29 := Paired.length o29
        have lF := Paired.length pF
        rw [List.length_map] at lF
        refine ⟨.ref L2, rfl, t29, L2, _, _, rfl, rfl, e29, (g28'.trans g29').lst g27.1 eF, Nat.le_of_lt (small1000 (by rw [List.length_map, List.length_map]; omega)), fun z hz => ?_⟩
        have gz := Go.new (o := .lst (ts29.map V.ref ++ us.map V.ref)) g29.1 hz
        have g30 := g29.trans gz
        rw [wps_bsd io] at o28
        have oz : PairsAt (upd H29 z (.lst (ts29.map V.ref ++ us.map V.ref))) (ts29 ++ us) (wps o ++ (wps p).map (shift o.length)) := Paired.app (o29.go g29.1 gz) (pF.go g27.1 (g28'.trans (g29'.trans gz)))
        have ez : (upd H29 z (.lst (ts29.map V.ref ++ us.map V.ref))) z = some (.lst ((ts29 ++ us).map V.ref)) := by rw [upd_same, List.map_append]
        have np := nice_pairs (ps := wps (bsd o p)) (fun x hx => by have := wps_lt hx; omega) w3
        rw [wps_bsd io] at np
        refine eq_data (.lst (SqL.of ((g29'.trans gz).lst g28.1 e28)) (pairs_dp (o28.go g28.1 (g29'.trans gz)))) (.lst (SqL.of ez) (pairs_dp oz)) np (by decide) ⟨true, rfl, iteT ?_⟩
        generalize upd H29 z (.lst (ts29.map V.ref ++ us.map V.ref)) = S30 at g30 ⊢
        -- turned(made) == beside(turned(other), turned(order))
        refine ⟨.ref mv, rfl, true, mv, _, rfl, g30.ord ts em, ib, g30.1, fun H31 t31 g31' _ e31 => ?_⟩
        have g31 := g30.trans g31'
        refine ⟨.ref d, rfl, true, d, p, rfl, g31.ord ts d4, ip, g31.1, fun H32 t32 g32' _ e32 => ?_⟩
        have g32 := g31.trans g32'
        refine ⟨.ref a, rfl, true, a, o, rfl, g32.ord ts a4, io, g32.1, fun H33 t33 g33' _ e33 => ?_⟩
        have g33 := g32.trans g33'
        refine ⟨true, true, t32, t33, _, _, rfl, g33'.ord g32.1 e32, e33, ord_trn ip, ord_trn io, by rw [len_trn, len_trn]; omega, g33.1, fun H34 t34 g34' _ e34 => ?_⟩
        rw [← trn_bsd io ip] at e34
        exact eq_data (ord_dpB ((g32'.trans (g33'.trans g34')).ord g31.1 e31)) (ord_dpB e34) ((ord_trn ib).niceB true) (by decide) (fin _ (g33.trans g34'))
end
end Lb

set_option Elab.async false
set_option linter.all false
set_option maxRecDepth 100000
set_option maxHeartbeats 4000000
namespace Lb
open PySem PySem.Spec PyProof.Rows L2

abbrev s_right : Stmt := topS 30
abbrev s_law : Stmt := topS 31
theorem sc_right : FnScope ["_law_pot_here", "_law_left", "_law_whole", "_law_turn", "_law_many", "_law_part"] ["_law_pot_here"] (defScope s_right) := ⟨rfl, rfl, rfl, by decide +kernel, rfl, by decide +kernel, by decide +kernel⟩
theorem sc_law : FnScope ["_law_script", "_law_k"] ["_law_script"] (defScope s_law) := ⟨rfl, rfl, rfl, by decide +kernel, rfl, by decide +kernel, by decide +kernel⟩

structure ClG (P : Program) (w : World) (K : PySem.W.Frag) (mg : Str → Option Value) (base : Heap) (k : Nat) (x : Str) (ps : List Str) (sp : Sp) (f : Addr) (fd : FuncData) : Prop where
  ok : FnG P w K mg base k f fd ps sp
  at_ : mg x = some (.ref f)
  kp : PySem.W.keepIn K (.ref f) = true
  bind : Binds K fd ps []
theorem Df.clG {P : Program} {w : World} {K : PySem.W.Frag} {mg : Str → Option Value} {base : Heap} {k : Nat} {x : Str} {st : Stmt} {ps : List Str} {f : Addr} {fd : FuncData} {sp : Sp} (D : Df K mg x st ps f fd) (h : FnG P w K mg base k f fd ps sp) : ClG P w K mg base k x ps sp f fd := ⟨h, D.at_, D.fn.kp, D.bind⟩
section
variable {X : Cx} {k : Nat} {x : Str} {ps : List Str} {sp : Sp} {f : Addr} {fd : FuncData} {p pos : Pos} {e : Expr} {es : List Expr} {t : TA}
theorem pe_clG (C : ClG X.prog X.w X.K X.mg X.base k x ps sp f fd) (hu : X.A.guards = some []) (hr : Room k X.A) (hg : Gl X x) (ha : PA X (e :: es) t)
    (hdb : (x == ("__debug__" : Str)) = false := by decide) (he : starEach (e :: es) X.env = (false, eval e X.env) :: starEach es X.env := by rfl) (hpl : (backTo pos (starEach es X.env)).any (·.1) = false := by rfl) :
    PE X (.Call (.Name x p) (e :: es) [] pos) (tCall sp [] E0 t) := pe_callG C.ok hu hr hg C.at_ C.kp C.bind ha hdb he hpl
end
theorem Gp.go {T q : Addr} {H0 H H' : Hp} (g : Gp T q H H') (a : Go T H0 H) (n : H0 q = none) : Go T H0 H' := ⟨g.tab, fun b u nb e => g.old b u nb (ne_of_none e n) (a.2 b u nb e)⟩
theorem Gp.tupR {T q a : Addr} {H H' : Hp} {xs : List V} (g : Gp T q H H') (t : GxR.TabG H T) (p : PotAt H q) (e : H a = some (.tup xs)) : H' a = some (.tup xs) := by
  obtain ⟨x, y, e2, _⟩ := p
  exact g.old a _ (ne_tab t e fun _ z => by cases z) (ne_of e e2 fun z => by cases z) e
theorem eqv_none (o : List Nat) : PyData.eqv (.tuple (dl o)) (.tuple []) = decide (o = []) := by
  have e : dl o = (o.map fun k : Nat => (k : Int)).map PyData.int := by
    unfold dl
    rw [List.map_map]
    rfl
  have z := eqv_ints (o.map fun k : Nat => (k : Int)) []
  rw [List.map_nil] at z
  rw [PyData.eqv, e, z]
  exact decide_eq_decide.mpr List.map_eq_nil_iff
/-- the parts put beside one another so far: none yet, or an order -/
def Whole (H : Hp) (i : Nat) (wv : Addr) (o : List Nat) : Prop := (i = 0 ∧ o = [] ∧ H wv = some (.tup [])) ∨ (OrdK true H wv (vl o) ∧ IsOrd o)
theorem Whole.gp {T q : Addr} {H H' : Hp} {i : Nat} {wv : Addr} {o : List Nat} (h : Whole H i wv o) (t : GxR.TabG H T) (p : PotAt H q) (g : Gp T q H H') : Whole H' i wv o := by
  rcases h with ⟨a, b, c⟩ | ⟨a, b⟩
  · exact .inl ⟨a, b, g.tupR t p c⟩
  · exact .inr ⟨g.ordT t p a, b⟩
theorem Whole.lt {K : PySem.W.Frag} {H : Hp} {i : Nat} {wv : Addr} {o : List Nat} (h : Whole H i wv o) : SeqLT K H wv (vl o) := by
  rcases h with ⟨_, rfl, c⟩ | ⟨a, _⟩
  · exact .inr (SqT.of c)
  · exact a.lt

section
variable {P : Program} {w : World} {K : PySem.W.Frag} {mg : Str → Option Value} {base : Heap} {T : Addr}
  {fU fT fB fK fL fC fF fW gP gD gO gS gB gE : Addr} {dU dT dB dK dL dC dF dW eP eD eO eS eB eE : FuncData}
def spRt (T : Addr) : Sp := fun vs H Q _ => ∃ (q : Addr), vs = [.ref q] ∧ PotAt H q ∧ GxR.TabG H T ∧ ∀ H', Gp T q H H' → Q (.bl true) H'
theorem ok_right {f f1 f2 : Addr} {fd d1 d2 : FuncData} (F : Fun K "_law_right" "_law_right" s_right f fd) (D : Defs P w K mg base T fU fT fB fK fL fC fF fW gP gD gO gS gB gE dU dT dB dK dL dC dF dW eP eD eO eS eB eE)
    (C1 : ClG P w K mg base 6 "_law_one_right" ["_law_pot_here", "_law_order_here"] (spOne T) f1 d1) (C2 : ClG P w K mg base 6 "_law_two_right" ["_law_pot_here", "_law_order_here", "_law_other"] (spTwo T) f2 d2) :
    FnG P w K mg base 7 f fd ["_law_pot_here"] (spRt T) := by
  refine okG F sc_right (fun vs H Q E h => ?_) (fun cdv A outer s H vs Q E hg hr h => ?_)
  · obtain ⟨q, rfl, _⟩ := h
    rfl
  · obtain ⟨q, rfl, pt, ht, k⟩ := h
    have hun := hr.un
    have eu : (A.deeper (envOfC "_law_right" (defScope s_right) s.heap.objs.size f cdv)).units = A.units + 3 := rfl
    have hu : A.units + 3 + 64 < cLine := by omega
    have hr5 : Room 5 (A.deeper (envOfC "_law_right" (defScope s_right) s.heap.objs.size f cdv)) := hr.mono (by decide)
    refine ⟨_, pss_cons (ps_asg (pe_tup (pa_cons pe_int (pa_cons (pe_tup pa_nil) pa_nil))) (pg_tup rfl (pgs_cons (pg_name (i := 1) sc_right.nd rfl (.inl rfl)) (pgs_cons (pg_name (i := 2) sc_right.nd rfl (.inl rfl)) pgs_nil))))
      (pss_cons (ps_for PassesOwn.never rfl (pi_range1 (by rfl) D.B.b.range (pa_cons (pe_op op_add pe_int (pe_cl D.draw hr5 (by rfl) (pa_cons (pv 0) (pa_cons pe_int pa_nil)))) pa_nil)) (pg_name (i := 3) sc_right.nd rfl (.inl rfl))
        (pss_cons (ps_set (i := 4) sc_right.nd rfl (Or.inl rfl) (pe_op op_add pe_int (pe_cl D.draw hr5 (by rfl) (pa_cons (pv 0) (pa_cons pe_int pa_nil)))))
        (pss_one (ps_if (pt_cmpR op_le (pv 4) (pv 1) (nomark _))
          (pss_cons (ps_set (i := 5) sc_right.nd rfl (Or.inl rfl) (pe_cl D.order hr5 (by rfl) (pa_cons (pv 0) (pa_cons (pv 4) pa_nil))))
          (pss_cons (ps_if (PW.pt (pw_and (pt_cmpR (op_neD hu) (pv 2) (pe_tup pa_nil) (nomark _)) (pw_and1 (pt_not (pt_val (pe_clG C2 hg hr (by rfl) (pa_cons (pv 0) (pa_cons (pv 2) (pa_cons (pv 5) pa_nil))))))))) (pss_one (ps_ret pe_bl)) pss_nil)
          (pss_one (ps_par (i := 2) (j := 1) (by rfl) sc_right.nd rfl rfl (by decide) rfl rfl (pa_cons (pe_cl D.lbs hr5 (by rfl) (pa_cons (pv 2) (pa_cons (pv 5) pa_nil))) (pa_cons (pe_op op_sub (pv 1) (pv 4)) pa_nil)) (by rfl))))) pss_nil))))
      (pss_one (ps_ret (pe_and (pe_clG C1 hg hr (by rfl) (pa_cons (pv 0) (pa_cons (pv 2) pa_nil))) (pe_one (pe_clG C1 hg hr (by rfl) (pa_cons (pv 0) (pa_cons (pe_cl D.order hr5 (by rfl) (pa_cons (pv 0) (pa_cons (pe_op op_add pe_int (pe_cl D.draw hr5 (by rfl) (pa_cons (pv 0) (pa_cons pe_int pa_nil)))) pa_nil))) pa_nil)))))))), ?_⟩
    refine ⟨Nat.zero_le _, fun w0 hw0 => ⟨by show 2 ≤ sizeLine; decide, fun t0 ht0 => ⟨t0, _, rfl, SqT.of upd_same, rfl, _, _, rfl, _, _, rfl, rfl, ?_⟩⟩⟩
    have gw := Go.new (o := .tup []) ht hw0
    have gt0 := Go.new (o := .tup [V.int 9, V.ref w0]) gw.1 ht0
    have ew0 : (upd (upd H w0 (.tup [])) t0 (.tup [V.int 9, V.ref w0])) w0 = some (.tup []) := by
      rw [upd_ne (ne_of_none upd_same ht0), upd_same]
    have m0 := (gw.trans gt0).gp ht pt
    refine ⟨.ref q, rfl, q, 4, rfl, by decide, by decide, m0.pot, m0.tab, fun H1 d c1 hd => ⟨1, _, rfl, rfl, (1 + (d : Int)), rfl, by omega, by omega, ?_⟩⟩
    have m1 := m0.trans c1
    refine for_range (lo := 0) (n := (1 + (d : Int)).toNat) (fun i σ H2 => ∃ (wv : Addr) (o : List Nat) (lf : Nat) (tv mv pv' : Option V), σ = [some (.ref q), some (.int (lf : Int)), some (.ref wv), tv, mv, pv'] ∧ Gp T q H H2 ∧ Whole H2 i wv o ∧ o.length + lf = 9)
      ⟨w0, [], 9, none, none, none, rfl, m1, .inl ⟨rfl, rfl, c1.tupR m0.tab m0.pot ew0⟩, rfl⟩ ?_ ?_
    · rintro i σ H2 hi ⟨wv, o, lf, tv, mv, pv', rfl, m2, wh, l9⟩
      refine ⟨.ref q, rfl, q, 4, rfl, by decide, by decide, m2.pot, m2.tab, fun H3 e c3 he => ⟨1, _, rfl, rfl, ?_⟩⟩
      have m3 := m2.trans c3
      have wh3 := wh.gp m2.tab m2.pot c3
      refine ⟨.int (1 + (e : Int)), rfl, .int (lf : Int), rfl, _, _, rfl, rfl, _, rfl, ite2 (fun c => ?_) (fun c => ?_)⟩
      · have c := of_decide_eq_true c
        have em : (1 : Int) + (e : Int) = ((e + 1 : Nat) : Int) := by omega
        refine ⟨.ref q, rfl, .int (1 + (e : Int)), rfl, q, e + 1, ?_, by omega, by omega, m3.pot, m3.tab, fun H4 pa op c4 hpn ep iop lop => ?_⟩
        · show [V.ref q, V.int (1 + (e : Int))] = _
          rw [em]
        · have m4 := m3.trans c4
          have wh4 := wh3.gp m3.tab m3.pot c4
          refine ⟨.ref wv, rfl, Nat.zero_le _, fun z hz => ?_⟩
          have gz := Go.new (o := .tup []) m4.tab hz
          have m5 := m4.then gz
          have wh5 := wh4.gp m4.tab m4.pot (gz.gp m4.tab m4.pot)
          have ep5 := gz.ord m4.tab ep
          have ezz : (upd H4 z (.tup [])) z = some (.tup []) := upd_same
          generalize upd H4 z (.tup []) = S5 at gz m5 wh5 ep5 ezz ⊢
          have shE : SeqAt.shaped (.tuple []) = true := (nice_ord (o := []) (fun _ h => nomatch h) (by decide)).2.shaped (by decide)
          have dz : Dp K S5 (.ref z) (.tuple []) := .tup (SqT.of ezz) .nil
          -- behind the test: the part is put beside
          have put : ∀ S6, Gp T q H S6 → Whole S6 i wv o → OrdK true S6 pa (vl op) →
              ∀ (QQ : Addr → Hp → Prop), (∀ r S7, Gp T q H S7 → Whole S7 (i + 1) r (bsd o op) → QQ r S7) → spLbs K T [.ref wv, .ref pa] S6 (fun v S7 => ∃ r, v = .ref r ∧ QQ r S7) E0 := by
            intro S6 m6 wh6 ep6 QQ hQ
            refine ⟨wv, pa, o, op, rfl, wh6.lt, ep6.lt, by omega, m6.tab, fun S7 r g7 _ er => ⟨r, rfl, hQ r S7 (m6.then g7) (.inr ⟨er, ?_⟩)⟩⟩
            rcases wh6 with ⟨_, rfl, _⟩ | ⟨_, io⟩
            · rw [nil_bsd]
              exact iop
            · exact ord_bsd io iop (by omega)
          have go : ∀ S6, Gp T q H S6 → Whole S6 i wv o → OrdK true S6 pa (vl op) →
              ∀ (QQ : VK), (∀ r S7, Gp T q H S7 → Whole S7 (i + 1) r (bsd o op) → QQ (.ref r) S7) → spLbs K T [.ref wv, .ref pa] S6 QQ E0 := by
            intro S6 m6 wh6 ep6 QQ hQ
            refine ⟨wv, pa, o, op, rfl, wh6.lt, ep6.lt, by omega, m6.tab, fun S7 r g7 _ er => hQ r S7 (m6.then g7) (.inr ⟨er, ?_⟩)⟩
            rcases wh6 with ⟨_, rfl, _⟩ | ⟨_, io⟩
            · rw [nil_bsd]
              exact iop
            · exact ord_bsd io iop (by omega)
          clear put
          have lb : (bsd o op).length + (lf - (e + 1)) = 9 := by
            rw [len_bsd, lop]
            omega
          have sub : (lf : Int) - (1 + (e : Int)) = ((lf - (e + 1) : Nat) : Int) := by omega
          rcases id wh5 with ⟨i0, rfl, ew⟩ | ⟨ew, io⟩
          · refine ⟨.tuple [], .tuple [], .tup (SqT.of ew) .nil, dz, shE, shE, ?_⟩
            rw [show PyData.eqv (.tuple []) (.tuple []) = true from (nice_ord (o := []) (fun _ h => nomatch h) (by decide)).2.refl]
            refine ⟨false, rfl, iteF (iteF ?_)⟩
            refine ⟨.ref wv, rfl, .ref pa, rfl, go S5 m5 wh5 ep5 _ fun r S7 m7 wh7 => ⟨.int (lf : Int), rfl, .int (1 + (e : Int)), rfl, _, _, rfl, rfl, _, _, rfl, ?_⟩⟩
            exact ⟨r, bsd [] op, lf - (e + 1), _, _, _, by rw [← sub]; rfl, m7, wh7, lb⟩
          · refine ⟨.tuple (dl o), .tuple [], ord_dp ew, dz, io.nice.2.shaped (by decide), shE, ?_⟩
            have no : o ≠ [] := fun z => by
              have := io.lo
              rw [z] at this
              exact absurd this (by decide)
            rw [eqv_none, decide_eq_false no]
            refine ⟨true, rfl, iteT ?_⟩
            refine ⟨.ref q, rfl, .ref wv, rfl, .ref pa, rfl, q, wv, pa, o, op, rfl, ew, ep5, io, iop, by omega, m5.pot, m5.tab, fun S6 c6 => ⟨true, rfl, iteF ?_⟩⟩
            refine ⟨.ref wv, rfl, .ref pa, rfl, go S6 (m5.trans c6) (wh5.gp m5.tab m5.pot c6) (c6.ordT m5.tab m5.pot ep5) _ fun r S7 m7 wh7 => ⟨.int (lf : Int), rfl, .int (1 + (e : Int)), rfl, _, _, rfl, rfl, _, _, rfl, ?_⟩⟩
            exact ⟨r, bsd o op, lf - (e + 1), _, _, _, by rw [← sub]; rfl, m7, wh7, lb⟩
      · refine ⟨wv, o, lf, _, _, _, rfl, m3, ?_, l9⟩
        rcases wh3 with ⟨i0, rfl, _⟩ | h
        · have l9 : 0 + lf = 9 := l9
          exact absurd (decide_eq_true (show (1 : Int) + (e : Int) ≤ (lf : Int) by omega)) c
        · exact .inr h
    · rintro σ H2 ⟨wv, o, lf, tv, mv, pv', rfl, m2, wh, l9⟩
      rcases wh with ⟨i0, _, _⟩ | ⟨ew, io⟩
      · omega
      · refine ⟨.ref q, rfl, .ref wv, rfl, q, wv, o, rfl, ew, io, m2.pot, m2.tab, fun H3 c3 => ⟨true, rfl, iteT ?_⟩⟩
        have m3 := m2.trans c3
        refine ⟨.ref q, rfl, .ref q, rfl, .ref q, rfl, q, 9, rfl, by decide, by decide, m3.pot, m3.tab, fun H4 e c4 he => ⟨1, _, rfl, rfl, ?_⟩⟩
        have m4 := m3.trans c4
        have em : (1 : Int) + (e : Int) = ((e + 1 : Nat) : Int) := by omega
        refine ⟨q, e + 1, ?_, by omega, by omega, m4.pot, m4.tab, fun H5 pa op c5 _ ep iop _ => ?_⟩
        · show [V.ref q, V.int (1 + (e : Int))] = _
          rw [em]
        · exact ⟨q, pa, op, rfl, ep, iop, c5.pot, c5.tab, fun H6 c6 => k _ (m4.trans (c5.trans c6))⟩

def spLaw (K : PySem.W.Frag) (T : Addr) : Sp := fun vs H Q _ => ∃ (a : Addr) (ns : List Int), vs = [.ref a] ∧ SqL K H a (ns.map V.int) ∧ ns.length ≤ 63 ∧ GxR.TabG H T ∧ ∀ H', Q (.bl true) H'
theorem ok_law {f fR : Addr} {fd dR : FuncData} (F : Fun K "law" "law" s_law f fd) (D : Defs P w K mg base T fU fT fB fK fL fC fF fW gP gD gO gS gB gE dU dT dB dK dL dC dF dW eP eD eO eS eB eE)
    (C : ClG P w K mg base 7 "_law_right" ["_law_pot_here"] (spRt T) fR dR) :
    FnG P w K mg base 8 f fd ["_law_script"] (spLaw K T) := by
  refine okG F sc_law (fun vs H Q E h => ?_) (fun cdv A outer s H vs Q E hg hr h => ?_)
  · obtain ⟨a, ns, rfl, _⟩ := h
    rfl
  · obtain ⟨a, ns, rfl, ha, hl, ht, k⟩ := h
    have hr5 : Room 5 (A.deeper (envOfC "law" (defScope s_law) s.heap.objs.size f cdv)) := hr.mono (by decide)
    refine ⟨_, pss_one (ps_ret (pe_callB (cr_all rfl) (by rfl) D.B.b.all (by decide +kernel) (pa_cons
        (pe_lc (own := [("_law_k", 1)]) (g := gName 1) (tt := tYes) (by rfl) sc_law.nd
          (pi_range1 (by rfl) D.B.b.range (pa_cons (pe_callB (call_max2 rfl) (by rfl) D.B.max (by decide +kernel) (pa_cons pe_int (pa_cons (pe_callB (call_min2 rfl) (by rfl) D.B.min (by decide +kernel) (pa_cons pe_int (pa_cons (pe_callB call_len_seq (by rfl) D.B.b.len PySem.boot_len (pa_cons (pv 0) pa_nil)) pa_nil))) pa_nil))) pa_nil))
          (blkOk_by (own := [("_law_k", 1)]) (N := ["_law_script", "_law_k"]) (sc := defScope s_law) (by decide +kernel)) (fun _ _ _ _ _ => pg_name (i := 1) sc_law.nd rfl (Or.inl rfl)) (fun _ _ _ _ _ => pts_nil)
          (fun _ _ _ _ _ => pe_clG C hg hr (by rfl) (pa_cons (pe_cl D.pot hr5 (by rfl) (pa_cons (pv 0) (pa_cons (pv 1) pa_nil))) pa_nil))) pa_nil))), ?_⟩
    refine ⟨.ref a, rfl, a, _, rfl, .inl ha, 3, _, rfl, 1, _, rfl, ?_⟩
    rw [List.length_map]
    obtain ⟨n, e, hn⟩ : ∃ n : Nat, (if (if (ns.length : Int) < 3 then (ns.length : Int) else 3) > 1 then (if (ns.length : Int) < 3 then (ns.length : Int) else 3) else 1) = (n : Int) ∧ n ≤ 3 := by
      by_cases h3 : (ns.length : Int) < 3
      · rw [if_pos h3]
        by_cases h1 : (ns.length : Int) > 1
        · rw [if_pos h1]
          exact ⟨ns.length, rfl, by omega⟩
        · rw [if_neg h1]
          exact ⟨1, rfl, by decide⟩
      · rw [if_neg h3, if_pos (by decide)]
        exact ⟨3, rfl, by decide⟩
    rw [e]
    refine ⟨(n : Int), rfl, by omega, by omega, fun L hL => ?_⟩
    have LT : L ≠ T := tab_ne ht hL
    refine lc_range (lo := 0) (n := ((n : Int)).toNat) (fun i H2 => Go T H H2 ∧ H2 L = some (.lst ((List.replicate i true).map V.bl))) ⟨Go.new ht hL, upd_same⟩ (fun i H2 hi m => ?_) (fun H2 m => ?_)
    · obtain ⟨g, eL⟩ := m
      refine ⟨rfl, .ref a, rfl, .int (0 + (i : Int)), rfl, a, ns, i, ?_, g.seqL ht ha, hl, by omega, g.1, fun H3 q g3 hq pq => ?_⟩
      · rw [Int.zero_add]
        rfl
      · have g3' := g.trans g3
        have hq0 := g.free hq
        refine ⟨q, rfl, pq, g3.1, fun H4 c4 => ?_⟩
        have g4 := c4.go g3' hq0
        have qL : L ≠ q := fun z => by
          rw [z, hq] at eL
          cases eL
        have eL4 := c4.lst g3.1 qL (g3.lst g.1 eL)
        refine ⟨_, eL4, by rw [List.length_map, List.length_replicate]; exact small9 (by omega), g4.put hL ht, ?_⟩
        rw [upd_same, List.replicate_succ', List.map_append]
        rfl
    · obtain ⟨g, eL⟩ := m
      refine ⟨L, List.replicate ((n : Int)).toNat true, rfl, SqL.of eL, ?_⟩
      rw [all_true]
      exact k H2
end
end Lb

set_option Elab.async false
set_option linter.all false
set_option maxRecDepth 100000
set_option maxHeartbeats 4000000
namespace Lb
open PySem PySem.Spec PyProof.Rows L2

section
variable {K : PySem.W.Frag} {mg : Str → Option Value} {h : Heap} {x : Str} {st : Stmt} {ps : List Str} {f : Addr} {oc : Value} {od an : Option Addr} {osl : Array (Option Value)} {kV doc pm cdv ct : Value}
theorem df_mk (X : K.In h) (G : h.Ns mainGlobals mg)
    (b : ∀ (kV doc pm : Value) (an : Option Addr) (cdv ct : Value) (us : List Value), us.length = ps.length → bindArgs (PySem.W.fnOf x x (defArgs st) (defBody st) (defScope st) .none kV doc pm an cdv ct) ⟨us, []⟩ = pure (ps.zip us))
    (a : PySem.W.nsIn K mainGlobals x = some (some (.ref f))) (l : K.lookup f = some ⟨oc, od, .func (PySem.W.fnOf x x (defArgs st) (defBody st) (defScope st) .none kV doc pm an cdv ct), osl⟩) (c : PySem.W.codeIn K cdv x = true) (k : PySem.W.keepIn K (.ref f) = true) :
    Df K mg x st ps f (PySem.W.fnOf x x (defArgs st) (defBody st) (defScope st) .none kV doc pm an cdv ct) := ⟨fun_mk l c k, PySem.W.mg_of X G a, (fun_mk l c k).binds b⟩
end
section
variable {K : PySem.W.Frag} {x : Str} {st : Stmt} {f : Addr} {fd : FuncData}
theorem kb_one {p : Str} (F : Fun K x x st f fd)
    (b : ∀ (kV doc pm : Value) (an : Option Addr) (cdv ct a : Value), bindArgs (PySem.W.fnOf x x (defArgs st) (defBody st) (defScope st) .none kV doc pm an cdv ct) ⟨[], [(p, a)]⟩ = pure [(p, a)]) : KBinds K fd [p] [p] kw1 kw1 := by
  obtain ⟨oc, od, kV, doc, pm, an, cdv, ct, osl, rfl, lk, hcd⟩ := F.ex
  exact ⟨fun s us ws _ hl => match us, ws, hl with
    | [], [a], _ => .of_eq (b kV doc pm an cdv ct a), kw1_rel⟩
theorem kb_two {p r : Str} (F : Fun K x x st f fd)
    (b : ∀ (kV doc pm : Value) (an : Option Addr) (cdv ct a c : Value), bindArgs (PySem.W.fnOf x x (defArgs st) (defBody st) (defScope st) .none kV doc pm an cdv ct) ⟨[], [(r, a), (p, c)]⟩ = pure [(p, c), (r, a)]) : KBinds K fd [p, r] [r, p] kw2 kw2 := by
  obtain ⟨oc, od, kV, doc, pm, an, cdv, ct, osl, rfl, lk, hcd⟩ := F.ex
  exact ⟨fun s us ws _ hl => match us, ws, hl with
    | [], [a, c], _ => .of_eq (b kV doc pm an cdv ct a c), kw2_rel⟩
end

section
variable {P : Program} {w : World} {K : PySem.W.Frag} {mg : Str → Option Value} {base : Heap} {T c : Addr}
theorem law_fn {fO fI fC fWP fLV fCO fU fTU fFA fBK fBE fL1 fL2 fL3 fL4 fL5 fL6 fL7 fM1 fM2 fM3 fM4 : Addr} {dO dI dC dWP dLV dCO dU dTU dFA dBK dBE dL1 dL2 dL3 dL4 dL5 dL6 dL7 dM1 dM2 dM3 dM4 : FuncData}
    (oc : dO.code = .ref c) (TB : GxR.TabB base mg c T) (N : ∃ t, mg "MOST_THINGS" = some (.int 9 t)) (B : Bl2 mg) (mz : mg "zip" = none)
    (O : Df K mg "is_order" s_is_order ["value"] fO dO)
    (I : Df K mg "is_integer" s_is_integer ["value"] fI dI)
    (C : Df K mg "check_order" s_check_order ["order"] fC dC)
    (WP : Df K mg "wrong_pairs" s_wrong_pairs ["order"] fWP dWP)
    (LV : Df K mg "level" s_level ["order"] fLV dLV)
    (CO : Df K mg "code" s_code ["order"] fCO dCO)
    (U : Df K mg "undone" s_undone ["order"] fU dU)
    (TU : Df K mg "turned" s_turned ["order"] fTU dTU)
    (FA : Df K mg "falls" s_falls ["order"] fFA dFA)
    (BK : Df K mg "blocks" s_blocks ["order"] fBK dBK)
    (BE : Df K mg "beside" s_beside ["order", "other"] fBE dBE)
    (L1 : Df K mg "_law_pot" s_pot ["_law_script", "_law_k"] fL1 dL1)
    (L2 : Df K mg "_law_draw" s_draw ["_law_pot_here", "_law_size"] fL2 dL2)
    (L3 : Df K mg "_law_order" s_order ["_law_pot_here", "_law_many"] fL3 dL3)
    (L4 : Df K mg "_law_passed" s_passed ["_law_pot_here", "_law_order_here"] fL4 dL4)
    (L5 : Df K mg "_law_lowered" s_low ["_law_things"] fL5 dL5)
    (L6 : Df K mg "_law_blocks" s_lblocks ["_law_order_here"] fL6 dL6)
    (L7 : Df K mg "_law_beside" s_lbeside ["_law_order_here", "_law_other"] fL7 dL7)
    (M1 : Df K mg "_law_one_right" s_one_right ["_law_pot_here", "_law_order_here"] fM1 dM1)
    (M2 : Df K mg "_law_two_right" s_two_right ["_law_pot_here", "_law_order_here", "_law_other"] fM2 dM2)
    (M3 : Df K mg "_law_right" s_right ["_law_pot_here"] fM3 dM3)
    (M4 : Df K mg "law" s_law ["_law_script"] fM4 dM4)
    (KW : Kws K dBK dBE) : FnG P w K mg base 8 fM4 dM4 ["_law_script"] (spLaw K T) := by
  have io : Io K mg base T c fO fI dO dI := ⟨O, oc, TB, I, N, B.b⟩
  have D : Defs P w K mg base T fU fTU fBE fBK fLV fCO fFA fWP fL1 fL2 fL3 fL4 fL6 fL7 dU dTU dBE dBK dLV dCO dFA dWP dL1 dL2 dL3 dL4 dL6 dL7 :=
    { und := U.cl ((ok_undone U.fn C io).mono (by decide)), trn := TU.cl ((ok_turned TU.fn C io).mono (by decide)), bsd := BE.cl ((ok_beside BE.fn C io).mono (by decide)), blk := BK.cl ((ok_blocks BK.fn C io B.max mz).mono (by decide)), lev := LV.cl (ok_level LV.fn WP C io), cod := CO.cl (ok_code CO.fn WP C io), fls := FA.cl ((ok_falls FA.fn C io).mono (by decide)), wps := WP.cl ((ok_wrong_pairs WP.fn C io).mono (by decide)),
      pot := L1.cl ((ok_pot L1.fn B).mono (by decide)), draw := L2.cl ((ok_draw L2.fn B).mono (by decide)), order := L3.cl ((ok_order L3.fn L2 B).mono (by decide)), passed := L4.cl ((ok_passed L4.fn L2 B).mono (by decide)),
      lbl := L6.cl ((ok_lblocks L6.fn (L5.cl (ok_low L5.fn B)) B).mono (by decide)), lbs := L7.cl ((ok_lbeside L7.fn B).mono (by decide)), B := B }
  exact ok_law M4.fn D (M3.clG (ok_right M3.fn D (M1.clG (ok_one_right M1.fn D KW)) (M2.clG (ok_two_right M2.fn D KW))))
end
end Lb

set_option Elab.async false
set_option linter.all false
set_option maxRecDepth 100000
set_option maxHeartbeats 8000000
namespace Lb
open PySem PySem.Spec PyProof.Rows L2

theorem all_mk {l : PySem.W.OpenLaw} {q : Program} {w : World} {K : PySem.W.Frag} {h : Heap} {mg : Str → Option Value} {fa : Addr} (X : K.In h) (G : h.Ns mainGlobals mg) (hfa : mg "law" = some (.ref fa))
    (hT : ∀ (y : Str) (dr : DefRec) (c P : Addr), (recsOf q).find? (fun e => e.name == y) = some dr → PySem.W.tabIn K y = some (c, P) → PySem.W.CodeHd h c P ∧ h.get? P = some { cls := .none, data := .fields #[] })
    {dr : DefRec} {c T : Addr} {tN : Tok}
    {fO : Addr} {ocO kVO docO pmO cdO ctO : Value} {odO anO : Option Addr} {slO : Array (Option Value)}
    {fI : Addr} {ocI kVI docI pmI cdI ctI : Value} {odI anI : Option Addr} {slI : Array (Option Value)}
    {fC : Addr} {ocC kVC docC pmC cdC ctC : Value} {odC anC : Option Addr} {slC : Array (Option Value)}
    {fWP : Addr} {ocWP kVWP docWP pmWP cdWP ctWP : Value} {odWP anWP : Option Addr} {slWP : Array (Option Value)}
    {fLV : Addr} {ocLV kVLV docLV pmLV cdLV ctLV : Value} {odLV anLV : Option Addr} {slLV : Array (Option Value)}
    {fCO : Addr} {ocCO kVCO docCO pmCO cdCO ctCO : Value} {odCO anCO : Option Addr} {slCO : Array (Option Value)}
    {fU : Addr} {ocU kVU docU pmU cdU ctU : Value} {odU anU : Option Addr} {slU : Array (Option Value)}
    {fTU : Addr} {ocTU kVTU docTU pmTU cdTU ctTU : Value} {odTU anTU : Option Addr} {slTU : Array (Option Value)}
    {fFA : Addr} {ocFA kVFA docFA pmFA cdFA ctFA : Value} {odFA anFA : Option Addr} {slFA : Array (Option Value)}
    {fBK : Addr} {ocBK kVBK docBK pmBK cdBK ctBK : Value} {odBK anBK : Option Addr} {slBK : Array (Option Value)}
    {fBE : Addr} {ocBE kVBE docBE pmBE cdBE ctBE : Value} {odBE anBE : Option Addr} {slBE : Array (Option Value)}
    {fL1 : Addr} {ocL1 kVL1 docL1 pmL1 cdL1 ctL1 : Value} {odL1 anL1 : Option Addr} {slL1 : Array (Option Value)}
    {fL2 : Addr} {ocL2 kVL2 docL2 pmL2 cdL2 ctL2 : Value} {odL2 anL2 : Option Addr} {slL2 : Array (Option Value)}
    {fL3 : Addr} {ocL3 kVL3 docL3 pmL3 cdL3 ctL3 : Value} {odL3 anL3 : Option Addr} {slL3 : Array (Option Value)}
    {fL4 : Addr} {ocL4 kVL4 docL4 pmL4 cdL4 ctL4 : Value} {odL4 anL4 : Option Addr} {slL4 : Array (Option Value)}
    {fL5 : Addr} {ocL5 kVL5 docL5 pmL5 cdL5 ctL5 : Value} {odL5 anL5 : Option Addr} {slL5 : Array (Option Value)}
    {fL6 : Addr} {ocL6 kVL6 docL6 pmL6 cdL6 ctL6 : Value} {odL6 anL6 : Option Addr} {slL6 : Array (Option Value)}
    {fL7 : Addr} {ocL7 kVL7 docL7 pmL7 cdL7 ctL7 : Value} {odL7 anL7 : Option Addr} {slL7 : Array (Option Value)}
    {fM1 : Addr} {ocM1 kVM1 docM1 pmM1 cdM1 ctM1 : Value} {odM1 anM1 : Option Addr} {slM1 : Array (Option Value)}
    {fM2 : Addr} {ocM2 kVM2 docM2 pmM2 cdM2 ctM2 : Value} {odM2 anM2 : Option Addr} {slM2 : Array (Option Value)}
    {fM3 : Addr} {ocM3 kVM3 docM3 pmM3 cdM3 ctM3 : Value} {odM3 anM3 : Option Addr} {slM3 : Array (Option Value)}
    {fM4 : Addr} {ocM4 kVM4 docM4 pmM4 cdM4 ctM4 : Value} {odM4 anM4 : Option Addr} {slM4 : Array (Option Value)}
    (aO : PySem.W.nsIn K mainGlobals "is_order" = some (some (.ref fO))) (lO : K.lookup fO = some ⟨ocO, odO, .func (PySem.W.fnOf "is_order" "is_order" (defArgs s_is_order) (defBody s_is_order) (defScope s_is_order) .none kVO docO pmO anO cdO ctO), slO⟩) (cO : PySem.W.codeIn K cdO "is_order" = true) (kO : PySem.W.keepIn K (.ref fO) = true)
    (aI : PySem.W.nsIn K mainGlobals "is_integer" = some (some (.ref fI))) (lI : K.lookup fI = some ⟨ocI, odI, .func (PySem.W.fnOf "is_integer" "is_integer" (defArgs s_is_integer) (defBody s_is_integer) (defScope s_is_integer) .none kVI docI pmI anI cdI ctI), slI⟩) (cI : PySem.W.codeIn K cdI "is_integer" = true) (kI : PySem.W.keepIn K (.ref fI) = true)
    (aC : PySem.W.nsIn K mainGlobals "check_order" = some (some (.ref fC))) (lC : K.lookup fC = some ⟨ocC, odC, .func (PySem.W.fnOf "check_order" "check_order" (defArgs s_check_order) (defBody s_check_order) (defScope s_check_order) .none kVC docC pmC anC cdC ctC), slC⟩) (cC : PySem.W.codeIn K cdC "check_order" = true) (kC : PySem.W.keepIn K (.ref fC) = true)
    (aWP : PySem.W.nsIn K mainGlobals "wrong_pairs" = some (some (.ref fWP))) (lWP : K.lookup fWP = some ⟨ocWP, odWP, .func (PySem.W.fnOf "wrong_pairs" "wrong_pairs" (defArgs s_wrong_pairs) (defBody s_wrong_pairs) (defScope s_wrong_pairs) .none kVWP docWP pmWP anWP cdWP ctWP), slWP⟩) (cWP : PySem.W.codeIn K cdWP "wrong_pairs" = true) (kWP : PySem.W.keepIn K (.ref fWP) = true)
    (aLV : PySem.W.nsIn K mainGlobals "level" = some (some (.ref fLV))) (lLV : K.lookup fLV = some ⟨ocLV, odLV, .func (PySem.W.fnOf "level" "level" (defArgs s_level) (defBody s_level) (defScope s_level) .none kVLV docLV pmLV anLV cdLV ctLV), slLV⟩) (cLV : PySem.W.codeIn K cdLV "level" = true) (kLV : PySem.W.keepIn K (.ref fLV) = true)
    (aCO : PySem.W.nsIn K mainGlobals "code" = some (some (.ref fCO))) (lCO : K.lookup fCO = some ⟨ocCO, odCO, .func (PySem.W.fnOf "code" "code" (defArgs s_code) (defBody s_code) (defScope s_code) .none kVCO docCO pmCO anCO cdCO ctCO), slCO⟩) (cCO : PySem.W.codeIn K cdCO "code" = true) (kCO : PySem.W.keepIn K (.ref fCO) = true)
    (aU : PySem.W.nsIn K mainGlobals "undone" = some (some (.ref fU))) (lU : K.lookup fU = some ⟨ocU, odU, .func (PySem.W.fnOf "undone" "undone" (defArgs s_undone) (defBody s_undone) (defScope s_undone) .none kVU docU pmU anU cdU ctU), slU⟩) (cU : PySem.W.codeIn K cdU "undone" = true) (kU : PySem.W.keepIn K (.ref fU) = true)
    (aTU : PySem.W.nsIn K mainGlobals "turned" = some (some (.ref fTU))) (lTU : K.lookup fTU = some ⟨ocTU, odTU, .func (PySem.W.fnOf "turned" "turned" (defArgs s_turned) (defBody s_turned) (defScope s_turned) .none kVTU docTU pmTU anTU cdTU ctTU), slTU⟩) (cTU : PySem.W.codeIn K cdTU "turned" = true) (kTU : PySem.W.keepIn K (.ref fTU) = true)
    (aFA : PySem.W.nsIn K mainGlobals "falls" = some (some (.ref fFA))) (lFA : K.lookup fFA = some ⟨ocFA, odFA, .func (PySem.W.fnOf "falls" "falls" (defArgs s_falls) (defBody s_falls) (defScope s_falls) .none kVFA docFA pmFA anFA cdFA ctFA), slFA⟩) (cFA : PySem.W.codeIn K cdFA "falls" = true) (kFA : PySem.W.keepIn K (.ref fFA) = true)
    (aBK : PySem.W.nsIn K mainGlobals "blocks" = some (some (.ref fBK))) (lBK : K.lookup fBK = some ⟨ocBK, odBK, .func (PySem.W.fnOf "blocks" "blocks" (defArgs s_blocks) (defBody s_blocks) (defScope s_blocks) .none kVBK docBK pmBK anBK cdBK ctBK), slBK⟩) (cBK : PySem.W.codeIn K cdBK "blocks" = true) (kBK : PySem.W.keepIn K (.ref fBK) = true)
    (aBE : PySem.W.nsIn K mainGlobals "beside" = some (some (.ref fBE))) (lBE : K.lookup fBE = some ⟨ocBE, odBE, .func (PySem.W.fnOf "beside" "beside" (defArgs s_beside) (defBody s_beside) (defScope s_beside) .none kVBE docBE pmBE anBE cdBE ctBE), slBE⟩) (cBE : PySem.W.codeIn K cdBE "beside" = true) (kBE : PySem.W.keepIn K (.ref fBE) = true)
    (aL1 : PySem.W.nsIn K mainGlobals "_law_pot" = some (some (.ref fL1))) (lL1 : K.lookup fL1 = some ⟨ocL1, odL1, .func (PySem.W.fnOf "_law_pot" "_law_pot" (defArgs s_pot) (defBody s_pot) (defScope s_pot) .none kVL1 docL1 pmL1 anL1 cdL1 ctL1), slL1⟩) (cL1 : PySem.W.codeIn K cdL1 "_law_pot" = true) (kL1 : PySem.W.keepIn K (.ref fL1) = true)
    (aL2 : PySem.W.nsIn K mainGlobals "_law_draw" = some (some (.ref fL2))) (lL2 : K.lookup fL2 = some ⟨ocL2, odL2, .func (PySem.W.fnOf "_law_draw" "_law_draw" (defArgs s_draw) (defBody s_draw) (defScope s_draw) .none kVL2 docL2 pmL2 anL2 cdL2 ctL2), slL2⟩) (cL2 : PySem.W.codeIn K cdL2 "_law_draw" = true) (kL2 : PySem.W.keepIn K (.ref fL2) = true)
    (aL3 : PySem.W.nsIn K mainGlobals "_law_order" = some (some (.ref fL3))) (lL3 : K.lookup fL3 = some ⟨ocL3, odL3, .func (PySem.W.fnOf "_law_order" "_law_order" (defArgs s_order) (defBody s_order) (defScope s_order) .none kVL3 docL3 pmL3 anL3 cdL3 ctL3), slL3⟩) (cL3 : PySem.W.codeIn K cdL3 "_law_order" = true) (kL3 : PySem.W.keepIn K (.ref fL3) = true)
    (aL4 : PySem.W.nsIn K mainGlobals "_law_passed" = some (some (.ref fL4))) (lL4 : K.lookup fL4 = some ⟨ocL4, odL4, .func (PySem.W.fnOf "_law_passed" "_law_passed" (defArgs s_passed) (defBody s_passed) (defScope s_passed) .none kVL4 docL4 pmL4 anL4 cdL4 ctL4), slL4⟩) (cL4 : PySem.W.codeIn K cdL4 "_law_passed" = true) (kL4 : PySem.W.keepIn K (.ref fL4) = true)
    (aL5 : PySem.W.nsIn K mainGlobals "_law_lowered" = some (some (.ref fL5))) (lL5 : K.lookup fL5 = some ⟨ocL5, odL5, .func (PySem.W.fnOf "_law_lowered" "_law_lowered" (defArgs s_low) (defBody s_low) (defScope s_low) .none kVL5 docL5 pmL5 anL5 cdL5 ctL5), slL5⟩) (cL5 : PySem.W.codeIn K cdL5 "_law_lowered" = true) (kL5 : PySem.W.keepIn K (.ref fL5) = true)
    (aL6 : PySem.W.nsIn K mainGlobals "_law_blocks" = some (some (.ref fL6))) (lL6 : K.lookup fL6 = some ⟨ocL6, odL6, .func (PySem.W.fnOf "_law_blocks" "_law_blocks" (defArgs s_lblocks) (defBody s_lblocks) (defScope s_lblocks) .none kVL6 docL6 pmL6 anL6 cdL6 ctL6), slL6⟩) (cL6 : PySem.W.codeIn K cdL6 "_law_blocks" = true) (kL6 : PySem.W.keepIn K (.ref fL6) = true)
    (aL7 : PySem.W.nsIn K mainGlobals "_law_beside" = some (some (.ref fL7))) (lL7 : K.lookup fL7 = some ⟨ocL7, odL7, .func (PySem.W.fnOf "_law_beside" "_law_beside" (defArgs s_lbeside) (defBody s_lbeside) (defScope s_lbeside) .none kVL7 docL7 pmL7 anL7 cdL7 ctL7), slL7⟩) (cL7 : PySem.W.codeIn K cdL7 "_law_beside" = true) (kL7 : PySem.W.keepIn K (.ref fL7) = true)
    (aM1 : PySem.W.nsIn K mainGlobals "_law_one_right" = some (some (.ref fM1))) (lM1 : K.lookup fM1 = some ⟨ocM1, odM1, .func (PySem.W.fnOf "_law_one_right" "_law_one_right" (defArgs s_one_right) (defBody s_one_right) (defScope s_one_right) .none kVM1 docM1 pmM1 anM1 cdM1 ctM1), slM1⟩) (cM1 : PySem.W.codeIn K cdM1 "_law_one_right" = true) (kM1 : PySem.W.keepIn K (.ref fM1) = true)
    (aM2 : PySem.W.nsIn K mainGlobals "_law_two_right" = some (some (.ref fM2))) (lM2 : K.lookup fM2 = some ⟨ocM2, odM2, .func (PySem.W.fnOf "_law_two_right" "_law_two_right" (defArgs s_two_right) (defBody s_two_right) (defScope s_two_right) .none kVM2 docM2 pmM2 anM2 cdM2 ctM2), slM2⟩) (cM2 : PySem.W.codeIn K cdM2 "_law_two_right" = true) (kM2 : PySem.W.keepIn K (.ref fM2) = true)
    (aM3 : PySem.W.nsIn K mainGlobals "_law_right" = some (some (.ref fM3))) (lM3 : K.lookup fM3 = some ⟨ocM3, odM3, .func (PySem.W.fnOf "_law_right" "_law_right" (defArgs s_right) (defBody s_right) (defScope s_right) .none kVM3 docM3 pmM3 anM3 cdM3 ctM3), slM3⟩) (cM3 : PySem.W.codeIn K cdM3 "_law_right" = true) (kM3 : PySem.W.keepIn K (.ref fM3) = true)
    (aM4 : PySem.W.nsIn K mainGlobals "law" = some (some (.ref fM4))) (lM4 : K.lookup fM4 = some ⟨ocM4, odM4, .func (PySem.W.fnOf "law" "law" (defArgs s_law) (defBody s_law) (defScope s_law) .none kVM4 docM4 pmM4 anM4 cdM4 ctM4), slM4⟩) (cM4 : PySem.W.codeIn K cdM4 "law" = true) (kM4 : PySem.W.keepIn K (.ref fM4) = true)
    (b_isinstance : PySem.W.nsIn K mainGlobals "isinstance" = some none)
    (b_int : PySem.W.nsIn K mainGlobals "int" = some none)
    (b_bool : PySem.W.nsIn K mainGlobals "bool" = some none)
    (b_list : PySem.W.nsIn K mainGlobals "list" = some none)
    (b_tuple : PySem.W.nsIn K mainGlobals "tuple" = some none)
    (b_len : PySem.W.nsIn K mainGlobals "len" = some none)
    (b_all : PySem.W.nsIn K mainGlobals "all" = some none)
    (b_sorted : PySem.W.nsIn K mainGlobals "sorted" = some none)
    (b_range : PySem.W.nsIn K mainGlobals "range" = some none)
    (b_abs : PySem.W.nsIn K mainGlobals "abs" = some none)
    (b_max : PySem.W.nsIn K mainGlobals "max" = some none)
    (b_min : PySem.W.nsIn K mainGlobals "min" = some none)
    (b_divmod : PySem.W.nsIn K mainGlobals "divmod" = some none)
    (b_enumerate : PySem.W.nsIn K mainGlobals "enumerate" = some none)
    (b_repr : PySem.W.nsIn K mainGlobals "repr" = some none)
    (b_zip : PySem.W.nsIn K mainGlobals "zip" = some none)
    (aN : PySem.W.nsIn K mainGlobals "MOST_THINGS" = some (some (.int 9 tN))) (e1 : (recsOf q).find? (fun e => e.name == ("is_order" : Str)) = some dr) (e2 : PySem.W.tabIn K "is_order" = some (c, T)) (nT : K.lookup T = none) :
    LawG l w K 8 63 "_law_script" mg fa h := by
  have DO := df_mk (x := "is_order") (st := s_is_order) (ps := ["value"]) X G (fun _ _ _ _ _ _ us hl => match us, hl with | [_], _ => rfl) aO lO cO kO
  have DI := df_mk (x := "is_integer") (st := s_is_integer) (ps := ["value"]) X G (fun _ _ _ _ _ _ us hl => match us, hl with | [_], _ => rfl) aI lI cI kI
  have DC := df_mk (x := "check_order") (st := s_check_order) (ps := ["order"]) X G (fun _ _ _ _ _ _ us hl => match us, hl with | [_], _ => rfl) aC lC cC kC
  have DWP := df_mk (x := "wrong_pairs") (st := s_wrong_pairs) (ps := ["order"]) X G (fun _ _ _ _ _ _ us hl => match us, hl with | [_], _ => rfl) aWP lWP cWP kWP
  have DLV := df_mk (x := "level") (st := s_level) (ps := ["order"]) X G (fun _ _ _ _ _ _ us hl => match us, hl with | [_], _ => rfl) aLV lLV cLV kLV
  have DCO := df_mk (x := "code") (st := s_code) (ps := ["order"]) X G (fun _ _ _ _ _ _ us hl => match us, hl with | [_], _ => rfl) aCO lCO cCO kCO
  have DU := df_mk (x := "undone") (st := s_undone) (ps := ["order"]) X G (fun _ _ _ _ _ _ us hl => match us, hl with | [_], _ => rfl) aU lU cU kU
  have DTU := df_mk (x := "turned") (st := s_turned) (ps := ["order"]) X G (fun _ _ _ _ _ _ us hl => match us, hl with | [_], _ => rfl) aTU lTU cTU kTU
  have DFA := df_mk (x := "falls") (st := s_falls) (ps := ["order"]) X G (fun _ _ _ _ _ _ us hl => match us, hl with | [_], _ => rfl) aFA lFA cFA kFA
  have DBK := df_mk (x := "blocks") (st := s_blocks) (ps := ["order"]) X G (fun _ _ _ _ _ _ us hl => match us, hl with | [_], _ => rfl) aBK lBK cBK kBK
  have DBE := df_mk (x := "beside") (st := s_beside) (ps := ["order", "other"]) X G (fun _ _ _ _ _ _ us hl => match us, hl with | [_, _], _ => rfl) aBE lBE cBE kBE
  have DL1 := df_mk (x := "_law_pot") (st := s_pot) (ps := ["_law_script", "_law_k"]) X G (fun _ _ _ _ _ _ us hl => match us, hl with | [_, _], _ => rfl) aL1 lL1 cL1 kL1
  have DL2 := df_mk (x := "_law_draw") (st := s_draw) (ps := ["_law_pot_here", "_law_size"]) X G (fun _ _ _ _ _ _ us hl => match us, hl with | [_, _], _ => rfl) aL2 lL2 cL2 kL2
  have DL3 := df_mk (x := "_law_order") (st := s_order) (ps := ["_law_pot_here", "_law_many"]) X G (fun _ _ _ _ _ _ us hl => match us, hl with | [_, _], _ => rfl) aL3 lL3 cL3 kL3
  have DL4 := df_mk (x := "_law_passed") (st := s_passed) (ps := ["_law_pot_here", "_law_order_here"]) X G (fun _ _ _ _ _ _ us hl => match us, hl with | [_, _], _ => rfl) aL4 lL4 cL4 kL4
  have DL5 := df_mk (x := "_law_lowered") (st := s_low) (ps := ["_law_things"]) X G (fun _ _ _ _ _ _ us hl => match us, hl with | [_], _ => rfl) aL5 lL5 cL5 kL5
  have DL6 := df_mk (x := "_law_blocks") (st := s_lblocks) (ps := ["_law_order_here"]) X G (fun _ _ _ _ _ _ us hl => match us, hl with | [_], _ => rfl) aL6 lL6 cL6 kL6
  have DL7 := df_mk (x := "_law_beside") (st := s_lbeside) (ps := ["_law_order_here", "_law_other"]) X G (fun _ _ _ _ _ _ us hl => match us, hl with | [_, _], _ => rfl) aL7 lL7 cL7 kL7
  have DM1 := df_mk (x := "_law_one_right") (st := s_one_right) (ps := ["_law_pot_here", "_law_order_here"]) X G (fun _ _ _ _ _ _ us hl => match us, hl with | [_, _], _ => rfl) aM1 lM1 cM1 kM1
  have DM2 := df_mk (x := "_law_two_right") (st := s_two_right) (ps := ["_law_pot_here", "_law_order_here", "_law_other"]) X G (fun _ _ _ _ _ _ us hl => match us, hl with | [_, _, _], _ => rfl) aM2 lM2 cM2 kM2
  have DM3 := df_mk (x := "_law_right") (st := s_right) (ps := ["_law_pot_here"]) X G (fun _ _ _ _ _ _ us hl => match us, hl with | [_], _ => rfl) aM3 lM3 cM3 kM3
  have DM4 := df_mk (x := "law") (st := s_law) (ps := ["_law_script"]) X G (fun _ _ _ _ _ _ us hl => match us, hl with | [_], _ => rfl) aM4 lM4 cM4 kM4
  have e := hfa.symm.trans DM4.at_
  cases e
  have oc := PySem.W.law_code X G e2 DO.at_ (X _ _ lO) rfl
  have B : Bl2 mg := ⟨⟨PySem.W.mg_none_of X G b_isinstance, PySem.W.mg_none_of X G b_int, PySem.W.mg_none_of X G b_bool, PySem.W.mg_none_of X G b_list, PySem.W.mg_none_of X G b_tuple, PySem.W.mg_none_of X G b_len, PySem.W.mg_none_of X G b_all, PySem.W.mg_none_of X G b_sorted, PySem.W.mg_none_of X G b_range⟩, PySem.W.mg_none_of X G b_abs, PySem.W.mg_none_of X G b_max, PySem.W.mg_none_of X G b_min, PySem.W.mg_none_of X G b_divmod, PySem.W.mg_none_of X G b_enumerate, PySem.W.mg_none_of X G b_repr⟩
  have KW : Kws K _ _ := ⟨kb_one DBK.fn fun _ _ _ _ _ _ _ => rfl, kb_two DBE.fn fun _ _ _ _ _ _ _ _ => rfl⟩
  obtain ⟨hd, tb⟩ := hT _ _ _ _ e1 e2
  refine ⟨PySem.W.fnOf "law" "law" (defArgs s_law) (defBody s_law) (defScope s_law) .none kVM4 docM4 pmM4 anM4 cdM4 ctM4, [(c, T)], spLaw K T, ?_, ?_, ?_, ?_, ?_, fun base hK hB hC => ?_⟩
  · intro p hp
    cases List.mem_singleton.mp hp
    exact tb
  · intro p hp
    cases List.mem_singleton.mp hp
    exact nT
  · intro p hp
    cases List.mem_singleton.mp hp
    exact hd
  · exact fun s u => .of_eq rfl
  · exact fun H a ns hl _ hH hS => ⟨a, ns, rfl, hS, hl, ⟨#[], hH (c, T) (.head _), True.intro⟩, fun _ => rfl⟩
  · exact law_fn oc (hC (c, T) (.head _)) ⟨_, PySem.W.mg_of X G aN⟩ B (PySem.W.mg_none_of X G b_zip) DO DI DC DWP DLV DCO DU DTU DFA DBK DBE DL1 DL2 DL3 DL4 DL5 DL6 DL7 DM1 DM2 DM3 DM4 KW
end Lb

set_option maxRecDepth 100000 in
set_option maxHeartbeats 0 in
open PySem PySem.W PyProof.Rows in
theorem PySem.Challenge.cw_lowerboards_k13_whole_blocks_and_beside_holds : PySem.Challenge.rw_lowerboards_k13_whole_blocks_and_beside.Holds := by
  w_on; o_law; k_head; (case hw => w_witness2)
  k_fill
  refine Lb.walkG (k := 8) (n := 63) (x := "_law_script") rfl (by decide) rfl ⟨rfl, by decide, by decide⟩ (fun w h Y => PySem.W.kIn_of Y) ?F
  case F =>
    intro w mg fa h KX G hmg hT
    refine' Lb.all_mk KX G hmg hT ?aO ?lO ?cO ?kO ?aI ?lI ?cI ?kI ?aC ?lC ?cC ?kC ?aWP ?lWP ?cWP ?kWP ?aLV ?lLV ?cLV ?kLV ?aCO ?lCO ?cCO ?kCO ?aU ?lU ?cU ?kU ?aTU ?lTU ?cTU ?kTU ?aFA ?lFA ?cFA ?kFA ?aBK ?lBK ?cBK ?kBK ?aBE ?lBE ?cBE ?kBE ?aL1 ?lL1 ?cL1 ?kL1 ?aL2 ?lL2 ?cL2 ?kL2 ?aL3 ?lL3 ?cL3 ?kL3 ?aL4 ?lL4 ?cL4 ?kL4 ?aL5 ?lL5 ?cL5 ?kL5 ?aL6 ?lL6 ?cL6 ?kL6 ?aL7 ?lL7 ?cL7 ?kL7 ?aM1 ?lM1 ?cM1 ?kM1 ?aM2 ?lM2 ?cM2 ?kM2 ?aM3 ?lM3 ?cM3 ?kM3 ?aM4 ?lM4 ?cM4 ?kM4 ?b_isinstance ?b_int ?b_bool ?b_list ?b_tuple ?b_len ?b_all ?b_sorted ?b_range ?b_abs ?b_max ?b_min ?b_divmod ?b_enumerate ?b_repr ?b_zip ?aN ?e1 ?e2 ?nT
    (case aO => k_is); (case lO => k_is); (case cO => k_is); (case kO => k_is)
    (case aI => k_is); (case lI => k_is); (case cI => k_is); (case kI => k_is)
    (case aC => k_is); (case lC => k_is); (case cC => k_is); (case kC => k_is)
    (case aWP => k_is); (case lWP => k_is); (case cWP => k_is); (case kWP => k_is)
    (case aLV => k_is); (case lLV => k_is); (case cLV => k_is); (case kLV => k_is)
    (case aCO => k_is); (case lCO => k_is); (case cCO => k_is); (case kCO => k_is)
    (case aU => k_is); (case lU => k_is); (case cU => k_is); (case kU => k_is)
    (case aTU => k_is); (case lTU => k_is); (case cTU => k_is); (case kTU => k_is)
    (case aFA => k_is); (case lFA => k_is); (case cFA => k_is); (case kFA => k_is)
    (case aBK => k_is); (case lBK => k_is); (case cBK => k_is); (case kBK => k_is)
    (case aBE => k_is); (case lBE => k_is); (case cBE => k_is); (case kBE => k_is)
    (case aL1 => k_is); (case lL1 => k_is); (case cL1 => k_is); (case kL1 => k_is)
    (case aL2 => k_is); (case lL2 => k_is); (case cL2 => k_is); (case kL2 => k_is)
    (case aL3 => k_is); (case lL3 => k_is); (case cL3 => k_is); (case kL3 => k_is)
    (case aL4 => k_is); (case lL4 => k_is); (case cL4 => k_is); (case kL4 => k_is)
    (case aL5 => k_is); (case lL5 => k_is); (case cL5 => k_is); (case kL5 => k_is)
    (case aL6 => k_is); (case lL6 => k_is); (case cL6 => k_is); (case kL6 => k_is)
    (case aL7 => k_is); (case lL7 => k_is); (case cL7 => k_is); (case kL7 => k_is)
    (case aM1 => k_is); (case lM1 => k_is); (case cM1 => k_is); (case kM1 => k_is)
    (case aM2 => k_is); (case lM2 => k_is); (case cM2 => k_is); (case kM2 => k_is)
    (case aM3 => k_is); (case lM3 => k_is); (case cM3 => k_is); (case kM3 => k_is)
    (case aM4 => k_is); (case lM4 => k_is); (case cM4 => k_is); (case kM4 => k_is)
    (case b_isinstance => k_is); (case b_int => k_is); (case b_bool => k_is); (case b_list => k_is)
    (case b_tuple => k_is); (case b_len => k_is); (case b_all => k_is); (case b_sorted => k_is)
    (case b_range => k_is); (case b_abs => k_is); (case b_max => k_is); (case b_min => k_is)
    (case b_divmod => k_is); (case b_enumerate => k_is); (case b_repr => k_is); (case b_zip => k_is)
    (case aN => k_is); (case e1 => first | rfl | k_is); (case e2 => first | rfl | k_is); (case nT => first | rfl | k_is)
