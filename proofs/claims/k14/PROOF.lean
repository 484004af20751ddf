import PyProof.Rows.All
import Wide.All
import OpenK.AllK
import Wide.FinOn
import HandS.ForMost
import HandS.Walk
import HandS.Strs
import HandS.SetFor
import HandS.Conv
import HandS.DictComp
import HandS.Defaults
import KE.KIndexOf
import KE.GoesEnum
import KE.GoesMore
import HandS.SortInts
import HandS.IsInst
import HandS.StrMore
import HandS.Deep
import HandS.Codes
import HandS.Wide
import HandS.WideMore
import HandS.TryElse
import HandS.Style
import HandS.Flow
import HandS.More
import HandS.ExcOwn
import HandS.TryOnly
import HandS.WordsExc
import PySem.Challenge.RW_patternways_k14_whole_enough
import HandS.TupAny
import HandS.Star
import HandS.WideBits
import HandS.Iter
import KE.KDictZip
import KE.KTurns
set_option Elab.async false
set_option linter.all false
set_option maxRecDepth 100000
/-! Rules of our own: enumerate over a tuple, set of a list of ints, tuple of a dict, index in such a tuple. -/
namespace Own
open PySem PySem.Spec PyProof.Rows L2
/-- the tuple at a as it stands, each item in a new pair with its place -/
def ItE (K : PySem.W.Frag) (a : Addr) : It where
  go := fun i H => ∃ (xs : List V) (x : V), SqT K H a xs ∧ xs[i]? = some x
  yld := fun i H v H' => ∃ T x, v = .ref T ∧ H T = none ∧ H' = upd H T (.tup [.int (i : Nat), x]) ∧ ∀ xs, SqT K H a xs → xs[i]? = some x
  stop := fun i H => ∃ xs : List V, SqT K H a xs ∧ xs.length = i
theorem turnE {P : Program} {w : World} {K : PySem.W.Frag} {elts : List Expr} {kk : Nat} {tpos : Pos} (a e it : Addr) (hai : a ≠ it) (hae : a ≠ e) :
    Turn P w K (.Tuple elts kk tpos) (ItE K a) [e, it] e (fun i h => (∃ old, IsEnum h e it ((i : Nat) : Int) old) ∧ h.IsTupleIter it a i ∧ e ≠ it) where
  mem := List.mem_cons_self
  obj := by
    intro i h st b hb
    obtain ⟨⟨old, he⟩, ⟨o, ho, hc, hd⟩, _⟩ := st
    rcases List.mem_cons.mp hb with z | z
    · subst z
      exact ⟨_, he, fun v q => nomatch q⟩
    · rw [List.mem_singleton.mp z]
      refine ⟨o, ho, fun v q => ?_⟩
      rw [hd] at q
      cases q
  keep := by
    intro i h h' st k
    obtain ⟨⟨old, he⟩, hi, hne⟩ := st
    exact ⟨⟨old, k e (by simp) _ he⟩, hi.at fun o q => k it (by simp) o q, hne⟩
  item := by
    intro X hP hw hK hc i pins s σ H E I hf st hg
    subst hP hw hK
    obtain ⟨⟨old, he⟩, hit, hne⟩ := st
    obtain ⟨xs, x, hq, hx⟩ := hg
    obtain ⟨its, rv, p, hz⟩ := I.tuple hq
    obtain ⟨u, hu, ru⟩ := rv.get hx
    have hel : e < s.heap.objs.size := Heap.lt_size he
    have hil : it < s.heap.objs.size := by
      obtain ⟨_, q, _⟩ := hit
      exact Heap.lt_size q
    have hlt : i < its.toArray.size := by
      rw [List.size_toArray]
      exact (List.getElem?_eq_some_iff.mp hu).1
    have hh : X.A.in1.handled = none := I.ok.hd hc
    refine wpAny_pyNext_enum_itemC (Draws.tuple hh it a hai its.toArray) he ⟨hit, p⟩ hlt hne (by simp [hne, hae.symm]) fun y h' tk hy ho hst hT hsz hk => ?_
    have ey : y = u := by
      have hy' : its.toArray[i]? = some y := hy
      rw [List.getElem?_toArray, hu] at hy'
      exact (Option.some.inj hy').symm
    subst ey
    refine ⟨_, rfl, wpAny_letOwnedTupleGo_enum (s := { s with heap := h', toks := tk + 1 }) ho fun h'' he' sb => ?_⟩
    have hT2 : h''.get? s.heap.objs.size = some { cls := .type "tuple", data := .seq #[.int i tk, y] } := (sb.2 _ (Nat.ne_of_gt hel)).trans hT
    have new : ObjOk X.prog X.w (upd H s.heap.objs.size (.tup [.int (i : Nat), x])) h'' s.heap.objs.size (.tup [.int (i : Nat), x]) := by
      refine ⟨?_, [.int i tk, y], .cons ⟨_, rfl⟩ (.cons ru .nil), ⟨_, hT2, rfl, _, rfl⟩⟩
      show 2 ≤ sizeLine
      decide
    have I1 : Inv X pins σ (upd H s.heap.objs.size (.tup [.int (i : Nat), x])) { s with heap := h'', toks := tk + 1 } := by
      refine I.turnedNew (ch := [e, it]) (fun b ob hb q => ?_) hf (Nat.le_refl _) new
      exact (sb.2 b (fun z => hb (by simp [z]))).trans (hk b ob (fun z => hb (by simp [z])) (fun z => hb (by simp [z])) q)
    refine ⟨.ref s.heap.objs.size, _, I1, rfl, ⟨_, x, rfl, I.hok.fresh (Nat.le_refl _), rfl, fun ys hy => ?_⟩, ⟨⟨y, ?_⟩, ?_, hne⟩, fun b hb => ?_⟩
    · rw [I.tuple_inj hy hq]
      exact hx
    · have e1 : ((i + 1 : Nat) : Int) = (i : Int) + 1 := by omega
      rw [e1]
      exact he'
    · exact hst.1.at fun o q => (sb.2 it (Ne.symm hne)).trans q
    · have hb' : b < s.heap.objs.size := by
        rcases List.mem_cons.mp hb with z | z
        · rw [z]
          exact hel
        · rw [List.mem_singleton.mp z]
          exact hil
      rw [upd_ne (Nat.ne_of_lt hb')]
      exact (hf b hb).1
  done := by
    intro X hP hw hK hc i pins s σ H E I hf st hg
    subst hP hw hK
    obtain ⟨⟨old, he⟩, hit, hne⟩ := st
    obtain ⟨xs, hq, hx⟩ := hg
    obtain ⟨its, rv, p, hz⟩ := I.tuple hq
    obtain ⟨f0, f1, f2, f3, f4, f5⟩ := hf it (by simp)
    have hl := rv.length
    have hh : X.A.in1.handled = none := I.ok.hd hc
    have hi : i = its.toArray.size := by
      rw [List.size_toArray]
      omega
    subst hi
    exact wpAny_pyNext_enum_endD (Draws.tuple hh it a hai its.toArray) he ⟨hit, p⟩ fun h' eb => ⟨rfl, I.turned (t' := s.toks) (fun b o hb q => eb b o hb q) f0 f1 f3 f4 f5⟩
  self := by
    intro A i s Q E st h
    obtain ⟨⟨_, he⟩, _⟩ := st
    exact wpAny_pyIter_enum he h
/-- the two cells of enumerate(v) -/
abbrev enumCell (N : Addr) : Obj := { cls := .type "enumerate", data := .fields #[.none, .bool false, .ref N, rawInt 0, .none, .none] }
set_option maxHeartbeats 1000000 in
theorem newB1 {v : Value} {o : Obj} {H : Heap → Prop} (B : Begins v o H) :
    Meets (Builtin.«enumerate.__new__» ⟨[.type "enumerate", v], []⟩) (fun _ R s => H s.heap ∧
      R (.ok (.ret (.ref (s.heap.push o).objs.size))) { s with heap := (s.heap.push o).push (enumCell s.heap.objs.size) }) := by
  refine .of_wp fun prog w A R s h => ?_
  obtain ⟨hp, g, d, tk, os⟩ := s
  obtain ⟨h1, h⟩ := h
  have hsub := sub_enumerate
  have q1 : ∀ {A' : Around} {E : Value → Shared → Prop} {Q : Value → Shared → Prop}, Q (.ref hp.objs.size) ⟨hp.push o, g, d, tk, os⟩ → wpAny (model prog w) A' (pyIter v) Q E ⟨hp, g, d, tk, os⟩ := by
    intro A' E Q q
    exact B.iter prog w _ _ _ _ h1 q
  wp_walk using q1
  refine wpAny_stack_any fun st => wpAny_pure ?_
  split
  · rename_i c _ _ _ _ _
    cases (c == Value.type "enumerate") <;> (wp_walk using q1; exact ⟨_, rfl, h⟩)
  · wp_walk using q1
    exact ⟨_, rfl, h⟩
theorem enumT1 {prog : Program} {w : World} {A : Around} {E : Value → Shared → Prop} {s : Shared} {v : Value} {o : Obj} {H : Heap → Prop} {Q : Value → Shared → Prop} (B : Begins v o H) (h1 : H s.heap)
    (h : ∀ h', IsEnum h' (s.heap.objs.size + 1) s.heap.objs.size 0 .none → h'.get? s.heap.objs.size = some o → (∀ b o, s.heap.get? b = some o → h'.get? b = some o) → Q (.ref (s.heap.objs.size + 1)) { s with heap := h' }) :
    wpAny (model prog w) A (call (.type "enumerate") [v]) Q E s := by
  refine callType_new F.called_enumerate (by decide) (F.typeCall_enumerate_1 _) (F.newCall_enumerate_1 _) (fun obj => F.args_object_init_2 obj _) F.entry_enumerate_new (newB1 B) ⟨h1, ?_⟩
  have hz : (s.heap.push o).objs.size = s.heap.objs.size + 1 := Heap.size_push ..
  show _ ∧ _
  rw [hz]
  have he : IsEnum ((s.heap.push o).push (enumCell s.heap.objs.size)) (s.heap.objs.size + 1) s.heap.objs.size 0 .none := by
    have q := Heap.get?_push_size (s.heap.push o) (o := enumCell s.heap.objs.size) rfl
    rw [hz] at q
    exact q
  exact ⟨⟨_, he, rfl⟩, h _ he (Heap.get?_push_of_some _ (Heap.get?_push_size _ B.free)) fun b o x => Heap.get?_push_of_some _ (Heap.get?_push_of_some _ x)⟩
def iE (K : PySem.W.Frag) (ta : TA) : TI := fun σ H R => ta σ H fun vs H1 => ∃ a xs, vs = [.ref a] ∧ SqT K H1 a xs ∧ R (ItE K a) H1
/-- for i, x in enumerate(t), t a tuple -/
theorem pi_enumT {X : Cx} {e : Expr} {ta : TA} {p pos tpos : Pos} {elts : List Expr} {kk : Nat} (hg : Gl X "enumerate") (hm : X.mg "enumerate" = none) (ha : PA X [e] ta)
    (hs : starEach [e] X.env = [(false, eval e X.env)] := by rfl) : PI X (.Tuple elts kk tpos) (.Call (.Name "enumerate" p) [e] [] pos) (iE X.K ta) := by
  constructor
  intro pins s σ H R I h
  refine Call_ (ld_blt I hg hm boot_enumerate (PyProof.Rows.callWith_type1 (thn (ha.run pos pins s σ H _ I h) fun us s1 w1 => ?_) hs rfl))
  obtain ⟨vs, H1, I1, r1, a, xs, rfl, hq, q⟩ := w1
  cases r1 with
  | cons r rr =>
    cases rr
    cases r
    obtain ⟨its, rv, pt, hz⟩ := I1.tuple hq
    have hal : a < s1.heap.objs.size := by
      obtain ⟨o, ho, _⟩ := pt
      exact Heap.lt_size ho
    refine enumT1 (begins_tuple a its.toArray) pt fun h' he hit hk => wpAny_pyIter_enum he ?_
    have I2 : Inv X pins σ H1 { s1 with heap := h' } := I1.kept (t' := s1.toks) hk
    refine ⟨s1.heap.objs.size + 1, [s1.heap.objs.size + 1, s1.heap.objs.size], _, _, H1, rfl, I2,
      turnE a (s1.heap.objs.size + 1) s1.heap.objs.size (Nat.ne_of_lt hal) (Nat.ne_of_lt (Nat.lt_succ_of_lt hal)), ⟨⟨.none, he⟩, ⟨_, hit, rfl, rfl⟩, Nat.succ_ne_self _⟩, fun b hb => ?_, q⟩
    have hle : s1.heap.objs.size ≤ b := by
      rcases List.mem_cons.mp hb with z | z
      · rw [z]
        exact Nat.le_add_right _ _
      · rw [List.mem_singleton.mp z]
        exact Nat.le_refl _
    exact I1.fpOk hle (I1.hok.fresh hle)
theorem walk_enumT {K : PySem.W.Frag} {a : Addr} {xs : List V} : Walk (ItE K a) xs.length (fun H => SqT K H a xs) (YPair (fun i => some (.int (i : Nat))) (fun i => xs[i]?)) := by
  refine ⟨fun i H hi q => ⟨xs, xs[i], q, by simp [hi]⟩, fun H q => ⟨xs, q, rfl⟩, fun i H v H' _ q y => ?_⟩
  obtain ⟨T, x, h1, h2, h3, h4⟩ := y
  exact ⟨T, .int (i : Nat), x, h1, h2, h3, rfl, h4 xs q⟩
end Own
namespace Own
open PySem PySem.Spec PyProof.Rows L2
section
variable {prog : Program} {w : World} {A : Around} {E : Value → Shared → Prop} {s : Shared} {T : String} {r d : Addr} {n : Nat} {P : Nat → Value → Prop} {OK : Heap → Prop}
/-- what a source gives, one by one -/
theorem collect_src {Q : List Value → Shared → Prop} (K : PySem.W.KdlSrc prog w T r d n P OK) (hh : A.handled = none) (hok : OK s.heap) (hn : n ≤ sizeLine)
    (hQ : ∀ (h' : Heap) (tk : Nat) (acc : Array Value), (∀ b o, s.heap.get? b = some o → h'.get? b = some o) → ItemsOf P acc n → Q acc.toList { s with heap := h', toks := tk }) :
    wpAny (model prog w) A (collect (.ref r)) Q E s := by
  have hlt := K.there _ hok
  unfold collect
  refine wpAny_bind (wpAny_runValue (codeAny_builtin F.entry_proto_collect ?_))
  rw [Around.under_plainId F.plain_proto_collect _]
  show wpAny _ A.in1 (newList [] >>= fun l => again (.builtin "list.__iadd__" ⟨[l, .ref r], []⟩)) _ _ s
  refine wpAny_bind (wpAny_newObj_type (wpAny_pure ⟨plainId_quiet F.plain_list_iadd _, codeAny_builtin F.entry_list_iadd ?_⟩))
  rw [Around.under_plainId F.plain_list_iadd _]
  show wpAny _ A.in1 (Builtin.List.listExtendWith (.ref s.heap.objs.size) (.ref r) (.ref s.heap.objs.size)) _ _ _
  have hS : (s.heap.push { cls := .type "list", data := .seq ([] : List Value).toArray }).get? s.heap.objs.size = some { cls := .type "list", data := .seq #[] 0 } := Heap.get?_push_size _ rfl
  have hok' : OK (s.heap.push { cls := .type "list", data := .seq ([] : List Value).toArray }) := K.keep _ _ hok fun b _ o e => Heap.get?_push_of_some _ e
  refine wpAny_mono (PySem.W.kdl_extend (A := A) (R := fun rr s' => rr = .ok (.ret (.ref s.heap.objs.size)) ∧ ∃ (h' : Heap) (tk : Nat) (acc : Array Value) (c' : Nat), s' = { s with heap := h', toks := tk } ∧
      (∀ b o, s.heap.get? b = some o → h'.get? b = some o) ∧ h'.get? s.heap.objs.size = some { cls := .type "list", dict := none, data := .seq acc c', slots := #[] } ∧ ItemsOf P acc n)
    (s := { s with heap := s.heap.push { cls := .type "list", data := .seq ([] : List Value).toArray } }) K hh hok' s.heap.objs.size (Nat.ne_of_gt hlt.1) (Nat.ne_of_gt hlt.2) _ 0 hS
    (fun h' tk acc c' hk e hi => ⟨rfl, h', tk, acc, c', rfl, fun b o q => hk b o (Nat.ne_of_lt (Heap.lt_size q)) (Heap.get?_push_of_some _ q), e, hi⟩) hn) (fun fin s' h => ?_) (fun e s' h => ?_)
  · cases fin with
    | done f =>
      obtain ⟨e, h', tk, acc, c', rfl, hk, hS', hi⟩ := h
      cases e
      exact wpAny_bind (wpAny_load hS' (wpAny_pure (hQ h' tk acc hk hi)))
    | again c' =>
      refine ⟨h.1, codeAny_mono h.2 fun rr s'' hr' => ?_⟩
      obtain ⟨rfl, h', tk, acc, c', rfl, hk, hS', hi⟩ := hr'
      exact wpAny_bind (wpAny_load hS' (wpAny_pure (hQ h' tk acc hk hi)))
  · exact absurd h.1 (by simp)
/-- tuple(v) of such a source -/
theorem tuple_src {Q : Value → Shared → Prop} (K : PySem.W.KdlSrc prog w T r d n P OK) (hh : A.handled = none) (hok : OK s.heap) (hn : n ≤ sizeLine)
    (hQ : ∀ (h' : Heap) (tk : Nat) (acc : Array Value), (∀ b o, s.heap.get? b = some o → h'.get? b = some o) → ItemsOf P acc n →
      Q (.ref h'.objs.size) { s with heap := h'.push { cls := .type "tuple", data := .seq acc }, toks := tk }) :
    wpAny (model prog w) A (call (.type "tuple") [.ref r]) Q E s := by
  refine callType_codes (Q₁ := fun obj s₁ => s₁.TypeIs obj "tuple" ∧ Q obj s₁) F.called_tuple (F.typeCall_tuple_1 _) F.entry_object_init ?_ fun obj s₁ h₁ => ?_
  · refine codeAny_of_tree ?_
    show wpAny _ A.in1.in1 (do checkBuiltinCall "tuple.__new__" ⟨[.type "tuple", .ref r], []⟩; again (.builtin "tuple.__new__" ⟨[.type "tuple", .ref r], []⟩)) _ _ s
    refine wpAny_bind (wpAny_of_eq (F.newCall_tuple_1 _) (wpAny_pure ⟨plainId_quiet F.plain_tuple_new _, codeAny_builtin F.entry_tuple_new ?_⟩))
    rw [Around.under_plainId F.plain_tuple_new _]
    have hsub := sub_tuple_self
    have hinit := init_tuple_lookup
    have hmh := madeHere_tuple
    have hTI : s.TypeIs (.ref r) T := K.type s hok
    have n1 := K.notList
    have n2 := K.notTuple
    have hh1 : A.in1.in1.handled = none := hh
    wp_walk using wpAny_typeOf hTI, collect_src (A := A.in1.in1) K hh1 hok hn
    intro h' tk acc hk hacc
    show wpAny _ _ (Builtin.Tuple.tupleExact acc.toList.toArray >>= fun v => ret v) _ _ _
    unfold Builtin.Tuple.tupleExact
    refine wpAny_bind (wpAny_newObj_type ?_ ?_)
    · refine wpAny_pure ?_
      have e : acc.toList.toArray = acc := by simp
      rw [e]
      exact ⟨⟨_, Heap.get?_push_size _ rfl, rfl⟩, hQ h' tk acc hk hacc⟩
    · show acc.toList.toArray.size ≤ sizeLine
      simp only [Array.toArray_toList]
      rw [hacc.1]
      exact hn
  · exact ⟨h₁.1, F.args_object_init_2 obj _, object_init_meets F.called_tuple.init.lookup F.called_tuple.made (by decide) prog w A.in1 _ s₁ ⟨h₁.1, rfl, h₁.2⟩⟩
end
/-- tuple(d), d a dict of int and text keys: a new tuple of its keys, known to its object -/
def PlainT (o : Obj) : Prop := o.cls = .type "tuple" ∧ o.dict = none
def rTupD : List V → Hp → VK → Prop := fun xs H Q => ∃ p kvs, xs = [.ref p] ∧ H p = some (.dK kvs) ∧ ∀ q o, H q = none → PlainT o → Q (.ref q) (upd H q (.frz o (.tup (kvs.map fun kv => kV kv.1))))
theorem call_tupD {X : Cx} (hc : X.calm = true) : CallR X (.type "tuple") rTupD := by
  intro pins s σ H xs us Q I r h
  obtain ⟨p, kvs, e, hk, q⟩ := h
  subst e
  obtain ⟨u, eu, rx⟩ := vals1 r
  subst eu
  obtain rfl : u = Value.ref p := rx
  obtain ⟨z, lo, vs, rk, hd⟩ := (show ObjOk X.prog X.w H s.heap p (.dK kvs) from I.hok p _ hk)
  obtain ⟨ep, hat⟩ := hd.dictAt
  have hl : kvs.length = vs.length := Paired.length rk
  refine tuple_src (PySem.W.kdl_dict (knd := mixKind X.prog X.w) (kvs := vs) (ep := ep) lo) (I.ok.hd hc) hat (by rw [← hl]; exact z) fun h' tk acc hkeep hacc => ?_
  have I1 : Inv X pins σ H { s with heap := h', toks := tk } := I.kept hkeep
  have rel : Vals (kvs.map fun kv => kV kv.1) acc.toList := by
    have el : acc.toList.length = acc.size := by simp
    refine vals_of_at (by rw [List.length_map, el, hacc.1, hl]) fun j x w h1 h2 => ?_
    obtain ⟨k, y, hky, hi⟩ := hacc.2 j w (by rw [← Array.getElem?_toList]; exact h2)
    have e1 : (kvs.map (·.1))[j]? = some k := by
      rw [KV.keys rk, List.getElem?_map, hky]
      rfl
    have e2 : (kvs.map fun kv => kV kv.1) = (kvs.map (·.1)).map kV := by
      rw [List.map_map]
      rfl
    rw [e2, List.getElem?_map, e1] at h1
    cases h1
    exact keyIs_rel hi
  have hz : (kvs.map fun kv => kV kv.1).length ≤ sizeLine := by
    rw [List.length_map]
    exact z
  have ok : ObjOk X.prog X.w (upd H h'.objs.size (.frz { cls := .type "tuple", data := .seq acc } (.tup (kvs.map fun kv => kV kv.1)))) (h'.push { cls := .type "tuple", data := .seq acc }) h'.objs.size
      (.frz { cls := .type "tuple", data := .seq acc } (.tup (kvs.map fun kv => kV kv.1))) := by
    refine ⟨Heap.get?_push_size _ rfl, hz, acc.toList, rel, ?_⟩
    rw [Array.toArray_toList]
    exact IsTup.new _ _
  exact ⟨.ref h'.objs.size, _, I1.laid (fun b o e => Heap.get?_push_of_some _ e) (Nat.le_refl _) ok, rfl, q _ _ (I1.hok.fresh (Nat.le_refl _)) ⟨rfl, rfl⟩⟩
end Own
namespace Own
open PySem PySem.Spec PyProof.Rows L2
/-- t.index(k), t a tuple of ints that is known to its object -/
def tTix (to : TE) (t : TA) : TE := fun σ H Q => to σ H fun x H1 => ∃ (p : Addr) (o : Obj) (ns : List Int), x = .ref p ∧ H1 p = some (.frz o (.tup (ns.map V.int))) ∧ PlainT o ∧
  t σ H1 fun vs H2 => ∃ k : Int, vs = [.int k] ∧ H2 p = some (.frz o (.tup (ns.map V.int))) ∧ k ∈ ns ∧ Q (.int (ns.idxOf k : Nat)) H2
theorem pe_tix {X : Cx} {o e : Expr} {to : TE} {t : TA} {apos cpos : Pos} (ho : PE X o to) (ha : PA X [e] t) (hbase : attributeBase o "index" X.env (eval o X.env) = eval o X.env := by rfl)
    (hfew : ((backTo cpos (starEach [e] X.env)).all (fun x => !x.1) && (backToKw cpos (keywordEach [] X.env)).all (fun x => x.1.isSome) && decide (([e] : List Expr).length + ([] : List Keyword).length + (if ([] : List Keyword).isEmpty then 0 else 1) < 30)) = true := by rfl)
    (hline : (apos.endLine == cpos.line) = true := by rfl) (hs : starEach [e] X.env = (false, eval e X.env) :: starEach [] X.env := by rfl) (hplain : (backTo cpos (starEach [] X.env)).any (·.1) = false := by rfl) :
    PE X (.Call (.Attribute o "index" apos) [e] [] cpos) (tTix to t) := by
  constructor
  intro pins s σ H Q I h
  refine wpAny_Call_method_late hbase hfew hline rfl (thn (ho.run pins s σ H _ I h) fun v s1 w1 => ?_)
  obtain ⟨x, H1, I1, r1, p, ob, ns, rfl, hp, po, q1⟩ := w1
  cases r1
  have okp := I1.hok p _ hp
  obtain ⟨hob, _⟩ := okp
  refine ⟨"tuple", "tuple.index", PySem.F.plainAttrs_tuple, PySem.F.slot_tuple_index, PySem.F.type_tuple_index, ⟨ob, hob, po.1⟩, ?_, ?_⟩
  · intro a ea
    cases ea
    exact ⟨ob, hob, po.2⟩
  have hA := ha.run cpos pins s1 σ H1 _ I1 q1
  rw [hs] at hA ⊢
  refine Calls.callWith_builtin ?_ (Calls.evalArgs_plain (thn hA fun us s2 w2 => ?_))
  · show (false || (backTo cpos (starEach [] X.env)).any (·.1)) = false
    rw [hplain]
    rfl
  obtain ⟨vs, H2, I2, r2, k, rfl, hp2, hk, q2⟩ := w2
  obtain ⟨u, rfl, t0, rfl⟩ := vals1 r2
  obtain ⟨hob2, hlen, its, rv, pt⟩ := I2.hok p _ hp2
  exact PySem.SeqAt.tuple_index_ints (l := p) (vs := its) pt (Vals.ints rv) hk ⟨.int (ns.idxOf k : Nat), H2, I2.tok _, ⟨_, rfl⟩, q2⟩
/-! set(l), l a list of ints -/
section
variable {P : Program} {w : World} {A : Around} {E : Value → Shared → Prop} {s : Shared}
abbrev emptySet (w : World) : Obj := { cls := .type "set", dict := none, data := .set #[] 0 (.fresh 0 0 (!w.params.followText "set-order")) }
set_option maxHeartbeats 3200000 in
theorem set_of_list {l : Addr} {items : Array Value} (ns : List Int) {Q : Value → Shared → Prop} (hh : A.handled = none) (hl : s.heap.IsList l items) (hit : IntsAre items.toList ns) (hb : ns.length + 1 < scanBound)
    (h : ∀ (h' : Heap) (tk c : Nat), SetR w h' s.heap.objs.size (fun j => decide (j ∈ ns)) c → c ≤ ns.length → (∀ b o, s.heap.get? b = some o → h'.get? b = some o) → Q (.ref s.heap.objs.size) { s with heap := h', toks := tk }) :
    wpAny (model P w) A (call (.type "set") [.ref l]) Q E s := by
  have hisz : items.size = ns.length := by
    have q := IntsAre.length hit
    rw [Array.length_toList] at q
    exact q
  obtain ⟨c, tl, hmro⟩ := F.called_set.mro
  have hmade := F.called_set.made
  have hsub := F.called_set.sub
  refine wpAny_call (codeAny_of_tree ?_)
  show wpAny _ _ (callAny (.type "set") _) _ _ _
  refine wpAny_pure ⟨Code.quiet_builtin _ (by decide +kernel), codeAny_builtin F.entry_type_call ?_⟩
  rw [Around.under_plain (weight_type_call_type "set" [.ref l] []) rfl]
  have h1 := F.called_set.notType
  have h2 := F.called_set.canCreate
  have hct := F.typeCall_set_1 (.ref l)
  repeat (any_goals (first | assumption | wp_step))
  refine codeAny_mono (code_set_led1 (.ref l) (E := E) (Q₁ := fun obj s₁ => obj = .ref s.heap.objs.size ∧ s₁ = { s with heap := s.heap.push (emptySet w) }) ⟨rfl, rfl⟩) fun r s₁ hr => ?_
  cases r with
  | error e => exact hr
  | ok fl =>
    cases fl with
    | ret obj =>
      obtain ⟨rfl, rfl⟩ := hr
      have hS : (s.heap.push (emptySet w)).get? s.heap.objs.size = some (emptySet w) := Heap.get?_push_size _ rfl
      have hT : Shared.TypeIs { s with heap := s.heap.push (emptySet w) } (.ref s.heap.objs.size) "set" := ⟨_, hS, rfl⟩
      have hli := F.called_set.init.lookup
      have hbi := F.called_set.init.bind (.ref s.heap.objs.size)
      repeat (any_goals (first | assumption | wp_step))
      refine codeAny_mono (codeAny_call_builtin (R := wants (fun r s₂ => r = .none ∧ ∃ h' tk c, s₂ = { s with heap := h', toks := tk } ∧ SetR w h' s.heap.objs.size (fun j => decide (j ∈ ns)) c ∧ c ≤ ns.length ∧
          (∀ b o, s.heap.get? b = some o → h'.get? b = some o)) E) F.called_set.init.plain F.entry_set_init (check_set_init_1 hT ?_)) fun r₂ s₂ hr₂ => ?_
      · obtain ⟨ol, hol, hcl, nl, hdl⟩ := hl
        obtain ⟨ocls, odict, odata, oslots⟩ := ol
        simp only at hcl hdl
        subst hcl; subst hdl
        have hol' : (s.heap.push (emptySet w)).get? l = some { cls := .type "list", dict := odict, data := .seq items nl, slots := oslots } := Heap.get?_push_of_some _ hol
        have hsls := F.sub_list_set
        have hslf := F.sub_list_frozenset
        have hne : (Value.type "list" == Value.type "dict") = false := by decide
        have hl1 : (s.heap.push (emptySet w)).IsList l items := ⟨_, hol', rfl, nl, rfl⟩
        unfold Builtin.«set.__init__» noKeywords Builtin.Frozenset.updateFrom
        generalize hPI : pyIter = PI
        wp_walk
        subst hPI
        refine wpAny_pyIter_list hl1 (wpAny_bind (wpAny_runValue ?_))
        have hlS : l < s.heap.objs.size := Heap.lt_size hol
        have hh3 : A.in1.in1.in1.handled = none := by simp [hh]
        have hz1 : (s.heap.push (emptySet w)).objs.size = s.heap.objs.size + 1 := Heap.size_push ..
        have hneI : l ≠ (s.heap.push (emptySet w)).objs.size := by
          rw [hz1]
          exact Nat.ne_of_lt (Nat.lt_succ_of_lt hlS)
        have hSf : s.heap.objs.size ∉ [(s.heap.push (emptySet w)).objs.size, l] := by
          rw [hz1]
          intro m
          rcases List.mem_cons.mp m with z | z
          · exact absurd z (Nat.ne_of_lt (Nat.lt_succ_self _))
          · exact absurd (List.mem_singleton.mp z) (Nat.ne_of_gt hlS)
        have hval : ∀ (i : Nat) (v : Value), items[i]? = some v → ∃ k t, ns[i]? = some k ∧ v = .int k t := by
          intro i v hv
          have hi : i < ns.length := by
            rw [← hisz]
            exact (Array.getElem?_eq_some_iff.mp hv).1
          obtain ⟨t, e⟩ := PyProof.Rows.IntsAre.int_at hit i v (by rw [Array.getElem?_toList]; exact hv)
          refine ⟨ns[i], t, List.getElem?_eq_getElem hi, ?_⟩
          rw [e, List.getD_eq_getElem?_getD, List.getElem?_eq_getElem hi]
          rfl
        refine set_update_ints ((Walks.list hh3 _ l hneI items).toS) s.heap.objs.size hSf ns hisz hb hval (items.size - 0) 0 _ (by omega) (Nat.zero_le _) ⟨⟨_, Heap.get?_push_size _ rfl, rfl, rfl⟩, (hl1.push _)⟩ ⟨0, Nat.le_refl 0, setR_new_at (Heap.get?_push_of_some _ hS)⟩ ?hR
        intro s' c' hm hc' hS'
        obtain ⟨h', g2, d', tk', os'⟩ := s'
        have eg : g2 = s.gens := hm.gens
        have ed : d' = s.drawn := hm.drawn
        have eo : os' = s.os := hm.os
        subst eg; subst ed; subst eo
        show wpAny _ _ _ _ _ _
        refine wpAny_pure ?_
        show wpAny _ _ (ret Value.none) _ _ _
        rw [hisz] at hc'
        refine wpAny_pure ⟨rfl, h', tk', c', rfl, hS', hc', fun b o e => ?_⟩
        have hb0 : b < s.heap.objs.size := Heap.lt_size e
        refine hm.heap b o (fun m => ?_) (Heap.get?_push_of_some _ (Heap.get?_push_of_some _ e))
        rw [hz1] at m
        rcases List.mem_cons.mp m with z | z
        · exact absurd z (Nat.ne_of_lt hb0)
        · exact absurd (List.mem_singleton.mp z) (Nat.ne_of_lt (Nat.lt_succ_of_lt hb0))
      · cases r₂ with
        | error e => exact hr₂
        | ok fl₂ =>
          cases fl₂ with
          | ret r =>
            obtain ⟨rfl, h', tk, c', rfl, hS', hc', hk'⟩ := hr₂
            repeat (any_goals (first | assumption | wp_step))
            exact h _ _ _ hS' hc' hk'
          | _ => exact hr₂.elim
    | _ => exact hr.elim
end
/-- set(l) -/
def rSetL (w : World) (K : PySem.W.Frag) : List V → Hp → VK → Prop := fun vs H Q => ∃ (a : Addr) (ns : List Int), vs = [V.ref a] ∧ SqL K H a (ns.map V.int) ∧ ns.length + 1 < scanBound ∧
  ∀ (p : Addr) (c : Nat), H p = none → c ≤ ns.length → Q (.ref p) (upd H p (SetO w p (fun j => decide (j ∈ ns)) c))
end Own
namespace Own
open PySem PySem.Spec PyProof.Rows L2
section
variable {P : Program} {w : World} {A : Around} {E : Value → Shared → Prop} {s : Shared} {a : Addr}
/-- sorted(a set of ints), of any size -/
theorem sorted_set_any {S : Int → Bool} {n : Nat} {Q : Value → Shared → Prop} (R : SetR w s.heap a S n) (hh : A.handled = none)
    (hQ : ∀ s' p (out : Array Value) (c : Nat) (ns : List Int), (∀ b o, s.heap.get? b = some o → s'.heap.get? b = some o) → s'.gens = s.gens → s'.os = s.os → s.heap.objs.size ≤ p →
      s'.heap.get? p = some (seqObj "list" out c) → IntsAre out.toList ns → ns.Pairwise (· < ·) → (∀ k, k ∈ ns ↔ S k = true) → ns.length = n → Q (.ref p) s') :
    wpAny (model P w) A (call (.builtin "sorted") [.ref a]) Q E s := by
  obtain ⟨o, es, ep, t, ho, hex, hd, g, nd, hm, hb, hf, hn, hr, hl⟩ := R
  refine Calls.call_function_entry kind_sorted plain_sorted entry_sorted (args_sorted1 _) ?_
  unfold Builtin.«sorted»
  refine wpAny_bind (m := checkCount "sorted" 1 1 _) (wpAny_pure (wpAny_bind (collect_set (A := A.in1) hh ⟨o, ho, hex.1, hd⟩ hf hb hr hl fun s1 vs k1 hz g1 o1 pm => ?_)))
  have hvl : vs.length = n := by
    rw [pm.length_eq, List.length_map, Array.length_toList]
    exact hn
  have hsz : vs.length ≤ sizeLine := by
    have e : scanBound ≤ sizeLine := by decide
    rw [hvl, ← hn]
    omega
  have hI : IntsAre vs (vs.map Builtin.Re.reRawOf) := by
    refine ints_of vs fun v hv => ?_
    obtain ⟨e, he, q⟩ := List.mem_map.mp (pm.mem_iff.mp hv)
    obtain ⟨k, tk, h1, _⟩ := g e he
    exact ⟨k, tk, q.symm.trans h1⟩
  have pk : (vs.map Builtin.Re.reRawOf).Perm (es.toList.map keyOf) := by
    have q := pm.map Builtin.Re.reRawOf
    rw [List.map_map] at q
    exact q
  refine wpAny_bind (wpAny_newList ?_ hsz)
  have hoL : (s1.heap.push (seqObj "list" vs.toArray 0)).get? s1.heap.objs.size = some (seqObj "list" vs.toArray 0) := Heap.get?_push_size _ rfl
  refine wpAny_bind (wpAny_holding (wpAny_call_entry slot_list_sort ⟨_, hoL, rfl⟩ entry_list_sort (SrtO.list_sort_ord SrtO.swo_int hoL hsz (fun h2 => SrtO.ints_sortable hI h2) fun out h1 h2 => ⟨_, rfl, ?_⟩) (args_list_sort _)))
  obtain ⟨a1, a2, a3⟩ := SrtO.ints_out hI h1 h2
  obtain ⟨c, hc⟩ := sortedHeap_at (vs := vs) (out := out.toArray) hoL
  have pn : (out.map SrtO.iv).Perm (es.toList.map keyOf) := a2.trans pk
  refine wpAny_pure ⟨_, rfl, hQ _ s1.heap.objs.size out.toArray c (out.map SrtO.iv) (fun b u e => ?_) g1 o1 hz hc a1 (lt_of_le_nodup _ a3 (pn.nodup_iff.mpr nd)) (fun k => ?_) ?_⟩
  · have q := k1 b u e
    have hlt := Heap.lt_size q
    show (sortedHeap (s1.heap.push (seqObj "list" vs.toArray 0)) s1.heap.objs.size vs out.toArray).get? b = some u
    rw [sortedHeap_old (Nat.ne_of_lt hlt) (by rw [size_push']; exact Nat.lt_succ_of_lt hlt)]
    exact Heap.get?_push_of_some _ q
  · rw [pn.mem_iff, ← hm k]
  · rw [pn.length_eq, List.length_map, Array.length_toList]
    exact hn
end
section
variable {X : Cx}
/-- a set of the ints ns stands at p -/
def SetAtI (w : World) (H : Hp) (p : Addr) (ns : List Int) : Prop := ∃ c, H p = some (SetO w p (fun j => decide (j ∈ ns)) c)
def rSet1 (w : World) (K : PySem.W.Frag) : List V → Hp → VK → Prop := fun vs H Q => ∃ (a : Addr) (ns : List Int), vs = [V.ref a] ∧ SqL K H a (ns.map V.int) ∧ ns.length + 1 < 4096 ∧
  ∀ (p : Addr) (c : Nat), H p = none → Q (.ref p) (upd H p (SetO w p (fun j => decide (j ∈ ns)) c))
theorem call_set1 (hc : X.calm = true) : CallR X (.type "set") (rSet1 X.w X.K) := by
  intro pins s σ H vs us Q I r h
  obtain ⟨a, ns, rfl, hs, hb, q⟩ := h
  obtain ⟨its, rv, hl, hz⟩ := I.list hs
  rw [Vals.ref1 r]
  refine set_of_list ns (I.ok.hd hc) hl.isList (by rw [List.toList_toArray]; exact rv.ints) hb fun h' tk c R _ hk => ?_
  exact ⟨.ref _, _, I.laid hk (Nat.le_refl _) (setO_new R), rfl, q _ c (I.hok.fresh (Nat.le_refl _))⟩
def rSorted1 (w : World) : List V → Hp → VK → Prop := fun vs H Q => ∃ (a : Addr) (S : Int → Bool) (n : Nat), vs = [V.ref a] ∧ H a = some (SetO w a S n) ∧
  ∀ (ns : List Int) (p : Addr), ns.Pairwise (· < ·) → (∀ k : Int, k ∈ ns ↔ S k = true) → H p = none → Q (.ref p) (upd H p (.lst (ns.map V.int)))
theorem call_sorted1 (hc : X.calm = true) : CallR X (.builtin "sorted") (rSorted1 X.w) := by
  intro pins s σ H vs us Q I r h
  obtain ⟨a, S, n, rfl, ha, q⟩ := h
  have R := setO_get I ha
  have hb : n < scanBound := by
    obtain ⟨o, es, ep, t, ho, hex, hd, g, nd, hm, hb, hf, hn, _⟩ := R
    rw [← hn]
    exact hb
  rw [Vals.ref1 r]
  refine sorted_set_any R (I.ok.hd hc) fun s' p out c ns k g o hp hg hi hs hm hl => ?_
  have hlen : (ns.map V.int).length ≤ sizeLine := by
    have e : scanBound ≤ sizeLine := by decide
    rw [List.length_map]
    omega
  have hn : H p = none := I.hok.fresh hp
  have J : Inv X pins σ (upd H p (.lst (ns.map V.int))) { s with heap := s'.heap, gens := s'.gens, drawn := s'.drawn, toks := s'.toks } := by
    refine I.call (ch := []) (Un.laid k hp hn) (I.hok.laid k hp ⟨hlen, out.toList, c, vals_of_ints hi, hg⟩) ?_ (fun _ z => nomatch z)
    rw [g]
    exact I.bare
  have e : s' = { s with heap := s'.heap, gens := s'.gens, drawn := s'.drawn, toks := s'.toks } := by
    cases s'
    cases s
    cases o
    rfl
  rw [e]
  exact ⟨.ref p, _, J, rfl, q ns p hs hm hn⟩
end
end Own
namespace Own
open PySem PySem.Spec PyProof.Rows L2
def topS (i : Nat) : Stmt := PySem.Challenge.pw_patternways_k14_whole_enough.main.body.getD i (.Pass ⟨0, 0, 0, 0⟩)
/-! ### built-ins by their names -/
theorem bt_len : bootBuiltins "len" = some (.builtin "len") := by decide +kernel
theorem bt_isinstance : bootBuiltins "isinstance" = some (.builtin "isinstance") := by decide +kernel
theorem bt_sum : bootBuiltins "sum" = some (.builtin "sum") := by decide +kernel
theorem bt_max : bootBuiltins "max" = some (.builtin "max") := by decide +kernel
theorem bt_min : bootBuiltins "min" = some (.builtin "min") := by decide +kernel
theorem bt_all : bootBuiltins "all" = some (.builtin "all") := by decide +kernel
theorem bt_any : bootBuiltins "any" = some (.builtin "any") := by decide +kernel
theorem bt_sorted : bootBuiltins "sorted" = some (.builtin "sorted") := by decide +kernel
theorem bt_list : bootBuiltins "list" = some (.type "list") := by decide +kernel
theorem bt_tuple : bootBuiltins "tuple" = some (.type "tuple") := by decide +kernel
theorem bt_int : bootBuiltins "int" = some (.type "int") := by decide +kernel
theorem bt_set : bootBuiltins "set" = some (.type "set") := by decide +kernel
theorem bt_bool : bootBuiltins "bool" = some (.type "bool") := by decide +kernel
theorem bt_str : bootBuiltins "str" = some (.type "str") := by decide +kernel
/-- what the module's names hold -/
structure Bt (mg : Str → Option Value) : Prop where
  len : mg "len" = none
  isinstance : mg "isinstance" = none
  sum : mg "sum" = none
  max : mg "max" = none
  min : mg "min" = none
  all : mg "all" = none
  any : mg "any" = none
  sorted : mg "sorted" = none
  list : mg "list" = none
  tuple : mg "tuple" = none
  int : mg "int" = none
  set : mg "set" = none
  bool : mg "bool" = none
  str : mg "str" = none
  range : mg "range" = none
  enumerate : mg "enumerate" = none
  LETTERS : ∃ t, mg "LETTERS" = some (.str "abc" t)
  MOST_STANDS : ∃ t, mg "MOST_STANDS" = some (.int 40 t)
  MOST_STANDS_LEARNT : ∃ t, mg "MOST_STANDS_LEARNT" = some (.int 4 t)
  MOST_PRODUCT : ∃ t, mg "MOST_PRODUCT" = some (.int 6 t)
/-- a module's constant -/
theorem pe_g {X : Cx} {x : Str} {v : V} {pos : Pos} (hg : Gl X x) (h : ∃ u, X.mg x = some u ∧ RelV v u) (hdb : (x == ("__debug__" : Str)) = false := by decide) : PE X (.Name x pos) (tC v) := by
  obtain ⟨u, h1, h2⟩ := h
  exact pe_glob hg h1 h2 hdb
theorem Bt.gLetters {mg : Str → Option Value} (B : Bt mg) : ∃ u, mg "LETTERS" = some u ∧ RelV (.str "abc") u := let ⟨t, h⟩ := B.LETTERS; ⟨_, h, t, rfl⟩
theorem Bt.gStands {mg : Str → Option Value} (B : Bt mg) : ∃ u, mg "MOST_STANDS" = some u ∧ RelV (.int 40) u := let ⟨t, h⟩ := B.MOST_STANDS; ⟨_, h, t, rfl⟩
theorem Bt.gProduct {mg : Str → Option Value} (B : Bt mg) : ∃ u, mg "MOST_PRODUCT" = some u ∧ RelV (.int 6) u := let ⟨t, h⟩ := B.MOST_PRODUCT; ⟨_, h, t, rfl⟩
theorem Bt.gLearnt {mg : Str → Option Value} (B : Bt mg) : ∃ u, mg "MOST_STANDS_LEARNT" = some u ∧ RelV (.int 4) u := let ⟨t, h⟩ := B.MOST_STANDS_LEARNT; ⟨_, h, t, rfl⟩
/-! ### a def that keeps its promise -/
structure Got (P : Program) (w : World) (K : PySem.W.Frag) (mg : Str → Option Value) (base : Heap) (CX : CXT) (k : Nat) (x : Str) (ps : List Str) (sp : Sp) : Prop where
  ex : ∃ f fd, FnOk P w K mg base CX k f fd ps sp ∧ Binds K fd ps [] ∧ PySem.W.keepIn K (.ref f) = true ∧ mg x = some (.ref f)
theorem Got.call {X : Cx} {k : Nat} {x : Str} {ps : List Str} {sp : Sp} {e : Expr} {es : List Expr} {t : TA} {p pos : Pos} (C : Got X.prog X.w X.K X.mg X.base CX0 k x ps sp) (hr : Room k X.A) (hg : Gl X x)
    (ha : PA X (e :: es) t) (hdb : (x == ("__debug__" : Str)) = false := by decide) (he : starEach (e :: es) X.env = (false, eval e X.env) :: starEach es X.env := by rfl) (hpl : (backTo pos (starEach es X.env)).any (·.1) = false := by rfl) :
    PE X (.Call (.Name x p) (e :: es) [] pos) (tCall sp [] E0 t) := by
  obtain ⟨f, fd, F, b, kp, m⟩ := C.ex
  exact pe_call F hr hg m kp b .nil pass0 ha hdb he hpl
/-- the same of a def that may raise, where it does not -/
theorem Got.callL {X : Cx} {k : Nat} {x : Str} {ps : List Str} {sp : Sp} {e : Expr} {es : List Expr} {t : TA} {p pos : Pos} (C : Got X.prog X.w X.K X.mg X.base (L2.CX X.prog X.w) k x ps sp) (hr : Room k X.A) (hg : Gl X x)
    (ha : PA X (e :: es) t) (hdb : (x == ("__debug__" : Str)) = false := by decide) (he : starEach (e :: es) X.env = (false, eval e X.env) :: starEach es X.env := by rfl) (hpl : (backTo pos (starEach es X.env)).any (·.1) = false := by rfl) :
    PE X (.Call (.Name x p) (e :: es) [] pos) (tCall sp [] E0 t) := by
  obtain ⟨f, fd, F, b, kp, m⟩ := C.ex
  exact pe_call F hr hg m kp b .nil passL ha hdb he hpl
/-! ### heaps -/
theorem Same.tup {K : PySem.W.Frag} {H H' : Hp} {a : Addr} {xs : List V} (e : Same H H') (h : SqT K H a xs) : SqT K H' a xs := by
  rcases h with (h | ⟨o, h⟩) | h
  · exact .inl (.inl (e _ _ h))
  · exact .inl (.inr ⟨o, e _ _ h⟩)
  · exact .inr h
theorem same_new {H : Hp} {p : Addr} (h : H p = none) (o : HO) : Same H (upd H p o) := fun b u q => by
  rw [upd_ne (ne_of_none q h)]
  exact q
theorem SqT.new {K : PySem.W.Frag} {H : Hp} {p : Addr} {xs : List V} : SqT K (upd H p (.tup xs)) p xs := .inl (.inl upd_same)
theorem SqL.new {K : PySem.W.Frag} {H : Hp} {p : Addr} {xs : List V} : SqL K (upd H p (.lst xs)) p xs := .inl (.inl upd_same)
theorem tyx_tup {K : PySem.W.Frag} {H : Hp} {a : Addr} {xs : List V} (h : SqT K H a xs) : TyX K H (.ref a) (.type "tuple") := by
  rcases h with (h | ⟨o, h⟩) | ⟨o, its, n, h, c, _⟩
  · exact .base (.tup h)
  · exact .fTuple h
  · exact .kTuple h c
end Own
namespace Own
/-! patterns and their words; words are lists of numbers of letters -/
abbrev Word := List Nat
mutual
inductive Pat where
  | non | emp
  | one (s : List Nat)
  | row (ps : Pats)
  | any (ps : Pats)
  | again (p : Pat) (lo : Nat) (hi : Option Nat)
  | group (p : Pat)
inductive Pats where
  | nil
  | cons (p : Pat) (ps : Pats)
end
/-- n words of A, one behind the other -/
def Pow (A : Word → Prop) : Nat → Word → Prop
  | 0, w => w = []
  | n + 1, w => ∃ u v, w = u ++ v ∧ Pow A n u ∧ A v
def InB (lo : Nat) (hi : Option Nat) (n : Nat) : Prop := lo ≤ n ∧ ∀ h, hi = some h → n ≤ h
mutual
def L : Pat → Word → Prop
  | .non, _ => False
  | .emp, w => w = []
  | .one s, w => ∃ a, a ∈ s ∧ w = [a]
  | .row ps, w => LRow ps w
  | .any ps, w => LAny ps w
  | .again p lo hi, w => ∃ n, InB lo hi n ∧ Pow (L p) n w
  | .group p, w => L p w
def LRow : Pats → Word → Prop
  | .nil, w => w = []
  | .cons p ps, w => ∃ u v, w = u ++ v ∧ L p u ∧ LRow ps v
def LAny : Pats → Word → Prop
  | .nil, _ => False
  | .cons p ps, w => L p w ∨ LAny ps w
end
mutual
def Pat.wt : Pat → Nat
  | .non => 0
  | .emp => 1
  | .one _ => 1
  | .row ps => ps.wt
  | .any ps => ps.wt
  | .again p lo hi => p.wt * (match hi with | some h => h | none => lo + 1)
  | .group p => p.wt
def Pats.wt : Pats → Nat
  | .nil => 0
  | .cons p ps => p.wt + ps.wt
end
mutual
def Pat.parts : Pat → Nat
  | .non => 1
  | .emp => 1
  | .one _ => 1
  | .row ps => 1 + ps.parts
  | .any ps => 1 + ps.parts
  | .again p _ _ => 1 + p.parts
  | .group p => 1 + p.parts
def Pats.parts : Pats → Nat
  | .nil => 0
  | .cons p ps => p.parts + ps.parts
end
mutual
def Pat.depth : Pat → Nat
  | .non => 0
  | .emp => 0
  | .one _ => 0
  | .row ps => ps.depth + 1
  | .any ps => ps.depth + 1
  | .again p _ _ => p.depth + 1
  | .group p => p.depth + 1
def Pats.depth : Pats → Nat
  | .nil => 0
  | .cons p ps => max p.depth ps.depth
end
mutual
/-- a pattern of the size k, as drawn: bounds are in order -/
def Pat.Ok (k : Nat) : Pat → Prop
  | .non => True
  | .emp => True
  | .one s => s ≠ [] ∧ s.length ≤ 3 ∧ ∀ a, a ∈ s → a < k
  | .row ps => ps.Ok k ∧ ps.len ≤ 4
  | .any ps => ps.Ok k ∧ ps.len ≤ 4
  | .again p lo hi => p.Ok k ∧ lo ≤ 3 ∧ ∀ h, hi = some h → lo ≤ h ∧ 1 ≤ h ∧ h ≤ 3
  | .group p => p.Ok k
def Pats.Ok (k : Nat) : Pats → Prop
  | .nil => True
  | .cons p ps => p.Ok k ∧ ps.Ok k
def Pats.len : Pats → Nat
  | .nil => 0
  | .cons _ ps => ps.len + 1
end
/-! ### words between two places of a text -/
def seg (t : Word) (i j : Nat) : Word := (t.take j).drop i
theorem seg_length {t : Word} {i j : Nat} (h : i ≤ j) (hj : j ≤ t.length) : (seg t i j).length = j - i := by
  unfold seg
  rw [List.length_drop, List.length_take]
  omega
theorem seg_self {t : Word} {i : Nat} : seg t i i = [] := by
  unfold seg
  apply List.drop_eq_nil_of_le
  rw [List.length_take]
  omega
theorem seg_append {t : Word} {i j m : Nat} (h : i ≤ j) (h' : j ≤ m) : seg t i j ++ seg t j m = seg t i m := by
  unfold seg
  apply List.ext_getElem?
  intro n
  by_cases hj : j ≤ t.length
  · have hl : (List.drop i (List.take j t)).length = j - i := by
      rw [List.length_drop, List.length_take]
      omega
    by_cases hn : n < j - i
    · rw [List.getElem?_append_left (by omega), List.getElem?_drop, List.getElem?_drop, List.getElem?_take, List.getElem?_take, if_pos (by omega), if_pos (by omega)]
    · rw [List.getElem?_append_right (by omega), hl, List.getElem?_drop, List.getElem?_drop]
      congr 1
      omega
  · have e1 : List.take j t = t := List.take_of_length_le (by omega)
    have e2 : List.take m t = t := List.take_of_length_le (by omega)
    rw [e1, e2]
    have e3 : List.drop j t = [] := List.drop_eq_nil_of_le (by omega)
    rw [e3, List.append_nil]
theorem seg_split {t u v : Word} {i m : Nat} (h : i ≤ m) (hm : m ≤ t.length) (e : seg t i m = u ++ v) : ∃ j, i ≤ j ∧ j ≤ m ∧ seg t i j = u ∧ seg t j m = v := by
  have hl := seg_length h hm
  rw [e, List.length_append] at hl
  refine ⟨i + u.length, by omega, by omega, ?_⟩
  have q : seg t i (i + u.length) ++ seg t (i + u.length) m = u ++ v := by
    rw [seg_append (by omega) (by omega), e]
  exact List.append_inj q (by rw [seg_length (by omega) (by omega)]; omega)
theorem seg_one {t : Word} {i a : Nat} (h : t[i]? = some a) : seg t i (i + 1) = [a] := by
  have hi : i < t.length := (List.getElem?_eq_some_iff.mp h).1
  unfold seg
  apply List.ext_getElem?
  intro n
  rw [List.getElem?_drop, List.getElem?_take]
  cases n with
  | zero =>
    rw [if_pos (by omega)]
    simpa using h
  | succ n =>
    rw [if_neg (by omega)]
    simp
theorem seg_all {t : Word} : seg t 0 t.length = t := by
  unfold seg
  simp
/-- from place i one comes to place j by a word of A -/
def Go (A : Word → Prop) (t : Word) (i j : Nat) : Prop := i ≤ j ∧ j ≤ t.length ∧ A (seg t i j)
theorem go_le {A : Word → Prop} {t : Word} {i j : Nat} (h : Go A t i j) : i ≤ j ∧ j ≤ t.length := ⟨h.1, h.2.1⟩
theorem go_non {t : Word} {i j : Nat} : ¬ Go (L .non) t i j := by
  rintro ⟨_, _, h⟩
  unfold L at h
  exact h
theorem go_emp {t : Word} {i j : Nat} (hi : i ≤ t.length) : Go (L .emp) t i j ↔ j = i := by
  constructor
  · rintro ⟨h1, h2, h⟩
    unfold L at h
    have q := seg_length h1 h2
    rw [h] at q
    simp at q
    omega
  · rintro rfl
    refine ⟨Nat.le_refl _, hi, ?_⟩
    unfold L
    exact seg_self
theorem go_one {t : Word} {s : List Nat} {i j : Nat} : Go (L (.one s)) t i j ↔ ∃ a, t[i]? = some a ∧ a ∈ s ∧ j = i + 1 := by
  constructor
  · rintro ⟨h1, h2, h⟩
    unfold L at h
    obtain ⟨a, ha, e⟩ := h
    have q := seg_length h1 h2
    rw [e] at q
    simp at q
    have hj : j = i + 1 := by omega
    subst hj
    have hi : i < t.length := by omega
    refine ⟨a, ?_, ha, rfl⟩
    have z := seg_one (List.getElem?_eq_getElem hi)
    rw [e] at z
    rw [List.getElem?_eq_getElem hi]
    simp at z
    rw [z]
  · rintro ⟨a, h, ha, rfl⟩
    have hi : i < t.length := (List.getElem?_eq_some_iff.mp h).1
    refine ⟨by omega, by omega, ?_⟩
    unfold L
    exact ⟨a, ha, seg_one h⟩
theorem go_seq {A B : Word → Prop} {t : Word} {i m : Nat} : Go (fun w => ∃ u v, w = u ++ v ∧ A u ∧ B v) t i m ↔ ∃ j, Go A t i j ∧ Go B t j m := by
  constructor
  · rintro ⟨h1, h2, u, v, e, ha, hb⟩
    obtain ⟨j, hj1, hj2, rfl, rfl⟩ := seg_split h1 h2 e
    exact ⟨j, ⟨hj1, by omega, ha⟩, ⟨hj2, h2, hb⟩⟩
  · rintro ⟨j, ⟨h1, h2, ha⟩, ⟨h3, h4, hb⟩⟩
    exact ⟨by omega, h4, _, _, (seg_append h1 h3).symm, ha, hb⟩
theorem go_row_nil {t : Word} {i j : Nat} (hi : i ≤ t.length) : Go (LRow .nil) t i j ↔ j = i := by
  constructor
  · rintro ⟨h1, h2, h⟩
    unfold LRow at h
    have q := seg_length h1 h2
    rw [h] at q
    simp at q
    omega
  · rintro rfl
    refine ⟨Nat.le_refl _, hi, ?_⟩
    unfold LRow
    exact seg_self
theorem go_row_cons {p : Pat} {ps : Pats} {t : Word} {i m : Nat} : Go (LRow (.cons p ps)) t i m ↔ ∃ j, Go (L p) t i j ∧ Go (LRow ps) t j m := by
  have e : LRow (.cons p ps) = fun w => ∃ u v, w = u ++ v ∧ L p u ∧ LRow ps v := by
    funext w
    rw [LRow]
  rw [e]
  exact go_seq
theorem go_any_nil {t : Word} {i j : Nat} : ¬ Go (LAny .nil) t i j := by
  rintro ⟨_, _, h⟩
  unfold LAny at h
  exact h
theorem go_any_cons {p : Pat} {ps : Pats} {t : Word} {i j : Nat} : Go (LAny (.cons p ps)) t i j ↔ Go (L p) t i j ∨ Go (LAny ps) t i j := by
  unfold Go
  rw [LAny]
  constructor
  · rintro ⟨h1, h2, h | h⟩
    · exact .inl ⟨h1, h2, h⟩
    · exact .inr ⟨h1, h2, h⟩
  · rintro (⟨h1, h2, h⟩ | ⟨h1, h2, h⟩)
    · exact ⟨h1, h2, .inl h⟩
    · exact ⟨h1, h2, .inr h⟩
/-- n turns -/
def GoN (A : Word → Prop) (t : Word) (n i j : Nat) : Prop := Go (Pow A n) t i j
theorem goN_zero {A : Word → Prop} {t : Word} {i j : Nat} (hi : i ≤ t.length) : GoN A t 0 i j ↔ j = i := by
  constructor
  · rintro ⟨h1, h2, h⟩
    have h : seg t i j = [] := h
    have q := seg_length h1 h2
    rw [h] at q
    simp at q
    omega
  · rintro rfl
    exact ⟨Nat.le_refl _, hi, seg_self⟩
theorem goN_succ {A : Word → Prop} {t : Word} {n i m : Nat} : GoN A t (n + 1) i m ↔ ∃ j, GoN A t n i j ∧ Go A t j m := go_seq (A := Pow A n) (B := A)
theorem go_again {p : Pat} {lo : Nat} {hi : Option Nat} {t : Word} {i j : Nat} : Go (L (.again p lo hi)) t i j ↔ ∃ n, InB lo hi n ∧ GoN (L p) t n i j := by
  unfold Go GoN Go
  rw [L]
  constructor
  · rintro ⟨h1, h2, n, h3, h4⟩
    exact ⟨n, h3, h1, h2, h4⟩
  · rintro ⟨n, h3, h1, h2, h4⟩
    exact ⟨h1, h2, n, h3, h4⟩
/-- once a turn brings nothing new, no later one does -/
theorem goN_stop {A : Word → Prop} {t : Word} {i lo n : Nat} (h : ∀ j, GoN A t n i j → ∃ m, lo ≤ m ∧ m < n ∧ GoN A t m i j) : ∀ d j, GoN A t (n + d) i j → ∃ m, lo ≤ m ∧ m < n ∧ GoN A t m i j := by
  intro d
  induction d with
  | zero =>
    intro j hj
    exact h j hj
  | succ d ih =>
    intro j hj
    obtain ⟨x, hx, hg⟩ := goN_succ.mp (show GoN A t ((n + d) + 1) i j from hj)
    obtain ⟨m, h1, h2, h3⟩ := ih x hx
    have hm : GoN A t (m + 1) i j := goN_succ.mpr ⟨x, h3, hg⟩
    by_cases hlt : m + 1 < n
    · exact ⟨m + 1, by omega, hlt, hm⟩
    · have e : m + 1 = n := by omega
      rw [e] at hm
      exact h j hm
end Own
namespace Own
/-! tables of words, as lists -/
structure Tab where
  rows : List (List Nat)
  ends : List Bool
/-- the stand behind a letter -/
def Tab.st (T : Tab) (s l : Nat) : Nat := (T.rows.getD s []).getD l 0
def Tab.run (T : Tab) (s : Nat) : Word → Nat
  | [] => s
  | l :: w => T.run (T.st s l) w
def Tab.fin (T : Tab) (s : Nat) : Bool := T.ends.getD s false
def Tab.acc (T : Tab) (s : Nat) (w : Word) : Bool := T.fin (T.run s w)
/-- right, of n stands and k letters -/
structure Tab.Ok (T : Tab) (k n : Nat) : Prop where
  k1 : 1 ≤ k
  k3 : k ≤ 3
  n1 : 1 ≤ n
  n40 : n ≤ 40
  rl : T.rows.length = n
  el : T.ends.length = n
  row : ∀ r, r ∈ T.rows → r.length = k ∧ ∀ x, x ∈ r → x < n
  par : ∀ i, 0 < i → i < n → ∃ j, j < i ∧ ∃ l, l < k ∧ T.st j l = i
section
variable {T : Tab} {k n : Nat}
theorem Tab.Ok.st_lt (O : T.Ok k n) {s l : Nat} (hs : s < n) (hl : l < k) : T.st s l < n := by
  have h1 : s < T.rows.length := by rw [O.rl]; exact hs
  unfold Tab.st
  have e1 : T.rows.getD s [] = T.rows[s] := by
    rw [List.getD_eq_getElem?_getD, List.getElem?_eq_getElem h1, Option.getD_some]
  obtain ⟨q1, q2⟩ := O.row _ (List.getElem_mem h1)
  have h2 : l < T.rows[s].length := by rw [q1]; exact hl
  rw [e1, List.getD_eq_getElem?_getD, List.getElem?_eq_getElem h2, Option.getD_some]
  exact q2 _ (List.getElem_mem h2)
theorem Tab.run_append (T : Tab) (s : Nat) (u v : Word) : T.run s (u ++ v) = T.run (T.run s u) v := by
  induction u generalizing s with
  | nil => rfl
  | cons l u ih => exact ih _
/-- a word of the k letters -/
def Wd (k : Nat) (w : Word) : Prop := ∀ l, l ∈ w → l < k
theorem Tab.Ok.run_lt (O : T.Ok k n) {w : Word} : ∀ {s : Nat}, s < n → Wd k w → T.run s w < n := by
  induction w with
  | nil =>
    intro s hs _
    exact hs
  | cons l w ih =>
    intro s hs hw
    exact ih (O.st_lt hs (hw l List.mem_cons_self)) fun x hx => hw x (List.mem_cons_of_mem _ hx)
theorem Tab.Ok.reach (O : T.Ok k n) : ∀ i, i < n → ∃ w, Wd k w ∧ T.run 0 w = i := by
  intro i
  induction i using Nat.strongRecOn with
  | ind i ih =>
    intro hi
    by_cases h0 : i = 0
    · subst h0
      exact ⟨[], fun l h => by simp at h, rfl⟩
    · obtain ⟨j, hj, l, hl, e⟩ := O.par i (by omega) hi
      obtain ⟨w, hw, ew⟩ := ih j hj (by omega)
      refine ⟨w ++ [l], fun x hx => ?_, ?_⟩
      · rcases List.mem_append.mp hx with q | q
        · exact hw x q
        · rw [List.mem_singleton.mp q]
          exact hl
      · rw [Tab.run_append, ew]
        exact e
end
/-! ### all words of a length, in their order -/
def texts (k : Nat) : Nat → List Word
  | 0 => [[]]
  | m + 1 => (List.range k).flatMap fun l => (texts k m).map (l :: ·)
theorem mem_texts {k : Nat} : ∀ {m : Nat} {w : Word}, w ∈ texts k m ↔ w.length = m ∧ Wd k w
  | 0, w => by
    unfold texts
    rw [List.mem_singleton]
    constructor
    · rintro rfl
      exact ⟨rfl, fun l h => by simp at h⟩
    · rintro ⟨h, _⟩
      exact List.length_eq_zero_iff.mp h
  | m + 1, w => by
    unfold texts
    rw [List.mem_flatMap]
    constructor
    · rintro ⟨l, hl, h⟩
      obtain ⟨v, hv, rfl⟩ := List.mem_map.mp h
      obtain ⟨h1, h2⟩ := mem_texts.mp hv
      refine ⟨by rw [List.length_cons, h1], fun x hx => ?_⟩
      rcases List.mem_cons.mp hx with rfl | hx
      · exact List.mem_range.mp hl
      · exact h2 x hx
    · rintro ⟨h1, h2⟩
      cases w with
      | nil => simp at h1
      | cons l v =>
        refine ⟨l, List.mem_range.mpr (h2 l List.mem_cons_self), List.mem_map.mpr ⟨v, mem_texts.mpr ⟨?_, fun x hx => h2 x (List.mem_cons_of_mem _ hx)⟩, rfl⟩⟩
        rw [List.length_cons] at h1
        omega
/-- by the last letter: the same list -/
theorem texts_snoc (k : Nat) : ∀ m, texts k (m + 1) = (texts k m).flatMap fun w => (List.range k).map fun l => w ++ [l]
  | 0 => by
    unfold texts texts
    simp only [List.flatMap_cons, List.flatMap_nil, List.append_nil, List.nil_append, List.map_cons, List.map_nil]
    induction (List.range k) with
    | nil => rfl
    | cons a r ih => rw [List.flatMap_cons, ih, List.map_cons]; rfl
  | m + 1 => by
    have ih := texts_snoc k m
    show (List.range k).flatMap (fun l => (texts k (m + 1)).map (l :: ·)) = ((List.range k).flatMap fun l => (texts k m).map (l :: ·)).flatMap fun w => (List.range k).map fun l => w ++ [l]
    rw [List.flatMap_assoc]
    congr 1
    funext l
    rw [ih, List.map_flatMap, List.flatMap_map]
    congr 1
    funext w
    rw [List.map_map]
    rfl
theorem texts_length (k : Nat) : ∀ m, (texts k m).length = k ^ m
  | 0 => rfl
  | m + 1 => by
    unfold texts
    rw [List.length_flatMap]
    simp only [List.length_map, texts_length k m]
    rw [List.map_const', List.sum_replicate_nat, List.length_range, Nat.pow_succ, Nat.mul_comm]
/-- order: a before b -/
def lexLt : Word → Word → Prop
  | _, [] => False
  | [], _ :: _ => True
  | a :: u, b :: v => a < b ∨ a = b ∧ lexLt u v
def lexLtB : Word → Word → Bool
  | _, [] => false
  | [], _ :: _ => true
  | a :: u, b :: v => decide (a < b) || (decide (a = b) && lexLtB u v)
theorem lexLtB_iff : ∀ u v, lexLtB u v = true ↔ lexLt u v
  | _, [] => by simp [lexLtB, lexLt]
  | [], _ :: _ => by simp [lexLtB, lexLt]
  | a :: u, b :: v => by simp [lexLtB, lexLt, lexLtB_iff u v]
theorem lex_irrefl : ∀ u, ¬ lexLt u u
  | [] => fun h => h
  | a :: u => by
    rintro (h | ⟨_, h⟩)
    · omega
    · exact lex_irrefl u h
theorem lex_asymm : ∀ u v, lexLt u v → ¬ lexLt v u
  | u, [] => by simp [lexLt]
  | [], _ :: _ => fun _ h => h
  | a :: u, b :: v => by
    rintro (h | ⟨rfl, h⟩) (q | ⟨e, q⟩)
    · omega
    · omega
    · omega
    · exact lex_asymm u v h q
theorem texts_sorted (k : Nat) : ∀ m, (texts k m).Pairwise lexLt
  | 0 => List.pairwise_singleton _ _
  | m + 1 => by
    unfold texts
    have ih := texts_sorted k m
    have key : ∀ r : List Nat, r.Pairwise (· < ·) → (r.flatMap fun l => (texts k m).map (l :: ·)).Pairwise lexLt := by
      intro r
      induction r with
      | nil =>
        intro _
        exact List.Pairwise.nil
      | cons a r ihr =>
        intro hp
        obtain ⟨h1, h2⟩ := List.pairwise_cons.mp hp
        rw [List.flatMap_cons]
        refine List.pairwise_append.mpr ⟨?_, ihr h2, ?_⟩
        · exact List.pairwise_map.mpr (ih.imp fun h => .inr ⟨rfl, h⟩)
        · intro x hx y hy
          obtain ⟨u, _, rfl⟩ := List.mem_map.mp hx
          obtain ⟨b, hb, hy⟩ := List.mem_flatMap.mp hy
          obtain ⟨v, _, rfl⟩ := List.mem_map.mp hy
          exact .inl (h1 b hb)
    exact key _ List.pairwise_lt_range
/-- in a list in order, the place of an item is how many are before it -/
theorem place_of {l : List Word} (h : l.Pairwise lexLt) : ∀ {i : Nat} {w : Word}, l[i]? = some w → (l.filter (lexLtB · w)).length = i := by
  induction l with
  | nil =>
    intro i w e
    simp at e
  | cons a r ih =>
    intro i w e
    obtain ⟨h1, h2⟩ := List.pairwise_cons.mp h
    cases i with
    | zero =>
      have e : a = w := by simpa using e
      subst e
      have z : (a :: r).filter (lexLtB · a) = [] := by
        apply List.filter_eq_nil_iff.mpr
        intro x hx q
        have q := (lexLtB_iff _ _).mp q
        rcases List.mem_cons.mp hx with rfl | hx
        · exact lex_irrefl _ q
        · exact lex_asymm _ _ q (h1 x hx)
      rw [z]
      rfl
    | succ i =>
      have e : r[i]? = some w := by simpa using e
      have hw : w ∈ r := List.mem_of_getElem? e
      rw [List.filter_cons, if_pos ((lexLtB_iff _ _).mpr (h1 w hw)), List.length_cons, ih h2 e]
/-- the words of length m from a stand -/
def Tab.W (T : Tab) (k s m : Nat) : List Word := (texts k m).filter (T.acc s)
/-- all words up to length m (not m itself) -/
def Tab.WB (T : Tab) (k : Nat) : Nat → List Word
  | 0 => []
  | m + 1 => T.WB k m ++ T.W k 0 m
theorem W_succ (T : Tab) (k s m : Nat) : T.W k s (m + 1) = (List.range k).flatMap fun l => (T.W k (T.st s l) m).map (l :: ·) := by
  unfold Tab.W
  rw [texts, List.filter_flatMap]
  congr 1
  funext l
  rw [List.filter_map]
  rfl
theorem mem_W {T : Tab} {k s m : Nat} {w : Word} : w ∈ T.W k s m ↔ w.length = m ∧ Wd k w ∧ T.acc s w = true := by
  unfold Tab.W
  rw [List.mem_filter, mem_texts]
  constructor
  · rintro ⟨⟨a, b⟩, c⟩
    exact ⟨a, b, c⟩
  · rintro ⟨a, b, c⟩
    exact ⟨⟨a, b⟩, c⟩
theorem W_sorted (T : Tab) (k s m : Nat) : (T.W k s m).Pairwise lexLt := (texts_sorted k m).filter _
end Own
namespace Own
/-! going along letters from stand 0: stands and their first texts -/
abbrev Acc := List (Nat × Word)
def fAdd (acc : Acc) (x : Nat) (w : Word) : Acc := if x ∈ acc.map (·.1) then acc else acc ++ [(x, w)]
/-- the letters below m of a stand s with the text w -/
def fRow (T : Tab) (s : Nat) (w : Word) : Nat → Acc → Acc
  | 0, acc => acc
  | m + 1, acc => fAdd (fRow T s w m acc) (T.st s m) (w ++ [m])
def fF (T : Tab) (k : Nat) : Nat → Acc
  | 0 => [(0, [])]
  | i + 1 => match (fF T k i)[i]? with
    | some (s, w) => fRow T s w k (fF T k i)
    | none => fF T k i
theorem fAdd_pre (acc : Acc) (x : Nat) (w : Word) : acc <+: fAdd acc x w := by
  unfold fAdd
  split
  · exact List.prefix_refl _
  · exact List.prefix_append _ _
theorem fRow_pre (T : Tab) (s : Nat) (w : Word) : ∀ (m : Nat) (acc : Acc), acc <+: fRow T s w m acc
  | 0, acc => List.prefix_refl _
  | m + 1, acc => (fRow_pre T s w m acc).trans (fAdd_pre _ _ _)
theorem fF_pre (T : Tab) (k : Nat) (i : Nat) : fF T k i <+: fF T k (i + 1) := by
  rw [fF]
  split
  · exact fRow_pre _ _ _ _ _
  · exact List.prefix_refl _
theorem fF_mono (T : Tab) (k : Nat) {i j : Nat} (h : i ≤ j) : fF T k i <+: fF T k j := by
  induction h with
  | refl => exact List.prefix_refl _
  | step _ ih => exact ih.trans (fF_pre T k _)
theorem pre_get {α : Type} {l m : List α} (h : l <+: m) {i : Nat} {x : α} (e : l[i]? = some x) : m[i]? = some x := by
  obtain ⟨r, rfl⟩ := h
  have hi : i < l.length := (List.getElem?_eq_some_iff.mp e).1
  rw [List.getElem?_append_left hi]
  exact e
/-- what holds of the list at all times -/
structure FOk (T : Tab) (k n : Nat) (acc : Acc) : Prop where
  nd : (acc.map (·.1)).Nodup
  lt : ∀ s w, (s, w) ∈ acc → s < n ∧ Wd k w ∧ T.run 0 w = s ∧ w.length ≤ acc.length
  z : acc[0]? = some (0, [])
theorem nodup_snoc {α : Type} {l : List α} {a : α} (h : l.Nodup) (ha : a ∉ l) : (l ++ [a]).Nodup := by
  refine List.nodup_append.mpr ⟨h, by simp, ?_⟩
  intro x hx y hy
  rw [List.mem_singleton.mp hy]
  exact fun e => ha (e ▸ hx)
theorem FOk.add {T : Tab} {k n : Nat} {acc : Acc} (F : FOk T k n acc) {s m : Nat} {w : Word} (O : T.Ok k n) (hw : Wd k w) (hl : w.length < acc.length) (hs : s < n) (hr : T.run 0 w = s) (hm : m < k) : FOk T k n (fAdd acc (T.st s m) (w ++ [m])) := by
  unfold fAdd
  split
  · exact F
  · rename_i h
    refine ⟨?_, ?_, ?_⟩
    · rw [List.map_append]
      exact nodup_snoc F.nd h
    · intro s' w' hm'
      rcases List.mem_append.mp hm' with q | q
      · obtain ⟨a, b, c, d⟩ := F.lt s' w' q
        exact ⟨a, b, c, by rw [List.length_append]; omega⟩
      · obtain ⟨rfl, rfl⟩ := Prod.mk.inj (List.mem_singleton.mp q)
        refine ⟨O.st_lt hs hm, fun x hx => ?_, ?_, ?_⟩
        · rcases List.mem_append.mp hx with q | q
          · exact hw x q
          · rw [List.mem_singleton.mp q]
            exact hm
        · rw [Tab.run_append, hr]
          rfl
        · rw [List.length_append, List.length_append]
          simp
          omega
    · exact pre_get (List.prefix_append _ _) F.z
theorem FOk.row {T : Tab} {k n : Nat} {acc : Acc} (F : FOk T k n acc) {s : Nat} {w : Word} (O : T.Ok k n) (hw : Wd k w) (hl : w.length < acc.length) (hs : s < n) (hr : T.run 0 w = s) : ∀ m, m ≤ k → FOk T k n (fRow T s w m acc)
  | 0, _ => F
  | m + 1, h => by
    have ih := FOk.row F O hw hl hs hr m (by omega)
    refine ih.add O hw ?_ hs hr (by omega)
    have q := (fRow_pre T s w m acc).length_le
    omega
theorem fF_ok {T : Tab} {k n : Nat} (O : T.Ok k n) : ∀ i, FOk T k n (fF T k i) ∧ ∀ (j s : Nat) (w : Word), (fF T k i)[j]? = some (s, w) → w.length ≤ j
  | 0 => by
    refine ⟨⟨by simp [fF], ?_, rfl⟩, ?_⟩
    · intro s w h
      have e : (s, w) = (0, []) := by simpa [fF] using h
      obtain ⟨rfl, rfl⟩ := Prod.mk.inj e
      exact ⟨O.n1, fun l h => by simp at h, rfl, by simp⟩
    · intro j s w h
      cases j with
      | zero =>
        have e : (s, w) = (0, []) := by simpa [fF, eq_comm] using h
        obtain ⟨rfl, rfl⟩ := Prod.mk.inj e
        simp
      | succ j => simp [fF] at h
  | i + 1 => by
    obtain ⟨F, hl⟩ := fF_ok O i
    rw [fF]
    split
    · rename_i s w e
      obtain ⟨h1, h2, h3, _⟩ := F.lt s w (List.mem_of_getElem? e)
      have hi : i < (fF T k i).length := (List.getElem?_eq_some_iff.mp e).1
      have hwl := hl i s w e
      refine ⟨F.row O h2 (by omega) h1 h3 k (Nat.le_refl _), ?_⟩
      have key : ∀ m, ∀ (j s' : Nat) (w' : Word), (fRow T s w m (fF T k i))[j]? = some (s', w') → w'.length ≤ j := by
        intro m
        induction m with
        | zero => exact hl
        | succ m ih =>
          intro j s' w' he
          rw [fRow] at he
          unfold fAdd at he
          split at he
          · exact ih j s' w' he
          · by_cases hj : j < (fRow T s w m (fF T k i)).length
            · rw [List.getElem?_append_left hj] at he
              exact ih j s' w' he
            · rw [List.getElem?_append_right (by omega)] at he
              have hz : j - (fRow T s w m (fF T k i)).length = 0 := by
                have := (List.getElem?_eq_some_iff.mp he).1
                simp at this
                omega
              rw [hz] at he
              have e2 : (s', w') = (T.st s m, w ++ [m]) := by simpa [eq_comm] using he
              obtain ⟨_, rfl⟩ := Prod.mk.inj e2
              have q := (fRow_pre T s w m (fF T k i)).length_le
              rw [List.length_append]
              simp
              omega
      exact key k
    · exact ⟨F, hl⟩
theorem nodup_lt_length : ∀ (n : Nat) {l : List Nat}, l.Nodup → (∀ x, x ∈ l → x < n) → l.length ≤ n
  | 0, l, _, h => by
    cases l with
    | nil => simp
    | cons a r => exact absurd (h a List.mem_cons_self) (by omega)
  | n + 1, l, nd, h => by
    have h1 : (l.filter (· ≠ n)).length ≤ n := by
      refine nodup_lt_length n (nd.filter _) fun x hx => ?_
      obtain ⟨a, b⟩ := List.mem_filter.mp hx
      have := h x a
      simp at b
      omega
    have h2 : l.length ≤ (l.filter (· ≠ n)).length + 1 := by
      clear h h1
      induction l with
      | nil => simp
      | cons a r ih =>
        obtain ⟨n1, n2⟩ := List.nodup_cons.mp nd
        by_cases e : a = n
        · subst e
          have z : r.filter (· ≠ a) = r := by
            apply List.filter_eq_self.mpr
            intro x hx
            simp
            exact fun q => n1 (q ▸ hx)
          rw [List.filter_cons]
          simp
          have z' : r.filter (fun x => !decide (x = a)) = r := by simpa using z
          rw [z']
          exact Nat.le_refl _
        · rw [List.filter_cons, if_pos (by simpa using e)]
          have := ih n2
          simp only [List.length_cons]
          omega
    omega
theorem fF_length {T : Tab} {k n : Nat} (O : T.Ok k n) (i : Nat) : (fF T k i).length ≤ n := by
  obtain ⟨F, _⟩ := fF_ok O i
  have h := nodup_lt_length n F.nd fun x hx => by
    obtain ⟨p, hp, rfl⟩ := List.mem_map.mp hx
    exact (F.lt p.1 p.2 hp).1
  rwa [List.length_map] at h
/-- where it comes to its end, it stays -/
theorem fF_stop {T : Tab} {k i : Nat} (h : (fF T k i).length ≤ i) : ∀ j, i ≤ j → fF T k j = fF T k i := by
  intro j hj
  induction hj with
  | refl => rfl
  | step hj ih =>
    rename_i m
    rw [fF, ih, List.getElem?_eq_none (by have : i ≤ m := hj; omega)]
theorem fAdd_mem (acc : Acc) (x : Nat) (w : Word) : x ∈ (fAdd acc x w).map (·.1) := by
  unfold fAdd
  split
  · assumption
  · simp
theorem pre_mem {l m : Acc} (h : l <+: m) {x : Nat} (e : x ∈ l.map (·.1)) : x ∈ m.map (·.1) := by
  obtain ⟨r, rfl⟩ := h
  rw [List.map_append]
  exact List.mem_append_left _ e
theorem fRow_mem (T : Tab) (s : Nat) (w : Word) (acc : Acc) : ∀ m l, l < m → T.st s l ∈ (fRow T s w m acc).map (·.1)
  | 0, l, h => by omega
  | m + 1, l, h => by
    rw [fRow]
    by_cases e : l = m
    · subst e
      exact fAdd_mem _ _ _
    · exact pre_mem (fAdd_pre _ _ _) (fRow_mem T s w acc m l (by omega))
/-- the stands behind the j-th one are there -/
theorem fF_closed {T : Tab} {k : Nat} {i j s : Nat} {w : Word} (h : j < i) (e : (fF T k i)[j]? = some (s, w)) {l : Nat} (hl : l < k) : T.st s l ∈ (fF T k i).map (·.1) := by
  have hj : j < (fF T k j).length ∨ (fF T k j).length ≤ j := by omega
  rcases hj with hj | hj
  · have e2 : (fF T k j)[j]? = some (fF T k j)[j] := List.getElem?_eq_getElem hj
    have e3 := pre_get (fF_mono T k (show j ≤ i by omega)) e2
    rw [e] at e3
    have e4 : (fF T k j)[j]? = some (s, w) := by rw [e2, ← Option.some.inj e3]
    refine pre_mem (fF_mono T k (show j + 1 ≤ i by omega)) ?_
    rw [fF, e4]
    exact fRow_mem T s w _ k l hl
  · rw [fF_stop hj i (by omega), List.getElem?_eq_none hj] at e
    cases e
theorem fF_all {T : Tab} {k n : Nat} (O : T.Ok k n) : ∀ x, x < n → x ∈ (fF T k n).map (·.1) := by
  intro x
  induction x using Nat.strongRecOn with
  | ind x ih =>
    intro hx
    by_cases h0 : x = 0
    · subst h0
      obtain ⟨F, _⟩ := fF_ok O n
      exact List.mem_map.mpr ⟨(0, []), List.mem_of_getElem? F.z, rfl⟩
    · obtain ⟨y, hy, l, hl, e⟩ := O.par x (by omega) hx
      obtain ⟨p, hp, ep⟩ := List.mem_map.mp (ih y hy (by omega))
      obtain ⟨j, hj, ej⟩ := List.getElem_of_mem hp
      have hjn := fF_length O n
      have q := fF_closed (i := n) (j := j) (s := p.1) (w := p.2) (by omega) (by rw [List.getElem?_eq_getElem hj, ej]) hl
      rw [ep, e] at q
      exact q
theorem fF_full {T : Tab} {k n : Nat} (O : T.Ok k n) : (fF T k n).length = n := by
  have h1 := fF_length O n
  have h2 : n ≤ ((fF T k n).map (·.1)).length := by
    have sub := fF_all O
    have : (List.range n).length ≤ ((fF T k n).map (·.1)).length := by
      refine (List.nodup_range.length_le_of_subset ?_)
      intro x hx
      exact sub x (List.mem_range.mp hx)
    rwa [List.length_range] at this
  rw [List.length_map] at h2
  omega
end Own
namespace Own
/-! stands from which a word is come to -/
def Leads (T : Tab) (k s : Nat) : Prop := ∃ w, w ≠ [] ∧ Wd k w ∧ T.acc s w = true
def Useful (T : Tab) (k s : Nat) : Prop := ∃ w, Wd k w ∧ T.acc s w = true
def bit (L : List Bool) (s : Nat) : Bool := L.getD s false
def stepL (T : Tab) (L : List Bool) : List Bool := T.rows.map fun row => row.any fun l => T.fin l || bit L l
def LeB (L M : List Bool) : Prop := ∀ s, bit L s = true → bit M s = true
def cntB : List Bool → Nat
  | [] => 0
  | b :: r => cntB r + (if b then 1 else 0)
theorem cntB_le : ∀ L, cntB L ≤ L.length
  | [] => Nat.le_refl _
  | b :: r => by
    have := cntB_le r
    unfold cntB
    rw [List.length_cons]
    split <;> omega
theorem bit_cons_zero {b : Bool} {r : List Bool} : bit (b :: r) 0 = b := rfl
theorem bit_cons_succ {b : Bool} {r : List Bool} {s : Nat} : bit (b :: r) (s + 1) = bit r s := by
  unfold bit
  simp [List.getD_eq_getElem?_getD]
theorem LeB.cnt : ∀ {L M : List Bool}, LeB L M → L.length = M.length → cntB L ≤ cntB M ∧ (L ≠ M → cntB L < cntB M)
  | [], [], _, _ => ⟨Nat.le_refl _, fun h => absurd rfl h⟩
  | [], _ :: _, _, h => by simp at h
  | _ :: _, [], _, h => by simp at h
  | a :: r, b :: q, hl, h => by
    have h1 : LeB r q := fun s hs => by
      have := hl (s + 1) (by rw [bit_cons_succ]; exact hs)
      rwa [bit_cons_succ] at this
    have h0 : a = true → b = true := fun e => hl 0 e
    obtain ⟨i1, i2⟩ := LeB.cnt h1 (by simpa using h)
    unfold cntB
    cases a <;> cases b
    · exact ⟨by simpa using i1, fun e => by
        have := i2 fun z => e (by rw [z])
        simpa using this⟩
    · exact ⟨by simp; omega, fun _ => by simp; omega⟩
    · exact absurd (h0 rfl) (by simp)
    · exact ⟨by simpa using i1, fun e => by
        have := i2 fun z => e (by rw [z])
        simpa using this⟩
section
variable {T : Tab} {k n : Nat}
theorem stepL_length (O : T.Ok k n) (L : List Bool) : (stepL T L).length = n := by
  unfold stepL
  rw [List.length_map, O.rl]
theorem row_mem (O : T.Ok k n) {s : Nat} (hs : s < n) {x : Nat} : x ∈ T.rows.getD s [] ↔ ∃ l, l < k ∧ T.st s l = x := by
  have h1 : s < T.rows.length := by rw [O.rl]; exact hs
  have e1 : T.rows.getD s [] = T.rows[s] := by rw [List.getD_eq_getElem?_getD, List.getElem?_eq_getElem h1, Option.getD_some]
  have hk : (T.rows.getD s []).length = k := by rw [e1]; exact (O.row _ (List.getElem_mem h1)).1
  constructor
  · intro h
    obtain ⟨l, hl, e⟩ := List.getElem_of_mem h
    refine ⟨l, by omega, ?_⟩
    unfold Tab.st
    rw [List.getD_eq_getElem?_getD (l := T.rows.getD s []), List.getElem?_eq_getElem hl]
    exact e
  · rintro ⟨l, hl, e⟩
    have hl2 : l < (T.rows.getD s []).length := by omega
    rw [← e]
    unfold Tab.st
    rw [List.getD_eq_getElem?_getD (l := T.rows.getD s []), List.getElem?_eq_getElem hl2]
    exact List.getElem_mem hl2
theorem bit_step (O : T.Ok k n) (L : List Bool) {s : Nat} (hs : s < n) : bit (stepL T L) s = true ↔ ∃ l, l < k ∧ (T.fin (T.st s l) = true ∨ bit L (T.st s l) = true) := by
  have h1 : s < T.rows.length := by rw [O.rl]; exact hs
  have e1 : T.rows.getD s [] = T.rows[s] := by rw [List.getD_eq_getElem?_getD, List.getElem?_eq_getElem h1, Option.getD_some]
  have e2 : bit (stepL T L) s = (T.rows.getD s []).any fun l => T.fin l || bit L l := by
    unfold bit stepL
    rw [List.getD_eq_getElem?_getD, List.getElem?_map, List.getElem?_eq_getElem h1, e1]
    rfl
  rw [e2, List.any_eq_true]
  constructor
  · rintro ⟨x, hx, h⟩
    obtain ⟨l, hl, rfl⟩ := (row_mem O hs).mp hx
    exact ⟨l, hl, by simpa using h⟩
  · rintro ⟨l, hl, h⟩
    exact ⟨_, (row_mem O hs).mpr ⟨l, hl, rfl⟩, by simpa using h⟩
theorem step_mono (O : T.Ok k n) {L M : List Bool} (h : LeB L M) : LeB (stepL T L) (stepL T M) := by
  intro s hs
  by_cases hn : s < n
  · obtain ⟨l, hl, q⟩ := (bit_step O L hn).mp hs
    refine (bit_step O M hn).mpr ⟨l, hl, ?_⟩
    rcases q with q | q
    · exact .inl q
    · exact .inr (h _ q)
  · unfold bit at hs
    rw [List.getD_eq_getElem?_getD, List.getElem?_eq_none (by rw [stepL_length O]; omega)] at hs
    cases hs
theorem step_sound (O : T.Ok k n) {L : List Bool} (h : ∀ s, s < n → bit L s = true → Leads T k s) {s : Nat} (hs : s < n) (e : bit (stepL T L) s = true) : Leads T k s := by
  obtain ⟨l, hl, q⟩ := (bit_step O L hs).mp e
  rcases q with q | q
  · exact ⟨[l], by simp, fun x hx => by rw [List.mem_singleton.mp hx]; exact hl, q⟩
  · obtain ⟨w, _, hw, ha⟩ := h _ (O.st_lt hs hl) q
    refine ⟨l :: w, by simp, fun x hx => ?_, ha⟩
    rcases List.mem_cons.mp hx with rfl | hx
    · exact hl
    · exact hw x hx
theorem step_fix (O : T.Ok k n) {L : List Bool} (h : L = stepL T L) : ∀ (w : Word) (s : Nat), s < n → w ≠ [] → Wd k w → T.acc s w = true → bit L s = true
  | [], _, _, h, _, _ => absurd rfl h
  | l :: w, s, hs, _, hw, ha => by
    have hl : l < k := hw l List.mem_cons_self
    rw [h]
    refine (bit_step O L hs).mpr ⟨l, hl, ?_⟩
    cases w with
    | nil => exact .inl ha
    | cons m v => exact .inr (step_fix O h (m :: v) _ (O.st_lt hs hl) (by simp) (fun x hx => hw x (List.mem_cons_of_mem _ hx)) ha)
theorem useful_iff (s : Nat) : Useful T k s ↔ T.fin s = true ∨ Leads T k s := by
  constructor
  · rintro ⟨w, hw, ha⟩
    cases w with
    | nil => exact .inl ha
    | cons l v => exact .inr ⟨l :: v, by simp, hw, ha⟩
  · rintro (h | ⟨w, _, hw, ha⟩)
    · exact ⟨[], fun l h => by simp at h, h⟩
    · exact ⟨w, hw, ha⟩
end
end Own
namespace Own
/-! how many texts lead where -/
abbrev Cs := List (Nat × Nat)
def keys (D : Cs) : List Nat := D.map (·.1)
def val : Cs → Nat → Nat
  | [], _ => 0
  | (s, c) :: r, t => if s = t then c else val r t
def putD : Cs → Nat → Nat → Cs
  | [], t, v => [(t, v)]
  | (s, c) :: r, t, v => if s = t then (s, v) :: r else (s, c) :: putD r t v
theorem val_none {D : Cs} {t : Nat} (h : t ∉ keys D) : val D t = 0 := by
  induction D with
  | nil => rfl
  | cons p r ih =>
    have h1 : p.1 ≠ t := fun e => h (by unfold keys; rw [List.map_cons, e]; exact List.mem_cons_self)
    have h2 : t ∉ keys r := fun e => h (by unfold keys; rw [List.map_cons]; exact List.mem_cons_of_mem _ e)
    obtain ⟨s, c⟩ := p
    rw [val, if_neg h1]
    exact ih h2
theorem val_of_mem {D : Cs} (nd : (keys D).Nodup) {s c : Nat} (h : (s, c) ∈ D) : val D s = c := by
  induction D with
  | nil => simp at h
  | cons p r ih =>
    obtain ⟨a, b⟩ := p
    unfold keys at nd
    rw [List.map_cons] at nd
    obtain ⟨n1, n2⟩ := List.nodup_cons.mp nd
    rw [val]
    rcases List.mem_cons.mp h with e | h
    · obtain ⟨rfl, rfl⟩ := Prod.mk.inj e
      rw [if_pos rfl]
    · rw [if_neg (fun e => n1 (by rw [e]; exact List.mem_map.mpr ⟨_, h, rfl⟩))]
      exact ih n2 h
theorem val_put (D : Cs) (t v x : Nat) : val (putD D t v) x = if t = x then v else val D x := by
  induction D with
  | nil => simp [putD, val]
  | cons p r ih =>
    obtain ⟨a, b⟩ := p
    rw [putD]
    by_cases e : a = t
    · subst e
      rw [if_pos rfl, val, val]
      by_cases e2 : a = x <;> simp [e2]
    · rw [if_neg e, val, val, ih]
      by_cases e2 : a = x
      · subst e2
        rw [if_pos rfl, if_neg (fun z => e z.symm), if_pos rfl]
      · rw [if_neg e2, if_neg e2]
theorem keys_put (D : Cs) (t v : Nat) : keys (putD D t v) = if t ∈ keys D then keys D else keys D ++ [t] := by
  induction D with
  | nil => simp [putD, keys]
  | cons p r ih =>
    obtain ⟨a, b⟩ := p
    rw [putD]
    by_cases e : a = t
    · subst e
      simp [keys]
    · rw [if_neg e]
      have ih' : List.map (·.1) (putD r t v) = if t ∈ keys r then keys r else keys r ++ [t] := ih
      unfold keys at ih' ⊢
      rw [List.map_cons, ih', List.map_cons]
      by_cases h : t ∈ List.map (·.1) r
      · rw [if_pos h, if_pos (List.mem_cons_of_mem _ h)]
      · rw [if_neg h, if_neg (fun z => (List.mem_cons.mp z).elim (fun q => e q.symm) h)]
        rfl
theorem nd_put {D : Cs} (h : (keys D).Nodup) (t v : Nat) : (keys (putD D t v)).Nodup := by
  rw [keys_put]
  split
  · exact h
  · rename_i h2
    exact nodup_snoc h h2
theorem mem_put {D : Cs} {t v x : Nat} (h : x ∈ keys (putD D t v)) : x ∈ keys D ∨ x = t := by
  rw [keys_put] at h
  split at h
  · exact .inl h
  · rcases List.mem_append.mp h with h | h
    · exact .inl h
    · exact .inr (List.mem_singleton.mp h)
theorem put_mem (D : Cs) (t v : Nat) : t ∈ keys (putD D t v) := by
  rw [keys_put]
  split
  · assumption
  · exact List.mem_append_right _ (List.mem_singleton.mpr rfl)
/-! ### lists of texts, told by the stands to which they lead -/
def cX (T : Tab) (X : List Word) (s : Nat) : Nat := (X.filter fun w => decide (T.run 0 w = s)).length
def ext (k : Nat) (X : List Word) : List Word := X.flatMap fun w => (List.range k).map fun l => w ++ [l]
theorem ext_texts (k m : Nat) : ext k (texts k m) = texts k (m + 1) := (texts_snoc k m).symm
/-- how many letters below m lead from s to t -/
def deg (T : Tab) (s t : Nat) : Nat → Nat
  | 0 => 0
  | m + 1 => deg T s t m + (if T.st s m = t then 1 else 0)
structure Lev (T : Tab) (k n : Nat) (U : Nat → Bool) (X : List Word) (D : Cs) : Prop where
  nd : (keys D).Nodup
  ok : ∀ s, s ∈ keys D → s < n ∧ U s = true ∧ 0 < val D s
  vl : ∀ s, s < n → U s = true → val D s = cX T X s
def sumD (D : Cs) (f : Nat → Nat) : Nat := (D.map fun p => p.2 * f p.1).sum
theorem cX_cons (T : Tab) (w : Word) (X : List Word) (s : Nat) : cX T (w :: X) s = (if T.run 0 w = s then 1 else 0) + cX T X s := by
  unfold cX
  rw [List.filter_cons]
  by_cases e : T.run 0 w = s <;> simp [e, Nat.add_comm]
theorem cX_append (T : Tab) (X Y : List Word) (s : Nat) : cX T (X ++ Y) s = cX T X s + cX T Y s := by
  unfold cX
  rw [List.filter_append, List.length_append]
theorem cX_map (T : Tab) (w : Word) (t : Nat) : ∀ m, cX T ((List.range m).map fun l => w ++ [l]) t = deg T (T.run 0 w) t m
  | 0 => rfl
  | m + 1 => by
    rw [List.range_succ, List.map_append, cX_append, cX_map T w t m, deg]
    congr 1
    show cX T [w ++ [m]] t = _
    rw [cX_cons, Tab.run_append]
    rfl
/-- the sum over all stands that are told -/
def sumS (S : List Nat) (f : Nat → Nat) : Nat := (S.map f).sum
theorem sumS_add (S : List Nat) (f g : Nat → Nat) : sumS S (fun s => f s + g s) = sumS S f + sumS S g := by
  unfold sumS
  induction S with
  | nil => rfl
  | cons a r ih =>
    simp only [List.map_cons, List.sum_cons, ih]
    omega
theorem sumS_one {S : List Nat} (nd : S.Nodup) {a : Nat} (g : Nat → Nat) : sumS S (fun s => (if a = s then 1 else 0) * g s) = if a ∈ S then g a else 0 := by
  unfold sumS
  induction S with
  | nil => rfl
  | cons b r ih =>
    obtain ⟨n1, n2⟩ := List.nodup_cons.mp nd
    rw [List.map_cons, List.sum_cons, ih n2]
    by_cases e : a = b
    · subst e
      rw [if_pos rfl, if_neg n1, if_pos List.mem_cons_self]
      omega
    · rw [if_neg e]
      by_cases h : a ∈ r
      · rw [if_pos h, if_pos (List.mem_cons_of_mem _ h)]
        omega
      · rw [if_neg h, if_neg (fun z => (List.mem_cons.mp z).elim e h)]
        omega
/-- texts are told apart by the stands to which they lead -/
theorem sumS_cX (T : Tab) {S : List Nat} (nd : S.Nodup) (g : Nat → Nat) : ∀ X : List Word, (∀ w, w ∈ X → g (T.run 0 w) ≠ 0 → T.run 0 w ∈ S) → sumS S (fun s => cX T X s * g s) = (X.map fun w => g (T.run 0 w)).sum
  | [], _ => by
    unfold sumS cX
    induction S with
    | nil => rfl
    | cons a r ih => simpa using ih (List.nodup_cons.mp nd).2
  | w :: X, h => by
    have ih := sumS_cX T nd g X fun v hv => h v (List.mem_cons_of_mem _ hv)
    have e : (fun s => cX T (w :: X) s * g s) = fun s => (if T.run 0 w = s then 1 else 0) * g s + cX T X s * g s := by
      funext s
      rw [cX_cons, Nat.add_mul]
    rw [e, sumS_add, ih, sumS_one nd, List.map_cons, List.sum_cons]
    congr 1
    by_cases h0 : g (T.run 0 w) = 0
    · rw [h0]
      split <;> rfl
    · rw [if_pos (h w List.mem_cons_self h0)]
theorem sumD_keys {D : Cs} (nd : (keys D).Nodup) (f : Nat → Nat) : sumD D f = sumS (keys D) fun s => val D s * f s := by
  unfold sumD sumS
  have e : D.map (fun p => p.2 * f p.1) = (keys D).map fun s => val D s * f s := by
    unfold keys
    rw [List.map_map]
    refine List.map_congr_left fun p hp => ?_
    show p.2 * f p.1 = val D p.1 * f p.1
    rw [val_of_mem nd (show (p.1, p.2) ∈ D from hp)]
  rw [e]
theorem sumS_congr {S : List Nat} {f g : Nat → Nat} (h : ∀ s, s ∈ S → f s = g s) : sumS S f = sumS S g := by
  unfold sumS
  rw [List.map_congr_left h]
section
variable {T : Tab} {k n : Nat} {U : Nat → Bool} {X : List Word} {D : Cs}
theorem Lev.sum (V : Lev T k n U X D) (f : Nat → Nat) (hX : ∀ w, w ∈ X → T.run 0 w < n) (hf : ∀ s, s < n → f s ≠ 0 → U s = true) : sumD D f = (X.map fun w => f (T.run 0 w)).sum := by
  rw [sumD_keys V.nd, ← sumS_cX T V.nd f X]
  · exact sumS_congr fun s hs => by
      obtain ⟨h1, h2, _⟩ := V.ok s hs
      rw [V.vl s h1 h2]
  · intro w hw hz
    have h1 := hX w hw
    have h2 := hf _ h1 hz
    have h3 := V.vl _ h1 h2
    refine Classical.byContradiction fun hn => ?_
    rw [val_none hn] at h3
    have h4 : w ∈ X.filter fun v => decide (T.run 0 v = T.run 0 w) := List.mem_filter.mpr ⟨hw, by simp⟩
    unfold cX at h3
    have := List.length_pos_of_mem h4
    omega
theorem sum_ite (X : List Word) (p : Word → Bool) : (X.map fun w => if p w = true then 1 else 0).sum = (X.filter p).length := by
  induction X with
  | nil => rfl
  | cons a r ih =>
    rw [List.map_cons, List.sum_cons, ih, List.filter_cons]
    cases p a <;> simp [Nat.add_comm]
/-- how many of the texts are words -/
theorem Lev.words (V : Lev T k n U X D) (hX : ∀ w, w ∈ X → T.run 0 w < n) (hU : ∀ s, s < n → T.fin s = true → U s = true) : sumD D (fun s => if T.fin s = true then 1 else 0) = (X.filter (T.acc 0)).length := by
  rw [V.sum _ hX fun s hs h => hU s hs (by by_cases e : T.fin s = true; exact e; simp [e] at h)]
  exact sum_ite X (T.acc 0)
theorem cX_ext (t : Nat) (X : List Word) : cX T (ext k X) t = (X.map fun w => deg T (T.run 0 w) t k).sum := by
  unfold ext
  induction X with
  | nil => rfl
  | cons a r ih => rw [List.flatMap_cons, cX_append, cX_map, ih, List.map_cons, List.sum_cons]
theorem deg_pos {s t : Nat} : ∀ {m : Nat}, deg T s t m ≠ 0 → ∃ l, l < m ∧ T.st s l = t
  | 0, h => absurd rfl h
  | m + 1, h => by
    rw [deg] at h
    by_cases e : T.st s m = t
    · exact ⟨m, by omega, e⟩
    · rw [if_neg e] at h
      obtain ⟨l, hl, q⟩ := deg_pos (m := m) (by omega)
      exact ⟨l, by omega, q⟩
/-- one letter more -/
theorem Lev.next (V : Lev T k n U X D) (O : T.Ok k n) (hX : ∀ w, w ∈ X → T.run 0 w < n) (hU : ∀ s l, s < n → l < k → U (T.st s l) = true → U s = true) {t : Nat} (ht : U t = true) : sumD D (fun s => deg T s t k) = cX T (ext k X) t := by
  rw [cX_ext, V.sum _ hX]
  intro s hs h
  obtain ⟨l, hl, e⟩ := deg_pos h
  exact hU s l hs hl (by rw [e]; exact ht)
theorem ext_run (O : T.Ok k n) (hX : ∀ w, w ∈ X → T.run 0 w < n) : ∀ w, w ∈ ext k X → T.run 0 w < n := by
  intro w hw
  obtain ⟨v, hv, h⟩ := List.mem_flatMap.mp hw
  obtain ⟨l, hl, rfl⟩ := List.mem_map.mp h
  rw [Tab.run_append]
  exact O.st_lt (hX v hv) (List.mem_range.mp hl)
theorem Lev.empty : Lev T k n U [] [] := ⟨List.nodup_nil, fun s h => by simp [keys] at h, fun s _ _ => rfl⟩
theorem Lev.first (O : T.Ok k n) (h : U 0 = true) : Lev T k n U [[]] [(0, 1)] := by
  refine ⟨by simp [keys], fun s hs => ?_, fun s hs _ => ?_⟩
  · have e : s = 0 := by simpa [keys] using hs
    subst e
    exact ⟨O.n1, h, by simp [val]⟩
  · unfold val cX Tab.run
    by_cases e : 0 = s <;> simp [e, val]
theorem Lev.first0 (h : U 0 = false) : Lev T k n U [[]] [] := by
  refine ⟨List.nodup_nil, fun s hs => by simp [keys] at hs, fun s hs hu => ?_⟩
  unfold cX Tab.run
  by_cases e : 0 = s
  · rw [← e, h] at hu
    cases hu
  · simp [e, val]
end
end Own
namespace Own
/-- there is a word with at least m letters -/
def Alive (T : Tab) (k m : Nat) : Prop := ∃ w, Wd k w ∧ w.length = m ∧ Useful T k (T.run 0 w)
theorem Alive.pred {T : Tab} {k m : Nat} (h : Alive T k (m + 1)) : Alive T k m := by
  obtain ⟨w, hw, hl, u, hu, ha⟩ := h
  refine ⟨w.take m, fun x hx => hw x (List.mem_of_mem_take hx), by rw [List.length_take]; omega, w.drop m ++ u, fun x hx => ?_, ?_⟩
  · rcases List.mem_append.mp hx with h | h
    · exact hw x (List.mem_of_mem_drop h)
    · exact hu x h
  · unfold Tab.acc
    rw [← Tab.run_append, ← List.append_assoc, List.take_append_drop, Tab.run_append]
    exact ha
theorem Alive.le {T : Tab} {k m j : Nat} (h : Alive T k m) (hj : j ≤ m) : Alive T k j := by
  induction hj with
  | refl => exact h
  | step _ ih => exact ih h.pred
theorem alive_of_word {T : Tab} {k m : Nat} {w : Word} (hw : Wd k w) (ha : T.acc 0 w = true) (hm : m ≤ w.length) : Alive T k m := by
  refine ⟨w.take m, fun x hx => hw x (List.mem_of_mem_take hx), by rw [List.length_take]; omega, w.drop m, fun x hx => hw x (List.mem_of_mem_drop hx), ?_⟩
  unfold Tab.acc
  rw [← Tab.run_append, List.take_append_drop]
  exact ha
theorem not_alive_W {T : Tab} {k m j : Nat} (h : ¬ Alive T k m) (hj : m ≤ j) : T.W k 0 j = [] := by
  apply List.eq_nil_iff_forall_not_mem.mpr
  intro w hw
  obtain ⟨h1, h2, h3⟩ := mem_W.mp hw
  exact h (alive_of_word h2 h3 (by omega))
section
variable {T : Tab} {k n : Nat} {U : Nat → Bool} {D : Cs}
theorem texts_run (O : T.Ok k n) {m : Nat} : ∀ w, w ∈ texts k m → T.run 0 w < n := fun w hw => O.run_lt O.n1 (mem_texts.mp hw).2
theorem lev_alive (O : T.Ok k n) (hU : ∀ s, s < n → (U s = true ↔ Useful T k s)) {m : Nat} (V : Lev T k n U (texts k m) D) : D = [] ↔ ¬ Alive T k m := by
  constructor
  · rintro rfl ⟨w, hw, hl, hu⟩
    have hs := O.run_lt O.n1 hw
    have h := V.vl _ hs ((hU _ hs).mpr hu)
    have h4 : w ∈ (texts k m).filter fun v => decide (T.run 0 v = T.run 0 w) := List.mem_filter.mpr ⟨mem_texts.mpr ⟨hl, hw⟩, by simp⟩
    unfold cX at h
    have := List.length_pos_of_mem h4
    rw [← h] at this
    exact absurd this (by simp [val])
  · intro h
    cases D with
    | nil => rfl
    | cons p r =>
      exfalso
      obtain ⟨h1, h2, h3⟩ := V.ok p.1 (by unfold keys; rw [List.map_cons]; exact List.mem_cons_self)
      rw [V.vl _ h1 h2] at h3
      obtain ⟨w, hw⟩ := List.exists_mem_of_length_pos h3
      obtain ⟨a, b⟩ := List.mem_filter.mp hw
      obtain ⟨c, d⟩ := mem_texts.mp a
      have e : T.run 0 w = p.1 := by simpa using b
      exact h ⟨w, d, c, by rw [e]; exact (hU _ h1).mp h2⟩
/-- how many words there are below a length -/
def sumW (T : Tab) (k : Nat) : Nat → Nat
  | 0 => 0
  | m + 1 => sumW T k m + (T.W k 0 m).length
theorem WB_length (T : Tab) (k : Nat) : ∀ m, (T.WB k m).length = sumW T k m
  | 0 => rfl
  | m + 1 => by rw [Tab.WB, List.length_append, WB_length T k m, sumW]
end
end Own
namespace Own
/-- the texts of i letters that are before the first i letters of u -/
def Zs (k : Nat) (u : Word) : Nat → List Word
  | 0 => []
  | i + 1 => ext k (Zs k u i) ++ (List.range (u.getD i 0)).map fun l => u.take i ++ [l]
def cntP (X : List Word) (p : Word → Bool) : Nat := (X.filter p).length
theorem cntP_append (X Y : List Word) (p : Word → Bool) : cntP (X ++ Y) p = cntP X p + cntP Y p := by
  unfold cntP
  rw [List.filter_append, List.length_append]
theorem cntP_ext (k : Nat) (X : List Word) (p : Word → Bool) : cntP (ext k X) p = (X.map fun w => cntP ((List.range k).map fun l => w ++ [l]) p).sum := by
  unfold ext
  induction X with
  | nil => rfl
  | cons a r ih => rw [List.flatMap_cons, cntP_append, ih, List.map_cons, List.sum_cons]
theorem lex_snoc : ∀ {v u : Word} {l a : Nat}, v.length = u.length → (lexLt (v ++ [l]) (u ++ [a]) ↔ lexLt v u ∨ (v = u ∧ l < a))
  | [], [], l, a, _ => by simp [lexLt]
  | [], _ :: _, _, _, h => by simp at h
  | _ :: _, [], _, _, h => by simp at h
  | x :: v, y :: u, l, a, h => by
    have ih := lex_snoc (v := v) (u := u) (l := l) (a := a) (by simpa using h)
    show (x < y ∨ x = y ∧ lexLt (v ++ [l]) (u ++ [a])) ↔ (x < y ∨ x = y ∧ lexLt v u) ∨ (x :: v = y :: u ∧ l < a)
    rw [ih]
    constructor
    · rintro (h | ⟨h1, h | ⟨h2, h3⟩⟩)
      · exact .inl (.inl h)
      · exact .inl (.inr ⟨h1, h⟩)
      · exact .inr ⟨by rw [h1, h2], h3⟩
    · rintro ((h | ⟨h1, h⟩) | ⟨h1, h3⟩)
      · exact .inl h
      · exact .inr ⟨h1, .inl h⟩
      · obtain ⟨e1, e2⟩ := List.cons.inj h1
        exact .inr ⟨e1, .inr ⟨e2, h3⟩⟩
theorem cnt_lt (p : Nat → Bool) (a : Nat) : ∀ k, a ≤ k → ((List.range k).filter fun l => p l && decide (l < a)).length = ((List.range a).filter p).length
  | 0, h => by
    have e : a = 0 := by omega
    subst e
    rfl
  | k + 1, h => by
    by_cases e : a = k + 1
    · subst e
      congr 1
      apply List.filter_congr
      intro x hx
      simp [List.mem_range.mp hx]
    · rw [List.range_succ, List.filter_append, List.length_append, cnt_lt p a k (by omega)]
      simp
      omega
theorem sum_if_one {X : List Word} (nd : X.Nodup) {u : Word} (hu : u ∈ X) (g : Word → Nat) (c : Nat) (q : Word → Bool) (hq : q u = false) : (X.map fun w => if w = u then c else if q w = true then g w else 0).sum = c + ((X.filter q).map g).sum := by
  induction X with
  | nil => simp at hu
  | cons a r ih =>
    obtain ⟨n1, n2⟩ := List.nodup_cons.mp nd
    rw [List.map_cons, List.sum_cons]
    by_cases e : a = u
    · subst e
      have z : (r.map fun w => if w = a then c else if q w = true then g w else 0) = r.map fun w => if q w = true then g w else 0 := by
        refine List.map_congr_left fun w hw => ?_
        have hne : w ≠ a := fun z => n1 (by rw [← z]; exact hw)
        rw [if_neg hne]
      rw [if_pos rfl, z, List.filter_cons, if_neg (by rw [hq]; simp)]
      congr 1
      clear ih n1 n2 nd hu z
      induction r with
      | nil => rfl
      | cons b r ih =>
        rw [List.map_cons, List.sum_cons, ih, List.filter_cons]
        by_cases h : q b = true
        · rw [if_pos h, if_pos h, List.map_cons, List.sum_cons]
        · rw [if_neg h, if_neg h, Nat.zero_add]
    · have hur : u ∈ r := (List.mem_cons.mp hu).resolve_left fun z => e z.symm
      rw [if_neg e, ih n2 hur, List.filter_cons]
      by_cases h : q a = true
      · rw [if_pos h, if_pos h, List.map_cons, List.sum_cons]
        omega
      · rw [if_neg h, if_neg h, Nat.zero_add]
theorem texts_nodup (k m : Nat) : (texts k m).Nodup := by
  refine (texts_sorted k m).imp fun {a b} h e => ?_
  subst e
  exact lex_irrefl _ h
theorem cnt_ext_map (w : Word) (p : Word → Bool) (m : Nat) : cntP ((List.range m).map fun l => w ++ [l]) p = ((List.range m).filter fun l => p (w ++ [l])).length := by
  unfold cntP
  rw [List.filter_map, List.length_map]
  rfl
/-- as many of them as are before u have a property -/
theorem Zs_cnt {k : Nat} {u : Word} (hu : Wd k u) (p : Word → Bool) : ∀ i, i ≤ u.length → ∀ p : Word → Bool, cntP (Zs k u i) p = cntP (texts k i) fun v => p v && lexLtB v (u.take i)
  | 0, _, p => by
    unfold Zs texts cntP
    simp [lexLtB]
  | i + 1, hi, p => by
    have hi' : i < u.length := by omega
    have ea : u.take (i + 1) = u.take i ++ [u.getD i 0] := by
      rw [List.take_add_one, List.getD_eq_getElem?_getD, List.getElem?_eq_getElem hi']
      rfl
    have hak : u.getD i 0 < k := by
      rw [List.getD_eq_getElem?_getD, List.getElem?_eq_getElem hi', Option.getD_some]
      exact hu _ (List.getElem_mem hi')
    have htk : (u.take i).length = i := by rw [List.length_take]; omega
    have hmem : u.take i ∈ texts k i := mem_texts.mpr ⟨htk, fun x hx => hu x (List.mem_of_mem_take hx)⟩
    rw [Zs, cntP_append, cntP_ext, cnt_ext_map, ← ext_texts, cntP_ext]
    have e1 : (texts k i).map (fun w => cntP ((List.range k).map fun l => w ++ [l]) fun v => p v && lexLtB v (u.take (i + 1))) =
        (texts k i).map fun w => if w = u.take i then ((List.range (u.getD i 0)).filter fun l => p (u.take i ++ [l])).length else if lexLtB w (u.take i) = true then cntP ((List.range k).map fun l => w ++ [l]) p else 0 := by
      refine List.map_congr_left fun w hw => ?_
      have hwl : w.length = (u.take i).length := by rw [(mem_texts.mp hw).1, htk]
      rw [cnt_ext_map, ea]
      by_cases h1 : w = u.take i
      · rw [if_pos h1, h1, ← cnt_lt (fun l => p (u.take i ++ [l])) (u.getD i 0) k (by omega)]
        congr 1
        apply List.filter_congr
        intro l _
        congr 1
        rw [Bool.eq_iff_iff, lexLtB_iff, lex_snoc rfl]
        simp [lex_irrefl]
      · rw [if_neg h1]
        by_cases h2 : lexLtB w (u.take i) = true
        · rw [if_pos h2, cnt_ext_map]
          congr 1
          apply List.filter_congr
          intro l _
          have : lexLtB (w ++ [l]) (u.take i ++ [u.getD i 0]) = true := (lexLtB_iff _ _).mpr ((lex_snoc hwl).mpr (.inl ((lexLtB_iff _ _).mp h2)))
          rw [this, Bool.and_true]
        · rw [if_neg h2]
          apply List.length_eq_zero_iff.mpr
          apply List.filter_eq_nil_iff.mpr
          intro l _ hc
          rw [Bool.and_eq_true, lexLtB_iff, lex_snoc hwl] at hc
          rcases hc.2 with hc | ⟨hc, _⟩
          · exact h2 ((lexLtB_iff _ _).mpr hc)
          · exact h1 hc
    rw [e1, sum_if_one (texts_nodup k i) hmem _ _ _ (by
      cases h : lexLtB (u.take i) (u.take i) with
      | false => rfl
      | true => exact absurd ((lexLtB_iff _ _).mp h) (lex_irrefl _))]
    rw [Nat.add_comm]
    congr 1
    -- the sum over the lesser ones
    have key : ∀ X : List Word, (X.map fun w => cntP ((List.range k).map fun l => w ++ [l]) p).sum = cntP (ext k X) p := fun X => (cntP_ext k X p).symm
    rw [key, key]
    have gen : ∀ (X Y : List Word), (∀ q : Word → Bool, cntP X q = cntP Y q) → cntP (ext k X) p = cntP (ext k Y) p := by
      intro X Y h
      rw [cntP_ext, cntP_ext]
      have bnd : ∀ w, cntP ((List.range k).map fun l => w ++ [l]) p ≤ k := by
        intro w
        rw [cnt_ext_map]
        have := List.length_filter_le (fun l => p (w ++ [l])) (List.range k)
        rwa [List.length_range] at this
      have tel : ∀ (Z : List Word) (g : Word → Nat), (∀ w, g w ≤ k) → (Z.map g).sum = ((List.range k).map fun c => cntP Z fun w => decide (c < g w)).sum := by
        intro Z g hg
        induction Z with
        | nil =>
          show 0 = ((List.range k).map fun _ => 0).sum
          rw [List.map_const', List.sum_replicate_nat, Nat.mul_zero]
        | cons a r ih =>
          rw [List.map_cons, List.sum_cons, ih]
          have e3 : ((List.range k).map fun c => cntP (a :: r) fun w => decide (c < g w)) = (List.range k).map fun c => (if c < g a then 1 else 0) + cntP r fun w => decide (c < g w) := by
            refine List.map_congr_left fun c _ => ?_
            unfold cntP
            rw [List.filter_cons]
            by_cases h : c < g a <;> simp [h, Nat.add_comm]
          rw [e3]
          have e4 : ∀ (f h : Nat → Nat) (m : Nat), ((List.range m).map fun c => f c + h c).sum = ((List.range m).map f).sum + ((List.range m).map h).sum := by
            intro f h m
            induction m with
            | zero => rfl
            | succ m ih =>
              rw [List.range_succ, List.map_append, List.map_append, List.map_append, List.sum_append, List.sum_append, List.sum_append, ih]
              simp
              omega
          rw [e4]
          congr 1
          have e5 : ∀ (m b : Nat), ((List.range m).map fun c => if c < b then 1 else 0).sum = min b m := by
            intro m b
            induction m with
            | zero => simp
            | succ m ih =>
              rw [List.range_succ, List.map_append, List.sum_append, ih]
              simp
              split <;> omega
          rw [e5, Nat.min_eq_left (hg a)]
      rw [tel X _ bnd, tel Y _ bnd]
      congr 1
      exact List.map_congr_left fun c _ => h _
    refine gen _ _ fun q => ?_
    rw [Zs_cnt hu p i (by omega) q]
    unfold cntP
    rw [List.filter_filter]
/-- the index of a word -/
def rank (T : Tab) (k : Nat) (u : Word) : Nat := sumW T k u.length + ((T.W k 0 u.length).filter (lexLtB · u)).length
theorem Zs_rank {T : Tab} {k : Nat} {u : Word} (hu : Wd k u) : ((Zs k u u.length).filter (T.acc 0)).length = ((T.W k 0 u.length).filter (lexLtB · u)).length := by
  have h := Zs_cnt hu (T.acc 0) u.length (Nat.le_refl _) (T.acc 0)
  unfold cntP at h
  rw [h, List.take_length]
  unfold Tab.W
  rw [List.filter_filter]
  congr 1
  apply List.filter_congr
  intro x _
  rw [Bool.and_comm]
theorem rank_of {T : Tab} {k N lft : Nat} {u : Word} (h : (T.W k 0 N)[lft]? = some u) : rank T k u = sumW T k N + lft := by
  have hm := mem_W.mp (List.mem_of_getElem? h)
  unfold rank
  rw [hm.1, place_of (W_sorted T k 0 N) h]
end Own
namespace Own
open PySem PySem.Spec PyProof.Rows L2
/-! texts of letters -/
/-- the text of a word -/
def tx (w : Word) : Str := ⟨(w.map (· + 97)).toArray⟩
def sg (l : Nat) : Str := ⟨#[l + 97]⟩
theorem abc_eq : ("abc" : Str) = tx [0, 1, 2] := by decide +kernel
theorem empty_eq : ("" : Str) = tx [] := by decide +kernel
theorem sg_eq (l : Nat) : sg l = tx [l] := rfl
theorem tx_cps (w : Word) : (tx w).cps.toList = w.map (· + 97) := rfl
theorem tx_length (w : Word) : (tx w).length = w.length := by
  show (w.map (· + 97)).toArray.size = w.length
  simp
theorem tx_size (w : Word) : (tx w).cps.size = w.length := tx_length w
theorem tx_at (w : Word) (i : Nat) : (tx w).cps[i]? = w[i]?.map (· + 97) := by
  show (w.map (· + 97)).toArray[i]? = _
  simp
theorem tx_inj {u v : Word} (h : tx u = tx v) : u = v := by
  have q : u.map (· + 97) = v.map (· + 97) := by rw [← tx_cps u, ← tx_cps v, h]
  exact (List.map_inj_right (fun a b e => by simpa using e)).mp q
theorem tx_append (u v : Word) : tx u ++ tx v = tx (u ++ v) := by
  show (⟨(u.map (· + 97)).toArray ++ (v.map (· + 97)).toArray⟩ : Str) = ⟨((u ++ v).map (· + 97)).toArray⟩
  simp
theorem cutS_tx (w : Word) (lo hi : Option Int) : cutS (tx w) lo hi = tx ((w.drop (HT.sIx w.length 0 lo)).take (HT.sIx w.length w.length hi - HT.sIx w.length 0 lo)) := by
  unfold cutS
  rw [tx_length, tx_cps]
  show _ = (⟨(List.map _ _).toArray⟩ : Str)
  simp [List.map_take, List.map_drop]
theorem cut_abc (k : Nat) (h : k ≤ 3) : cutS (tx [0, 1, 2]) none (some (k : Int)) = tx (List.range k) := by
  rw [cutS_tx, HT.sIx_none, HT.sIx_nat]
  match k, h with
  | 0, _ => rfl
  | 1, _ => rfl
  | 2, _ => rfl
  | 3, _ => rfl
theorem takeWhile_all {l : List Nat} {p : Nat → Bool} (h : ∀ x, x ∈ l → p x = true) : l.takeWhile p = l := by
  induction l with
  | nil => rfl
  | cons a r ih =>
    rw [List.takeWhile_cons, if_pos (h a List.mem_cons_self), ih fun x hx => h x (List.mem_cons_of_mem _ hx)]
theorem strip_all {w : Word} {k : Nat} (h : Wd k w) : Txt.stripChars (tx w) (tx (List.range k)) = tx [] := by
  have g : ∀ x, x ∈ (tx w).cps.toList → (tx (List.range k)).cps.contains x = true := by
    intro x hx
    rw [tx_cps] at hx
    obtain ⟨l, hl, rfl⟩ := List.mem_map.mp hx
    rw [Array.contains_iff_mem, ← Array.mem_toList_iff, tx_cps]
    exact List.mem_map.mpr ⟨l, List.mem_range.mpr (h l hl), rfl⟩
  have lo : stripLo (tx (List.range k)).cps.contains true (tx w) = w.length := by
    unfold stripLo
    rw [if_pos rfl, takeWhile_all g, tx_cps, List.length_map]
  unfold Txt.stripChars Txt.stripBy
  have hi : stripHi (tx (List.range k)).cps.contains true (tx w) w.length = w.length := by
    unfold stripHi
    rw [if_pos rfl, tx_length]
    have z : (tx w).cps.toList.drop w.length = [] := by
      apply List.drop_eq_nil_of_le
      rw [tx_cps, List.length_map]
      exact Nat.le_refl _
    rw [z]
    rfl
  by_cases hs : stripSame (tx (List.range k)).cps.contains true true (tx w) = true
  · rw [if_pos hs]
    unfold stripSame at hs
    rw [Bool.and_eq_true, lo] at hs
    have e : w.length = 0 := by simpa using hs.1
    rw [List.length_eq_zero_iff.mp e]
  · rw [if_neg hs]
    unfold stripped
    rw [lo, hi]
    show (⟨(tx w).cps.extract w.length w.length⟩ : Str) = ⟨#[]⟩
    have z : (tx w).cps.extract w.length w.length = #[] := by
      apply Array.eq_empty_of_size_eq_zero
      rw [Array.size_extract]
      omega
    rw [z]
theorem ix_abc (l : Nat) (h : l < 3) : Txt.index0 (tx [0, 1, 2]) (sg l) = some l := by
  match l, h with
  | 0, _ => decide +kernel
  | 1, _ => decide +kernel
  | 2, _ => decide +kernel
theorem at_abc (l : Nat) (h : l < 3) : (tx [0, 1, 2]).cps[l]? = some (l + 97) := by
  match l, h with
  | 0, _ => rfl
  | 1, _ => rfl
  | 2, _ => rfl
theorem join_tx (ws : List Word) : Txt.join (tx []) (ws.map tx) = tx ws.flatten := by
  rw [TL.join_eq]
  induction ws with
  | nil => rfl
  | cons u r ih =>
    cases r with
    | nil =>
      show tx u = tx (u ++ [])
      rw [List.append_nil]
    | cons v r =>
      show tx u ++ tx [] ++ Str.join (tx []) ((v :: r).map tx) = _
      rw [ih, tx_append, tx_append, List.append_nil]
      rfl
end Own
namespace Own
open PySem PySem.Spec PyProof.Rows L2
/-! helpers over the layer -/
def nV (n : Nat) : V := .int (n : Nat)
section
variable {J : It} {n : Nat} {G : Hp → Prop} {Y : Nat → Hp → V → Hp → Prop}
/-- what the comprehension's reading asks, answered for items that are told by f and kept by p -/
theorem lc_fm (w : Walk J n G Y) {g : TG} {tt : TT} {te : TE} {vs : List Nat} {σ : L2.St} {H1 : Hp} {D : Addr} {Qd : Hp → Prop} (nD : H1 D = none) (f : Nat → V) (p : Nat → Bool) (hn : n < sizeLine)
    (hG : ∀ H, Same H1 H → G H)
    (hs : ∀ i x H H', i < n → Same H1 H → Y i H x H' → ∀ (R : VK) (R0 : Hp → Prop), (p i = true → ∀ H4, Same H H4 → R (f i) H4) → (p i = false → ∀ H4, Same H H4 → R0 H4) →
      g x (wipe σ vs) H' fun σ2 H2 => wipe σ2 vs = wipe σ vs ∧ tt σ2 H2 fun b H3 => if b = true then te σ2 H3 R else R0 H3)
    (hd : ∀ H, Same H1 H → H D = some (.lst (((List.range n).filter p).map f)) → Qd H) :
    ∃ W : Nat → Nat → Hp → Prop, (∃ m, W 0 m (upd H1 D (.lst []))) ∧ ∀ i m H, W i m H →
      (J.stop i H ∧ Qd H) ∨ (J.go i H ∧ ∃ Nx : Hp → Prop, (∀ H', Nx H' → ∃ m', m' < m ∧ W (i + 1) m' H') ∧ ∀ x H', J.yld i H x H' → g x (wipe σ vs) H' fun σ2 H2 => wipe σ2 vs = wipe σ vs ∧ tt σ2 H2 fun b H3 =>
        if b = true then te σ2 H3 fun y H4 => ∃ acc, H4 D = some (.lst acc) ∧ acc.length < sizeLine ∧ Nx (upd H4 D (.lst (acc ++ [y]))) else Nx H3) := by
  refine lc_it w (fun i H => Same H1 H ∧ H D = some (.lst (((List.range i).filter p).map f))) ⟨same_new nD _, upd_same⟩ (fun i H _ q => hG H q.1) (fun i x H H' hi q y => ?_) (fun H q => hd H q.1 q.2)
  obtain ⟨q1, q2⟩ := q
  refine hs i x H H' hi q1 y _ _ (fun e H4 s => ?_) (fun e H4 s => ?_)
  · refine ⟨_, s _ _ q2, ?_, fun b o hb => ?_, ?_⟩
    · rw [List.length_map]
      have h1 := List.length_filter_le p (List.range i)
      rw [List.length_range] at h1
      omega
    · rw [upd_ne (ne_of_none hb nD)]
      exact s _ _ (q1 _ _ hb)
    · rw [upd_same, List.range_succ, List.filter_append, List.map_append]
      simp [e]
  · refine ⟨q1.trans s, ?_⟩
    rw [s _ _ q2, List.range_succ, List.filter_append, List.map_append]
    simp [e]
/-- .. without a test -/
theorem lc_map (w : Walk J n G Y) {g : TG} {te : TE} {vs : List Nat} {σ : L2.St} {H1 : Hp} {D : Addr} {Qd : Hp → Prop} (nD : H1 D = none) (f : Nat → V) (hn : n < sizeLine)
    (hG : ∀ H, Same H1 H → G H)
    (hs : ∀ i x H H', i < n → Same H1 H → Y i H x H' → ∀ (R : VK), (∀ H4, Same H H4 → R (f i) H4) → g x (wipe σ vs) H' fun σ2 H2 => wipe σ2 vs = wipe σ vs ∧ te σ2 H2 R)
    (hd : ∀ H, Same H1 H → H D = some (.lst ((List.range n).map f)) → Qd H) :
    ∃ W : Nat → Nat → Hp → Prop, (∃ m, W 0 m (upd H1 D (.lst []))) ∧ ∀ i m H, W i m H →
      (J.stop i H ∧ Qd H) ∨ (J.go i H ∧ ∃ Nx : Hp → Prop, (∀ H', Nx H' → ∃ m', m' < m ∧ W (i + 1) m' H') ∧ ∀ x H', J.yld i H x H' → g x (wipe σ vs) H' fun σ2 H2 => wipe σ2 vs = wipe σ vs ∧ tYes σ2 H2 fun b H3 =>
        if b = true then te σ2 H3 fun y H4 => ∃ acc, H4 D = some (.lst acc) ∧ acc.length < sizeLine ∧ Nx (upd H4 D (.lst (acc ++ [y]))) else Nx H3) := by
  refine lc_it w (fun i H => Same H1 H ∧ H D = some (.lst ((List.range i).map f))) ⟨same_new nD _, upd_same⟩ (fun i H _ q => hG H q.1) (fun i x H H' hi q y => ?_) (fun H q => hd H q.1 q.2)
  obtain ⟨q1, q2⟩ := q
  have z := hs i x H H' hi q1 y (fun y H4 => ∃ acc, H4 D = some (.lst acc) ∧ acc.length < sizeLine ∧ (Same H1 (upd H4 D (.lst (acc ++ [y]))) ∧ (upd H4 D (.lst (acc ++ [y]))) D = some (.lst ((List.range (i + 1)).map f)))) fun H4 s => by
    refine ⟨_, s _ _ q2, ?_, fun b o hb => ?_, ?_⟩
    · rw [List.length_map, List.length_range]
      omega
    · rw [upd_ne (ne_of_none hb nD)]
      exact s _ _ (q1 _ _ hb)
    · rw [upd_same, List.range_succ, List.map_append]
      rfl
  exact z
end
theorem map_range_get {α : Type} (xs : List α) (f : Nat → V) (h : α → V) (e : ∀ i x, xs[i]? = some x → f i = h x) : (List.range xs.length).map f = xs.map h := by
  apply List.ext_getElem?
  intro i
  rw [List.getElem?_map, List.getElem?_map]
  by_cases hi : i < xs.length
  · rw [List.getElem?_range hi, List.getElem?_eq_getElem hi]
    simp only [Option.map_some]
    rw [e i _ (List.getElem?_eq_getElem hi)]
  · rw [List.getElem?_eq_none (by rw [List.length_range]; omega), List.getElem?_eq_none (by omega)]
    rfl
/-! ### tables in the heap -/
def RowsAt (K : PySem.W.Frag) (H : Hp) (r : Addr) (rows : List (List Nat)) : Prop := ∃ as : List Addr, SqT K H r (as.map V.ref) ∧ as.length = rows.length ∧ ∀ (i : Nat) (a : Addr) (row : List Nat), as[i]? = some a → rows[i]? = some row → SqT K H a (row.map nV)
structure TabAt (K : PySem.W.Frag) (H : Hp) (t r e : Addr) (T : Tab) : Prop where
  top : SqT K H t [.ref r, .ref e]
  rows : RowsAt K H r T.rows
  ends : SqT K H e (T.ends.map V.bl)
section
variable {K : PySem.W.Frag} {H H' : Hp} {t r e : Addr} {T : Tab} {rows : List (List Nat)}
theorem RowsAt.same (h : RowsAt K H r rows) (s : Same H H') : RowsAt K H' r rows := by
  obtain ⟨as, h1, h2, h3⟩ := h
  exact ⟨as, Same.tup s h1, h2, fun i a row ha hr => Same.tup s (h3 i a row ha hr)⟩
theorem TabAt.same (h : TabAt K H t r e T) (s : Same H H') : TabAt K H' t r e T := ⟨Same.tup s h.top, h.rows.same s, Same.tup s h.ends⟩
theorem RowsAt.get (h : RowsAt K H r rows) {s : Nat} (hs : s < rows.length) : ∃ a xs, SqT K H r xs ∧ xs.length = rows.length ∧ atI xs (s : Nat) = some (.ref a) ∧ xs[s]? = some (.ref a) ∧ SqT K H a ((rows.getD s []).map nV) := by
  obtain ⟨as, h1, h2, h3⟩ := h
  have hs' : s < as.length := by omega
  have e1 : (as.map V.ref)[s]? = some (.ref as[s]) := by
    rw [List.getElem?_map, List.getElem?_eq_getElem hs']
    rfl
  refine ⟨as[s], as.map V.ref, h1, by rw [List.length_map, h2], atI_nat e1, e1, ?_⟩
  have e2 : rows.getD s [] = rows[s] := by
    rw [List.getD_eq_getElem?_getD, List.getElem?_eq_getElem hs, Option.getD_some]
  rw [e2]
  exact h3 s _ _ (List.getElem?_eq_getElem hs') (List.getElem?_eq_getElem hs)
theorem RowsAt.len (h : RowsAt K H r rows) : ∃ xs, SqT K H r xs ∧ xs.length = rows.length := by
  obtain ⟨as, h1, h2, _⟩ := h
  exact ⟨_, h1, by rw [List.length_map, h2]⟩
end
section
variable {T : Tab} {k n : Nat}
theorem Tab.Ok.rowlen (O : T.Ok k n) {s : Nat} (hs : s < n) : (T.rows.getD s []).length = k := by
  have h1 : s < T.rows.length := by
    rw [O.rl]
    exact hs
  rw [List.getD_eq_getElem?_getD, List.getElem?_eq_getElem h1, Option.getD_some]
  exact (O.row _ (List.getElem_mem h1)).1
theorem Tab.Ok.at_st (O : T.Ok k n) {s l : Nat} (hs : s < n) (hl : l < k) : atI ((T.rows.getD s []).map nV) (l : Nat) = some (.int (T.st s l : Nat)) := by
  have h2 : l < (T.rows.getD s []).length := by
    rw [O.rowlen hs]
    exact hl
  refine atI_nat ?_
  rw [List.getElem?_map, List.getElem?_eq_getElem h2]
  unfold Tab.st
  rw [List.getD_eq_getElem?_getD (l := T.rows.getD s []), List.getElem?_eq_getElem h2]
  rfl
theorem Tab.Ok.at_fin (O : T.Ok k n) {s : Nat} (hs : s < n) : atI (T.ends.map V.bl) (s : Nat) = some (.bl (T.fin s)) := by
  have h2 : s < T.ends.length := by
    rw [O.el]
    exact hs
  refine atI_nat ?_
  rw [List.getElem?_map, List.getElem?_eq_getElem h2]
  unfold Tab.fin
  rw [List.getD_eq_getElem?_getD, List.getElem?_eq_getElem h2]
  rfl
end
end Own
namespace Own
open PySem PySem.Spec PyProof.Rows L2
section
variable {X : Cx} {a b v e : Expr} {es : List Expr} {ta tb tv to : TE} {t : TA} {pos pos' : Pos} {tg : Expr} (K : PySem.W.Frag)
theorem p_ixl (ha : PE X a ta) (hb : PE X b tb) (hs : PlainIx b := by exact fun _ _ => rfl) (hK : X.K = K := by rfl) : PE X (.Subscript a b pos) (tOp (rIxL K) ta tb) := by
  subst hK
  exact pe_ix ix_list ha hb hs
theorem p_ixt (ha : PE X a ta) (hb : PE X b tb) (hs : PlainIx b := by exact fun _ _ => rfl) (hK : X.K = K := by rfl) : PE X (.Subscript a b pos) (tOp (rIxT K) ta tb) := by
  subst hK
  exact pe_ix ix_tup ha hb hs
theorem t_in (ha : PE X a ta) (hb : PE X b tb) (h1 : behindInMarks .In b = false := by rfl) (hK : X.K = K := by rfl) : PT X (.Compare a [.In] [b] pos) (tTest (tOp (rIn K false) ta tb)) := by
  subst hK
  exact pt_cmpR op_in_seq ha hb h1
theorem t_nin (ha : PE X a ta) (hb : PE X b tb) (h1 : behindInMarks .NotIn b = false := by rfl) (hK : X.K = K := by rfl) : PT X (.Compare a [.NotIn] [b] pos) (tTest (tOp (rIn K true) ta tb)) := by
  subst hK
  exact pt_cmpR op_notIn_seq ha hb h1
theorem e_in (ha : PE X a ta) (hb : PE X b tb) (h1 : behindInMarks .In b = false := by rfl) (hK : X.K = K := by rfl) : PE X (.Compare a [.In] [b] pos) (tOp (rIn K false) ta tb) := by
  subst hK
  exact pe_cmpR op_in_seq ha hb h1
theorem t_inD (hu : X.A.units + 65 < cLine) (ha : PE X a ta) (hb : PE X b tb) (h1 : behindInMarks .In b = false := by rfl) (hK : X.K = K := by rfl) : PT X (.Compare a [.In] [b] pos) (tTest (tOp (rInD K) ta tb)) := by
  subst hK
  exact pt_cmpR (op_inD hu) ha hb h1
theorem t_ninD (hu : X.A.units + 65 < cLine) (ha : PE X a ta) (hb : PE X b tb) (h1 : behindInMarks .NotIn b = false := by rfl) (hK : X.K = K := by rfl) : PT X (.Compare a [.NotIn] [b] pos) (tTest (tOp (rNotInD K) ta tb)) := by
  subst hK
  exact pt_cmpR (op_notInD hu) ha hb h1
theorem p_list (hl : PE X a ta) (hK : X.K = K := by rfl) : PI X tg a (iList K ta) := by
  subst hK
  exact pi_list hl
theorem p_tup (hl : PE X a ta) (hK : X.K = K := by rfl) : PI X tg a (iTup K ta) := by
  subst hK
  exact pi_tup hl
/-- len of a list or tuple -/
def rLenS (K : PySem.W.Frag) : List V → Hp → VK → Prop := fun xs H Q => ∃ p ys, xs = [.ref p] ∧ (SqL K H p ys ∨ SqT K H p ys) ∧ Q (.int ys.length) H
theorem c_len (hK : X.K = K := by rfl) : CallR X (.builtin "len") (rLenS K) := by
  subst hK
  exact call_len_seq
theorem c_sum (hc : X.calm = true := by rfl) (hK : X.K = K := by rfl) : CallR X (.builtin "sum") (rSum K) := by
  subst hK
  exact cr_sum hc
theorem c_all (hc : X.calm = true := by rfl) (hK : X.K = K := by rfl) : CallR X (.builtin "all") (rAll K) := by
  subst hK
  exact cr_all hc
theorem c_any (hc : X.calm = true := by rfl) (hK : X.K = K := by rfl) : CallR X (.builtin "any") (rAny K) := by
  subst hK
  exact cr_any hc
theorem c_max (hc : X.calm = true := by rfl) (hK : X.K = K := by rfl) : CallR X (.builtin "max") (rMax K) := by
  subst hK
  exact cr_max hc
theorem c_min (hc : X.calm = true := by rfl) (hK : X.K = K := by rfl) : CallR X (.builtin "min") (rMin K) := by
  subst hK
  exact cr_min hc
theorem c_isi (hK : X.K = K := by rfl) : CallR X (.builtin "isinstance") (rIsi K) := by
  subst hK
  exact call_isi
/-- list(x), a new list -/
def rListS (K : PySem.W.Frag) : List V → Hp → VK → Prop := fun xs H Q => ∃ p ys, xs = [.ref p] ∧ (SqL K H p ys ∨ SqT K H p ys) ∧ ∀ l, H l = none → Q (.ref l) (upd H l (.lst ys))
theorem c_list (hK : X.K = K := by rfl) : CallR X (.type "list") (rListS K) := by
  subst hK
  exact call_list_of
/-- tuple(l) of a list: a new tuple -/
def rTupL (K : PySem.W.Frag) : List V → Hp → VK → Prop := fun xs H Q => ∃ p ys, xs = [.ref p] ∧ SqL K H p ys ∧ ∀ l, H l = none → Q (.ref l) (upd H l (.tup ys))
theorem c_tup (hK : X.K = K := by rfl) : CallR X (.type "tuple") (rTupL K) := by
  subst hK
  intro pins s σ H xs us Q I r h
  obtain ⟨p, ys, e, hs, q⟩ := h
  exact call_tuple_of pins s σ H xs us Q I r ⟨p, ys, e, .inl ⟨hs, q⟩⟩
theorem c_set (hc : X.calm = true := by rfl) (hK : X.K = K := by rfl) : CallR X (.type "set") (rSet1 X.w K) := by
  subst hK
  exact call_set1 hc
/-- a test of any value -/
theorem p_tru (hl : PE X a ta) (he : ∀ whole, isTrue a X.env whole = (do let v ← whole; standAt a.pos; holding [v] (truthy v)) := by intro _; rfl) (hK : X.K = K := by rfl) : PT X a (fun σ H Q => ta σ H fun x H' => ∃ k, TruV K x H' k ∧ Q k H') := by
  subst hK
  exact pt_truth hl he
/-- xs.append(e) -/
theorem p_app {apos cpos : Pos} (ho : PE X a to) (ha : PA X [e] t) (hbase : attributeBase a "append" X.env (eval a X.env) = eval a X.env := by rfl)
    (hfew : ((backTo cpos (starEach [e] X.env)).all (fun x => !x.1) && (backToKw cpos (keywordEach [] X.env)).all (fun x => x.1.isSome) && decide (([e] : List Expr).length + ([] : List Keyword).length + (if ([] : List Keyword).isEmpty then 0 else 1) < 30)) = true := by rfl)
    (hline : (apos.endLine == cpos.line) = true := by rfl) (hs : starEach [e] X.env = (false, eval e X.env) :: starEach [] X.env := by rfl) (hplain : (backTo cpos (starEach [] X.env)).any (·.1) = false := by rfl) (hK : X.K = K := by rfl) :
    PE X (.Call (.Attribute a "append" apos) [e] [] cpos) (tBM K "list" rAppend to t) := by
  subst hK
  exact pe_bm PySem.F.plainAttrs_list PySem.F.slot_list_append PySem.F.type_list_append mt_append ho ha hbase hfew hline hs hplain
/-- s.index(c), c in s -/
theorem p_six {apos cpos : Pos} (ho : PE X a to) (ha : PA X [e] t) (hc : X.calm = true := by rfl) (hbase : attributeBase a "index" X.env (eval a X.env) = eval a X.env := by rfl)
    (hfew : ((backTo cpos (starEach [e] X.env)).all (fun x => !x.1) && (backToKw cpos (keywordEach [] X.env)).all (fun x => x.1.isSome) && decide (([e] : List Expr).length + ([] : List Keyword).length + (if ([] : List Keyword).isEmpty then 0 else 1) < 30)) = true := by rfl)
    (hline : (apos.endLine == cpos.line) = true := by rfl) (hs : starEach [e] X.env = (false, eval e X.env) :: starEach [] X.env := by rfl) (hplain : (backTo cpos (starEach [] X.env)).any (·.1) = false := by rfl) (hK : X.K = K := by rfl) :
    PE X (.Call (.Attribute a "index" apos) [e] [] cpos) (tBMS K "str" (rIndexX fun _ _ _ _ => False) to t) := by
  subst hK
  exact pe_bmS PySem.F.plainAttrs_str PySem.F.slot_str_index PySem.F.type_str_index (mt_indexX hc takes0) ho ha hbase hfew hline hs hplain
/-- l.index(x), x flat -/
theorem p_lix {apos cpos : Pos} (ho : PE X a to) (ha : PA X [e] t) (hbase : attributeBase a "index" X.env (eval a X.env) = eval a X.env := by rfl)
    (hfew : ((backTo cpos (starEach [e] X.env)).all (fun x => !x.1) && (backToKw cpos (keywordEach [] X.env)).all (fun x => x.1.isSome) && decide (([e] : List Expr).length + ([] : List Keyword).length + (if ([] : List Keyword).isEmpty then 0 else 1) < 30)) = true := by rfl)
    (hline : (apos.endLine == cpos.line) = true := by rfl) (hs : starEach [e] X.env = (false, eval e X.env) :: starEach [] X.env := by rfl) (hplain : (backTo cpos (starEach [] X.env)).any (·.1) = false := by rfl) (hK : X.K = K := by rfl) :
    PE X (.Call (.Attribute a "index" apos) [e] [] cpos) (tBM K "list" (rIndex K) to t) := by
  subst hK
  exact pe_bm PySem.F.plainAttrs_list PySem.F.slot_list_index PySem.F.type_list_index mt_index ho ha hbase hfew hline hs hplain
/-- l.index(x), data of any depth -/
theorem p_lixD (hu : X.A.units + 65 < cLine) {apos cpos : Pos} (ho : PE X a to) (ha : PA X [e] t) (hbase : attributeBase a "index" X.env (eval a X.env) = eval a X.env := by rfl)
    (hfew : ((backTo cpos (starEach [e] X.env)).all (fun x => !x.1) && (backToKw cpos (keywordEach [] X.env)).all (fun x => x.1.isSome) && decide (([e] : List Expr).length + ([] : List Keyword).length + (if ([] : List Keyword).isEmpty then 0 else 1) < 30)) = true := by rfl)
    (hline : (apos.endLine == cpos.line) = true := by rfl) (hs : starEach [e] X.env = (false, eval e X.env) :: starEach [] X.env := by rfl) (hplain : (backTo cpos (starEach [] X.env)).any (·.1) = false := by rfl) (hK : X.K = K := by rfl) :
    PE X (.Call (.Attribute a "index" apos) [e] [] cpos) (tBM K "list" (rIndexD K) to t) := by
  subst hK
  exact pe_bm PySem.F.plainAttrs_list PySem.F.slot_list_index PySem.F.type_list_index (mt_indexD hu) ho ha hbase hfew hline hs hplain
/-- a target of several names -/
theorem g_tup (m : Nat) {ts : List Expr} {kk : Nat} {tgs : TGs} (h : PGs X ts tgs) (hc : X.calm = true := by rfl) (hn : (assignEach ts X.env).length = m := by rfl) (hst : (assignEach ts X.env).findIdx? (·.1) = none := by rfl) (hK : X.K = K := by rfl) :
    PG X (.Tuple ts kk pos) (gTup K m tgs) := by
  subst hK
  exact pg_tup hc h hn hst
/-- d.get(k, x) -/
theorem p_get (hu : X.A.units + 1 < cLine) {f o : Expr} {tf : TE} {apos cpos : Pos} (ho : PE X o to) (he : PE X e ta) (hf : PE X f tf) (m : M2 X o "get" apos e f cpos := by exact ⟨by rfl, by rfl, by rfl, by rfl⟩) : PE X (.Call (.Attribute o "get" apos) [e, f] [] cpos) (tDGet2 to ta tf) :=
  pe_dget2 hu ho he hf m
/-- sep.join(l) -/
def tJoin (K : PySem.W.Frag) (to te : TE) : TE := tM1 (fun x xs H Q => ∃ a p, ∃ ys : List Str, x = .str a ∧ xs = [.ref p] ∧ (SqL K H p (ys.map V.str) ∨ SqT K H p (ys.map V.str)) ∧ (ys.map (·.length)).sum + ys.length * a.length ≤ 16777216 ∧ Q (.str (Txt.join a ys)) H) to te
theorem p_join {apos : Pos} (ho : PE X a to) (he : PE X e ta) (hs : starEach [e] X.env = [(false, eval e X.env)] := by rfl) (hbase : attributeBase a "join" X.env (eval a X.env) = eval a X.env := by rfl) (hline : (apos.endLine == pos.line) = true := by rfl) (hK : X.K = K := by rfl) :
    PE X (.Call (.Attribute a "join" apos) [e] [] pos) (tJoin K to ta) := by
  subst hK
  exact pe_join ho he hs hbase hline
end
section
variable {X : Cx} {a b v : Expr} {ta tb tv : TE} {pos pos' : Pos}
theorem p_ixs (ha : PE X a ta) (hb : PE X b tb) (hs : PlainIx b := by exact fun _ _ => rfl) : PE X (.Subscript a b pos) (tOp rIxS ta tb) := pe_ix ix_str ha hb hs
theorem p_ixd (hu : X.A.units + 1 < cLine) (ha : PE X a ta) (hb : PE X b tb) (hs : NoSl b := by exact fun _ _ => rfl) : PE X (.Subscript a b pos) (tDGet ta tb) := pe_dget hu ha hb hs
theorem t_ind (hu : X.A.units + 1 < cLine) (ha : PE X a ta) (hb : PE X b tb) (h1 : behindInMarks .In b = false := by rfl) : PT X (.Compare a [.In] [b] pos) (tB (tDIn ta tb)) := pt_cmp (pc_din hu ha hb) h1
theorem t_nind (hu : X.A.units + 1 < cLine) (ha : PE X a ta) (hb : PE X b tb) (h1 : behindInMarks .NotIn b = false := by rfl) : PT X (.Compare a [.NotIn] [b] pos) (tB (tDNotIn ta tb)) := pt_cmp (pc_dnotin hu ha hb) h1
theorem t_ins (ha : PE X a ta) (hb : PE X b tb) (h1 : behindInMarks .In b = false := by rfl) : PT X (.Compare a [.In] [b] pos) (tTest (tOp (fun x y H Q => ∃ (c : Nat) (z : Str), x = .str ⟨#[c]⟩ ∧ y = .str z ∧ Q (.bl (decide (c ∈ z.cps.toList))) H) ta tb)) := pt_cmpR op_in_sign ha hb h1
theorem t_nins (ha : PE X a ta) (hb : PE X b tb) (h1 : behindInMarks .NotIn b = false := by rfl) : PT X (.Compare a [.NotIn] [b] pos) (tTest (tOp (fun x y H Q => ∃ (c : Nat) (z : Str), x = .str ⟨#[c]⟩ ∧ y = .str z ∧ Q (.bl (!decide (c ∈ z.cps.toList))) H) ta tb)) := pt_cmpR op_notIn_sign ha hb h1
theorem p_dput (hu : X.A.units + 1 < cLine) (ho : PE X a ta) (hi : PE X b tb) (hv : PE X v tv) (hs : swapsWith v (some (.Subscript a b pos')) pos.line X.env = pure false := by rfl) :
    PS X (.Assign [.Subscript a b pos'] v pos) (sDPut ta tb tv) := ps_dput hu ho hi hv hs
end
/-- a def with defaults, out of which nothing is let -/
theorem okD {P : Program} {w : World} {K : PySem.W.Frag} {mg : Str → Option Value} {base : Heap} {x qual : Str} {params : Arguments} {body : List Stmt} {scope : Scope} {dvs : List V} {kws : List (Str × V)} {f : Addr} {fd : FuncData} {N ps : List Str} {k : Nat} {sp : Sp}
    (F : FunD K x qual params body scope dvs kws f fd) (S : FnScope N ps scope) (len : ∀ vs H Q E, sp vs H Q E → vs.length = ps.length)
    (hbody : ∀ (cdv : Value) (A : Around) (outer : List Env) (s : Shared) (H : Hp) (vs : List V) (Q : VK) (E : XK), Room k (A.deeper (envOfC qual scope s.heap.objs.size f cdv)) → sp vs H Q E →
      ∃ t, PSs (cxOf CX0 P w K mg base N qual scope f cdv A outer s H E).nox body t ∧ t { nx := fun _ H' => Q .non H', rt := Q } (start N vs) H) : FnOk P w K mg base CX0 (k + 1) f fd ps sp := by
  refine F.ok S len fun cdv A outer s H vs Q E hr hsp => ?_
  obtain ⟨t, h, q⟩ := hbody cdv A outer s H vs Q E hr hsp
  exact ⟨t, h.nox, q⟩
/-- a def that keeps its promise, called without its last arguments -/
structure GotD (P : Program) (w : World) (K : PySem.W.Frag) (mg : Str → Option Value) (base : Heap) (CX : CXT) (k : Nat) (x : Str) (ps : List Str) (dvs : List V) (sp : Sp) : Prop where
  ex : ∃ f fd ds, FnOk P w K mg base CX k f fd ps sp ∧ Binds K fd ps ds ∧ Vals dvs ds ∧ PySem.W.keepIn K (.ref f) = true ∧ mg x = some (.ref f)
theorem GotD.call {X : Cx} {k : Nat} {x : Str} {ps : List Str} {dvs : List V} {sp : Sp} {e : Expr} {es : List Expr} {t : TA} {p pos : Pos} (C : GotD X.prog X.w X.K X.mg X.base CX0 k x ps dvs sp) (hr : Room k X.A) (hg : Gl X x)
    (ha : PA X (e :: es) t) (hdb : (x == ("__debug__" : Str)) = false := by decide) (he : starEach (e :: es) X.env = (false, eval e X.env) :: starEach es X.env := by rfl) (hpl : (backTo pos (starEach es X.env)).any (·.1) = false := by rfl) :
    PE X (.Call (.Name x p) (e :: es) [] pos) (tCall sp dvs E0 t) := by
  obtain ⟨f, fd, ds, F, b, rv, kp, m⟩ := C.ex
  exact pe_call F hr hg m kp b rv pass0 ha hdb he hpl
/-- an object that is new here: from now on it is known as it stands -/
def tFrz (t : TE) : TE := fun σ H Q => t σ H fun x H1 => ∃ d u, x = .ref d ∧ H1 d = some u ∧ Mut (some u) ∧ ∀ od, Q x (upd H1 d (.frz od u))
theorem pe_frz {X : Cx} {e : Expr} {t : TE} (h : PE X e t) : PE X e (tFrz t) := by
  constructor
  intro pins s σ H Q I hw
  refine thn (h.run pins s σ _ _ I hw) fun v s1 w1 => ?_
  obtain ⟨x, H1, I1, r, d, u, rfl, hd, mu, q⟩ := w1
  obtain ⟨od, I2⟩ := I1.lock hd mu
  exact ⟨.ref d, _, I2, r, q od⟩
/-! ### dicts of stands -/
def kK (x : Nat) : Key := .inl (x : Nat)
def kF (acc : Acc) : List (Key × V) := acc.map fun p => (kK p.1, V.str (tx p.2))
theorem kK_inj {x y : Nat} (h : kK x = kK y) : x = y := by
  have e : ((x : Nat) : Int) = (y : Nat) := Sum.inl.inj h
  omega
theorem kF_none {acc : Acc} {x : Nat} (h : x ∉ acc.map (·.1)) : valV (kF acc) (kK x) = none := by
  induction acc with
  | nil => rfl
  | cons p r ih =>
    have h1 : p.1 ≠ x := fun e => h (by rw [List.map_cons, e]; exact List.mem_cons_self)
    have h2 : x ∉ r.map (·.1) := fun e => h (by rw [List.map_cons]; exact List.mem_cons_of_mem _ e)
    show valV ((kK p.1, V.str (tx p.2)) :: kF r) (kK x) = none
    rw [valV_neg (fun e => h1 (kK_inj e))]
    exact ih h2
theorem kF_some {acc : Acc} (nd : (acc.map (·.1)).Nodup) {x : Nat} {w : Word} (h : (x, w) ∈ acc) : valV (kF acc) (kK x) = some (.str (tx w)) := by
  induction acc with
  | nil => simp at h
  | cons p r ih =>
    rw [List.map_cons] at nd
    obtain ⟨n1, n2⟩ := List.nodup_cons.mp nd
    show valV ((kK p.1, V.str (tx p.2)) :: kF r) (kK x) = _
    rcases List.mem_cons.mp h with e | h
    · subst e
      rw [valV_pos rfl]
    · have hx : x ∈ r.map (·.1) := List.mem_map.mpr ⟨_, h, rfl⟩
      rw [valV_neg (fun e => n1 (by rw [kK_inj e]; exact hx))]
      exact ih n2 h
theorem kF_length (acc : Acc) : (kF acc).length = acc.length := List.length_map _
theorem kF_snoc (acc : Acc) (x : Nat) (w : Word) : kF (acc ++ [(x, w)]) = kF acc ++ [(kK x, .str (tx w))] := by
  unfold kF
  rw [List.map_append]
  rfl
end Own
namespace Own
open PySem PySem.Spec PyProof.Rows L2
theorem eqvAll_map {α : Type} [DecidableEq α] (f : α → PyData) (h : ∀ x y, PyData.eqv (f x) (f y) = decide (x = y)) : ∀ xs ys : List α, PyData.eqvAll (xs.map f) (ys.map f) = decide (xs = ys)
  | [], [] => by simp [PyData.eqvAll]
  | [], y :: ys => by simp [PyData.eqvAll]
  | x :: xs, [] => by simp [PyData.eqvAll]
  | x :: xs, y :: ys => by
    simp only [List.map_cons, PyData.eqvAll]
    rw [h, eqvAll_map f h xs ys]
    by_cases e : x = y <;> simp [e]
theorem canLay_map {α : Type} (f : α → PyData) (h : ∀ x, (f x).canLay0 = true) : ∀ xs : List α, PyData.canLayAll0 (xs.map f) = true
  | [] => by simp [PyData.canLayAll0]
  | x :: xs => by simp [PyData.canLayAll0, h x, canLay_map f h xs]
theorem depth_map {α : Type} (f : α → PyData) (b : Nat) (h : ∀ x, (f x).depth ≤ b) : ∀ xs : List α, PyData.depthAll (xs.map f) ≤ b
  | [] => by simp [PyData.depthAll]
  | x :: xs => by
    have h1 := h x
    have h2 := depth_map f b h xs
    simp only [List.map_cons, PyData.depthAll]
    omega
theorem dpAll_map {α : Type} {K : PySem.W.Frag} {H : Hp} (v : α → V) (f : α → PyData) : ∀ xs : List α, (∀ x, x ∈ xs → Dp K H (v x) (f x)) → DpAll K H (xs.map v) (xs.map f)
  | [], _ => .nil
  | x :: xs, h => .cons (h x List.mem_cons_self) (dpAll_map v f xs fun y hy => h y (List.mem_cons_of_mem _ hy))
/-- lists of booleans -/
def dBs (L : List Bool) : PyData := .list (L.map .bool)
theorem eqv_dBs (L M : List Bool) : PyData.eqv (dBs L) (dBs M) = decide (L = M) := by
  unfold dBs
  rw [PyData.eqv]
  exact eqvAll_map _ (fun x y => by cases x <;> cases y <;> rfl) L M
theorem shaped_dBs (L : List Bool) : SeqAt.shaped (dBs L) = true := by
  unfold SeqAt.shaped dBs
  have h1 : (PyData.list (L.map .bool)).canLay0 = true := by
    rw [PyData.canLay0]
    exact canLay_map _ (fun x => by simp [PyData.canLay0]) L
  have h2 : (PyData.list (L.map .bool)).depth ≤ 64 := by
    have h := depth_map PyData.bool 0 (fun x => by simp [PyData.depth]) L
    simp only [PyData.depth]
    omega
  rw [h1, decide_eq_true h2]
  rfl
theorem dp_dBs {K : PySem.W.Frag} {H : Hp} {a : Addr} {L : List Bool} (h : SqL K H a (L.map V.bl)) : Dp K H (.ref a) (dBs L) := .lst h (dpAll_map _ _ L fun x _ => .bl x)
end Own
namespace Own
open PySem PySem.Spec PyProof.Rows L2
/-- an own exception's class, as the module's top has made it -/
structure ExcT (K : PySem.W.Frag) (mg : Str → Option Value) (x : Str) (C : Addr) : Prop where
  gC : mg x = some (.ref C)
  xC : PySem.W.excIn K C [.type "ValueError", .type "Exception", .type "BaseException", .type "object"] "ValueError.__new__" = true
  kC : PySem.W.keepIn K (.ref C) = true
  bC : PySem.W.subIn K (.ref C) (.type "BaseException") = some true
  tC : PySem.W.typeIn K (.ref C) = some (.type "type")
  te : PySem.W.exmOne K (.ref C) (.ref C) = some true
/-- raise X('..') -/
theorem p_raise {X : Cx} {W : WX} {x m : Str} {j : Nat} {p p2 pos pos' : Pos} {C : Addr} (T : ExcT X.K X.mg x C) (tk : Takes X W) (hg : Gl X x) (hc : X.calm = true := by rfl) (hdb : (x == ("__debug__" : Str)) = false := by decide) :
    PS X (.Raise (some (.Call (.Name x p) [.Constant (.str m) j p2] [] pos)) none pos') (fun _ σ H => W (.ref C) none σ H) :=
  ps_raise hc tk (pmk_own PySem.F.excBase_ValueError T.xC T.gC T.kC (raises_own T.bC T.tC) hg hdb)
/-- a def that may raise, called where that is wished for -/
structure GotX (P : Program) (w : World) (K : PySem.W.Frag) (mg : Str → Option Value) (base : Heap) (k : Nat) (x : Str) (ps : List Str) (sp : Sp) : Prop where
  ex : ∃ f fd, FnOk P w K mg base (L2.CX P w) k f fd ps sp ∧ Binds K fd ps [] ∧ PySem.W.keepIn K (.ref f) = true ∧ mg x = some (.ref f)
section
variable {X : Cx} {k : Nat} {x : Str} {ps : List Str} {sp : Sp} {e : Expr} {es : List Expr} {t : TA} {p pos : Pos}
/-- where it does not raise -/
theorem GotX.call (C : GotX X.prog X.w X.K X.mg X.base k x ps sp) (hr : Room k X.A) (hg : Gl X x) (ha : PA X (e :: es) t) (hdb : (x == ("__debug__" : Str)) = false := by decide) (he : starEach (e :: es) X.env = (false, eval e X.env) :: starEach es X.env := by rfl)
    (hpl : (backTo pos (starEach es X.env)).any (·.1) = false := by rfl) : PE X (.Call (.Name x p) (e :: es) [] pos) (tCall sp [] E0 t) := by
  obtain ⟨f, fd, F, b, kp, m⟩ := C.ex
  exact pe_call F hr hg m kp b .nil passL ha hdb he hpl
theorem GotX.callX {W : WX} (C : GotX X.prog X.w X.K X.mg X.base k x ps sp) (tk : Takes X W) (hr : Room k X.A) (hg : Gl X x) (ha : PA X (e :: es) t) (hdb : (x == ("__debug__" : Str)) = false := by decide) (he : starEach (e :: es) X.env = (false, eval e X.env) :: starEach es X.env := by rfl)
    (hpl : (backTo pos (starEach es X.env)).any (·.1) = false := by rfl) : PE X (.Call (.Name x p) (e :: es) [] pos) (tCallS sp (WE W) t) := by
  obtain ⟨f, fd, F, b, kp, m⟩ := C.ex
  exact pe_callS F hr hg m kp b (fun σ => passAt tk σ) ha hdb he hpl
end
/-- a dict comprehension over a walk -/
theorem dc_it {J : It} {n : Nat} {G : Hp → Prop} {Y : Nat → Hp → V → Hp → Prop} (w : Walk J n G Y) {g : TG} {tt : TT} {tk tv : TE} {vs : List Nat} {σ : L2.St} {H1 : Hp} {D : Addr} {Qd : Hp → Prop} (Pv : Nat → Hp → Prop) (h0 : Pv 0 (upd H1 D (.dK []))) (hG : ∀ i H, i ≤ n → Pv i H → G H)
    (hs : ∀ i x H H', i < n → Pv i H → Y i H x H' → g x (wipe σ vs) H' fun σ2 H2 => wipe σ2 vs = wipe σ vs ∧ tt σ2 H2 fun b H3 =>
      if b = true then tk σ2 H3 fun y H4 => tv σ2 H4 fun z H5 => ∃ kvs k, y = kV k ∧ H5 D = some (.dK kvs) ∧ kvs.length < sizeLine ∧ Pv (i + 1) (upd H5 D (.dK (putK kvs k z))) else Pv (i + 1) H3) (hd : ∀ H, Pv n H → Qd H) :
    ∃ W : Nat → Nat → Hp → Prop, (∃ m, W 0 m (upd H1 D (.dK []))) ∧ ∀ i m H, W i m H →
      (J.stop i H ∧ Qd H) ∨ (J.go i H ∧ ∃ Nx : Hp → Prop, (∀ H', Nx H' → ∃ m', m' < m ∧ W (i + 1) m' H') ∧ ∀ x H', J.yld i H x H' → g x (wipe σ vs) H' fun σ2 H2 => wipe σ2 vs = wipe σ vs ∧ tt σ2 H2 fun b H3 =>
        if b = true then tk σ2 H3 fun y H4 => tv σ2 H4 fun z H5 => ∃ kvs k, y = kV k ∧ H5 D = some (.dK kvs) ∧ kvs.length < sizeLine ∧ Nx (upd H5 D (.dK (putK kvs k z))) else Nx H3) := by
  refine ⟨fun i m H => m = n - i ∧ i ≤ n ∧ Pv i H, ⟨n, by simp, Nat.zero_le _, h0⟩, ?_⟩
  rintro i m H ⟨rfl, hi, p⟩
  have q := hG i H hi p
  by_cases hlt : i < n
  · exact .inr ⟨w.goes i H hlt q, Pv (i + 1), fun H' p' => ⟨n - (i + 1), by omega, rfl, hlt, p'⟩, fun x H' y => hs i x H H' hlt p (w.yields i H x H' hlt q y)⟩
  · have e : i = n := by omega
    subst e
    exact .inl ⟨w.stops H q, hd H p⟩
end Own
namespace Own
/-! nets: edges from a node to a node, by nothing or by one of some letters -/
abbrev Edge := Nat × List Nat × Nat
inductive Reach (E : List Edge) : Nat → Word → Prop
  | start : Reach E 0 []
  | eps {b l : Nat} {w : Word} : (b, [], l) ∈ E → Reach E b w → Reach E l w
  | step {b l a : Nat} {s : List Nat} {w : Word} : (b, s, l) ∈ E → a ∈ s → Reach E b w → Reach E l (w ++ [a])
/-- languages at nodes that keep to the edges -/
def Clo (A : Nat → Word → Prop) (N : List Edge) : Prop := ∀ e, e ∈ N → (e.2.1 = [] → ∀ w, A e.1 w → A e.2.2 w) ∧ ∀ a, a ∈ e.2.1 → ∀ w, A e.1 w → A e.2.2 (w ++ [a])
theorem Reach.sound {E : List Edge} {A : Nat → Word → Prop} (h0 : A 0 []) (h : Clo A E) {n : Nat} {w : Word} (r : Reach E n w) : A n w := by
  induction r with
  | start => exact h0
  | eps he _ ih => exact (h _ he).1 rfl _ ih
  | step he ha _ ih => exact (h _ he).2 _ ha _ ih
theorem Clo.nil {A : Nat → Word → Prop} : Clo A [] := fun e h => by simp at h
theorem Clo.append {A : Nat → Word → Prop} {M N : List Edge} (h : Clo A M) (h' : Clo A N) : Clo A (M ++ N) := fun e he => (List.mem_append.mp he).elim (h e) (h' e)
theorem Clo.congr {A B : Nat → Word → Prop} {N : List Edge} (h : Clo A N) (e : ∀ x, x ∈ N → B x.1 = A x.1 ∧ B x.2.2 = A x.2.2) : Clo B N := fun x hx => by
  rw [(e x hx).1, (e x hx).2]
  exact h x hx
def setL (A : Nat → Word → Prop) (c : Nat) (B : Word → Prop) : Nat → Word → Prop := fun x => if x = c then B else A x
theorem setL_ne {A : Nat → Word → Prop} {c x : Nat} {B : Word → Prop} (h : x ≠ c) : setL A c B x = A x := if_neg h
theorem setL_eq {A : Nat → Word → Prop} {c : Nat} {B : Word → Prop} : setL A c B c = B := if_pos rfl
def Cat (A B : Word → Prop) (w : Word) : Prop := ∃ u v, w = u ++ v ∧ A u ∧ B v
def ones (N : List Edge) : Nat := (N.filter fun e => !e.2.1.isEmpty).length
theorem ones_append (M N : List Edge) : ones (M ++ N) = ones M + ones N := by
  unfold ones
  rw [List.filter_append, List.length_append]
/-- what wiring does: from node b on, c the next node; late is where the words of G lead -/
structure Wired (k : Nat) (G : Word → Prop) (wt nb b c late c' : Nat) (N : List Edge) : Prop where
  le : c ≤ c'
  lt : late < c'
  cb : c' ≤ c + nb
  eb : N.length ≤ nb
  src : ∀ e, e ∈ N → e.1 = b ∨ (c ≤ e.1 ∧ e.1 < c')
  tgt : ∀ e, e ∈ N → c ≤ e.2.2 ∧ e.2.2 < c'
  letr : ∀ e, e ∈ N → Wd k e.2.1 ∧ e.2.1.length ≤ 3
  one : ones N ≤ wt
  at' : late = b ∨ c ≤ late
  snd : ∀ A : Nat → Word → Prop, ∃ A' : Nat → Word → Prop, (∀ x, x < c → A' x = A x) ∧ Clo A' N ∧ ∀ w, A' late w → Cat (A b) G w
  cmp : ∀ E'' : List Edge, (∀ e, e ∈ N → e ∈ E'') → ∀ u v, Reach E'' b u → G v → Reach E'' late (u ++ v)
section
variable {k wt nb b c late c' : Nat} {G : Word → Prop} {N : List Edge}
theorem Wired.congr {G' : Word → Prop} (W : Wired k G wt nb b c late c' N) (e : ∀ w, G w ↔ G' w) : Wired k G' wt nb b c late c' N := by
  have z : G = G' := funext fun w => propext (e w)
  rw [← z]
  exact W
theorem Wired.weak {wt' nb' : Nat} (W : Wired k G wt nb b c late c' N) (h1 : wt ≤ wt') (h2 : nb ≤ nb') : Wired k G wt' nb' b c late c' N :=
  { W with cb := by have := W.cb; omega, eb := by have := W.eb; omega, one := by have := W.one; omega }
theorem Wired.refl (hb : b < c) : Wired k (· = []) 0 0 b c b c [] where
  le := Nat.le_refl _
  lt := hb
  cb := Nat.le_refl _
  eb := Nat.le_refl _
  src := fun e h => by simp at h
  tgt := fun e h => by simp at h
  letr := fun e h => by simp at h
  one := Nat.le_refl _
  at' := .inl rfl
  snd := fun A => ⟨A, fun _ _ => rfl, Clo.nil, fun w h => ⟨w, [], by simp, h, rfl⟩⟩
  cmp := fun E'' _ u v hr hv => by rw [hv, List.append_nil]; exact hr
theorem Wired.non : Wired k (L .non) 0 1 b c c (c + 1) [] where
  le := Nat.le_succ _
  lt := Nat.lt_succ_self _
  cb := Nat.le_refl _
  eb := Nat.zero_le _
  src := fun e h => by simp at h
  tgt := fun e h => by simp at h
  letr := fun e h => by simp at h
  one := Nat.le_refl _
  at' := .inr (Nat.le_refl _)
  snd := fun A => ⟨setL A c fun _ => False, fun x hx => setL_ne (by omega), Clo.nil, fun w h => by
    rw [setL_eq] at h
    exact h.elim⟩
  cmp := fun E'' _ u v _ hv => by
    unfold L at hv
    exact hv.elim
theorem Wired.emp (hb : b < c) : Wired k (L .emp) 1 1 b c c (c + 1) [(b, [], c)] where
  le := Nat.le_succ _
  lt := Nat.lt_succ_self _
  cb := Nat.le_refl _
  eb := Nat.le_refl _
  src := fun e h => by
    rw [List.mem_singleton.mp h]
    exact .inl rfl
  tgt := fun e h => by
    rw [List.mem_singleton.mp h]
    exact ⟨Nat.le_refl _, Nat.lt_succ_self _⟩
  letr := fun e h => by
    rw [List.mem_singleton.mp h]
    exact ⟨fun x hx => by simp at hx, Nat.zero_le _⟩
  one := Nat.zero_le _
  at' := .inr (Nat.le_refl _)
  snd := fun A => ⟨setL A c (A b), fun x hx => setL_ne (by omega), fun e h => by
    rw [List.mem_singleton.mp h]
    refine ⟨fun _ w hw => ?_, fun a ha => by simp at ha⟩
    show setL A c (A b) c w
    have hw : setL A c (A b) b w := hw
    rw [setL_ne (by omega)] at hw
    rw [setL_eq]
    exact hw, fun w h => by
    rw [setL_eq] at h
    exact ⟨w, [], by simp, h, by unfold L; rfl⟩⟩
  cmp := fun E'' he u v hr hv => by
    unfold L at hv
    rw [hv, List.append_nil]
    exact .eps (he _ (List.mem_singleton.mpr rfl)) hr
theorem Wired.oneL {s : List Nat} (hb : b < c) (hs : Wd k s) (hl : s.length ≤ 3) (hne : s ≠ []) : Wired k (L (.one s)) 1 1 b c c (c + 1) [(b, s, c)] where
  le := Nat.le_succ _
  lt := Nat.lt_succ_self _
  cb := Nat.le_refl _
  eb := Nat.le_refl _
  src := fun e h => by
    rw [List.mem_singleton.mp h]
    exact .inl rfl
  tgt := fun e h => by
    rw [List.mem_singleton.mp h]
    exact ⟨Nat.le_refl _, Nat.lt_succ_self _⟩
  letr := fun e h => by
    rw [List.mem_singleton.mp h]
    exact ⟨hs, hl⟩
  one := List.length_filter_le _ _
  at' := .inr (Nat.le_refl _)
  snd := fun A => ⟨setL A c (Cat (A b) (L (.one s))), fun x hx => setL_ne (by omega), fun e h => by
    rw [List.mem_singleton.mp h]
    refine ⟨fun z => absurd z hne, fun a ha w hw => ?_⟩
    show setL A c (Cat (A b) (L (.one s))) c (w ++ [a])
    have hw : setL A c (Cat (A b) (L (.one s))) b w := hw
    rw [setL_ne (by omega)] at hw
    rw [setL_eq]
    exact ⟨w, [a], rfl, hw, by unfold L; exact ⟨a, ha, rfl⟩⟩, fun w h => by
    rwa [setL_eq] at h⟩
  cmp := fun E'' he u v hr hv => by
    unfold L at hv
    obtain ⟨a, ha, rfl⟩ := hv
    exact .step (he _ (List.mem_singleton.mpr rfl)) ha hr
theorem Wired.seq {G2 : Word → Prop} {wt2 nb2 l2 c2 : Nat} {N2 : List Edge} (hb : b < c) (W : Wired k G wt nb b c late c' N) (W2 : Wired k G2 wt2 nb2 late c' l2 c2 N2) : Wired k (Cat G G2) (wt + wt2) (nb + nb2) b c l2 c2 (N ++ N2) where
  le := Nat.le_trans W.le W2.le
  lt := W2.lt
  cb := by have := W.cb; have := W2.cb; omega
  eb := by have := W.eb; have := W2.eb; rw [List.length_append]; omega
  src := fun e h => by
    have h1 := W.le
    have h2 := W2.le
    rcases List.mem_append.mp h with h | h
    · rcases W.src e h with z | z
      · exact .inl z
      · exact .inr ⟨z.1, by omega⟩
    · rcases W2.src e h with z | z
      · rw [z]
        rcases W.at' with y | y
        · exact .inl y
        · have := W.lt
          exact .inr ⟨y, by omega⟩
      · exact .inr ⟨by omega, z.2⟩
  tgt := fun e h => by
    have h1 := W.le
    have h2 := W2.le
    rcases List.mem_append.mp h with h | h
    · have := W.tgt e h
      omega
    · have := W2.tgt e h
      omega
  letr := fun e h => (List.mem_append.mp h).elim (W.letr e) (W2.letr e)
  one := by rw [ones_append]; have := W.one; have := W2.one; omega
  at' := by
    have h1 := W.le
    rcases W2.at' with z | z
    · rw [z]
      exact W.at'
    · exact .inr (by omega)
  snd := fun A => by
    obtain ⟨A1, e1, k1, g1⟩ := W.snd A
    obtain ⟨A2, e2, k2, g2⟩ := W2.snd A1
    have h1 := W.le
    refine ⟨A2, fun x hx => (e2 x (by omega)).trans (e1 x hx), (k1.congr fun x hx => ⟨e2 _ ?_, e2 _ (W.tgt x hx).2⟩).append k2, fun w hw => ?_⟩
    · rcases W.src x hx with z | z
      · rw [z]
        omega
      · exact z.2
    · obtain ⟨u, v, rfl, hu, hv⟩ := g2 w hw
      obtain ⟨u1, u2, rfl, h3, h4⟩ := g1 u hu
      exact ⟨u1, u2 ++ v, by rw [List.append_assoc], h3, u2, v, rfl, h4, hv⟩
  cmp := fun E'' he u v hr hv => by
    obtain ⟨v1, v2, rfl, h1, h2⟩ := hv
    rw [← List.append_assoc]
    exact W2.cmp E'' (fun e h => he e (List.mem_append_right _ h)) _ _ (W.cmp E'' (fun e h => he e (List.mem_append_left _ h)) _ _ hr h1) h2
/-- one more of several: they all come to node c -/
theorem Wired.more {G2 : Word → Prop} {wt2 nb2 l2 c2 : Nat} {N2 : List Edge} (hb : b < c) (W : Wired k G wt nb b c c c' N) (hc : ∀ e, e ∈ N → e.1 ≠ c) (W2 : Wired k G2 wt2 nb2 b c' l2 c2 N2) :
    Wired k (fun w => G w ∨ G2 w) (wt + wt2) (nb + (nb2 + 1)) b c c c2 (N ++ (N2 ++ [(l2, [], c)])) ∧ ∀ e, e ∈ N ++ (N2 ++ [(l2, [], c)]) → e.1 ≠ c := by
  have h1 := W.le
  have h2 := W2.le
  have h3 := W.lt
  have hl2 : l2 ≠ c := by
    rcases W2.at' with z | z <;> omega
  have hN2 : ∀ e, e ∈ N2 → e.1 ≠ c := fun e h => by
    rcases W2.src e h with z | z <;> omega
  refine ⟨{ le := by omega, lt := by omega, cb := by have := W.cb; have := W2.cb; omega, eb := ?_, src := fun e h => ?_, tgt := fun e h => ?_, letr := fun e h => ?_, one := ?_, at' := .inr (Nat.le_refl _), snd := fun A => ?_, cmp := fun E'' he u v hr hv => ?_ }, fun e h => ?_⟩
  · have := W.eb
    have := W2.eb
    rw [List.length_append, List.length_append]
    show N.length + (N2.length + 1) ≤ _
    omega
  · rcases List.mem_append.mp h with h | h
    · rcases W.src e h with z | z
      · exact .inl z
      · exact .inr ⟨z.1, by omega⟩
    · rcases List.mem_append.mp h with h | h
      · rcases W2.src e h with z | z
        · exact .inl z
        · exact .inr ⟨by omega, z.2⟩
      · rw [List.mem_singleton.mp h]
        rcases W2.at' with z | z
        · exact .inl z
        · have := W2.lt
          exact .inr ⟨by show c ≤ l2; omega, this⟩
  · rcases List.mem_append.mp h with h | h
    · have := W.tgt e h
      omega
    · rcases List.mem_append.mp h with h | h
      · have := W2.tgt e h
        omega
      · rw [List.mem_singleton.mp h]
        exact ⟨Nat.le_refl _, by show c < c2; omega⟩
  · rcases List.mem_append.mp h with h | h
    · exact W.letr e h
    · rcases List.mem_append.mp h with h | h
      · exact W2.letr e h
      · rw [List.mem_singleton.mp h]
        exact ⟨fun x hx => by simp at hx, Nat.zero_le _⟩
  · rw [ones_append, ones_append]
    have := W.one
    have := W2.one
    have : ones [(l2, ([] : List Nat), c)] = 0 := rfl
    omega
  · obtain ⟨A1, e1, k1, g1⟩ := W.snd A
    obtain ⟨A2, e2, k2, g2⟩ := W2.snd A1
    refine ⟨setL A2 c fun w => A2 c w ∨ A2 l2 w, fun x hx => ?_, ?_, fun w hw => ?_⟩
    · rw [setL_ne (by omega), e2 x (by omega), e1 x hx]
    · refine Clo.append ?_ (Clo.append ?_ ?_)
      · intro e he
        have hs := hc e he
        have hsl : e.1 < c' := by
          rcases W.src e he with z | z
          · rw [z]; omega
          · exact z.2
        have ht := (W.tgt e he).2
        have q := k1 e he
        have up : ∀ w, A2 e.2.2 w → setL A2 c (fun w => A2 c w ∨ A2 l2 w) e.2.2 w := fun w hw => by
          by_cases z : e.2.2 = c
          · rw [z] at hw ⊢
            rw [setL_eq]
            exact .inl hw
          · rwa [setL_ne z]
        refine ⟨fun z w hw => ?_, fun a ha w hw => ?_⟩
        · rw [setL_ne hs, e2 _ hsl] at hw
          refine up w ?_
          rw [e2 _ ht]
          exact q.1 z w hw
        · rw [setL_ne hs, e2 _ hsl] at hw
          refine up (w ++ [a]) ?_
          rw [e2 _ ht]
          exact q.2 a ha w hw
      · exact k2.congr fun x hx => ⟨setL_ne (hN2 x hx), setL_ne (by have := (W2.tgt x hx).1; omega)⟩
      · intro e he
        rw [List.mem_singleton.mp he]
        refine ⟨fun _ w hw => ?_, fun a ha => by simp at ha⟩
        show setL A2 c (fun w => A2 c w ∨ A2 l2 w) c w
        have hw : setL A2 c (fun w => A2 c w ∨ A2 l2 w) l2 w := hw
        rw [setL_ne hl2] at hw
        rw [setL_eq]
        exact .inr hw
    · rw [setL_eq] at hw
      rcases hw with hw | hw
      · rw [e2 c (by omega)] at hw
        obtain ⟨u, v, rfl, hu, hv⟩ := g1 w hw
        exact ⟨u, v, rfl, hu, .inl hv⟩
      · obtain ⟨u, v, rfl, hu, hv⟩ := g2 w hw
        rw [e1 b hb] at hu
        exact ⟨u, v, rfl, hu, .inr hv⟩
  · rcases hv with hv | hv
    · exact W.cmp E'' (fun e h => he e (List.mem_append_left _ h)) u v hr hv
    · exact .eps (he _ (List.mem_append_right _ (List.mem_append_right _ (List.mem_singleton.mpr rfl)))) (W2.cmp E'' (fun e h => he e (List.mem_append_right _ (List.mem_append_left _ h))) u v hr hv)
  · rcases List.mem_append.mp h with h | h
    · exact hc e h
    · rcases List.mem_append.mp h with h | h
      · exact hN2 e h
      · rw [List.mem_singleton.mp h]
        exact hl2
end
end Own
namespace Own
/-- an edge by nothing to a new node -/
theorem Wired.epsE {k b c : Nat} (hb : b < c) : Wired k (· = []) 0 1 b c c (c + 1) [(b, [], c)] :=
  let W := (Wired.emp (k := k) hb).congr (G' := (· = [])) fun w => by unfold L; exact Iff.rfl
  { W with one := Nat.le_refl _ }
theorem cat_nil {A : Word → Prop} {w : Word} : Cat A (· = []) w ↔ A w := by
  constructor
  · rintro ⟨u, v, rfl, h, rfl⟩
    rwa [List.append_nil]
  · intro h
    exact ⟨w, [], by simp, h, rfl⟩
theorem pow_split {A : Word → Prop} {m : Nat} : ∀ {n : Nat} {w : Word}, Pow A (m + n) w ↔ Cat (Pow A m) (Pow A n) w
  | 0, w => cat_nil.symm
  | n + 1, w => by
    constructor
    · rintro ⟨u, v, rfl, h1, h2⟩
      obtain ⟨u1, u2, rfl, h3, h4⟩ := pow_split.mp h1
      exact ⟨u1, u2 ++ v, by rw [List.append_assoc], h3, u2, v, rfl, h4, h2⟩
    · rintro ⟨u, v, rfl, h1, v1, v2, rfl, h2, h3⟩
      exact ⟨u ++ v1, v2, by rw [List.append_assoc], pow_split.mpr ⟨u, v1, rfl, h1, h2⟩, h3⟩
def Star (A : Word → Prop) (w : Word) : Prop := ∃ n, Pow A n w
/-- two nodes at once: where the last turn stands, and where all turns lead -/
structure Turns (k : Nat) (Gc Gl : Word → Prop) (wt nb b c cur late c' : Nat) (N : List Edge) : Prop where
  le : c ≤ c'
  ltc : cur < c'
  lt : late < c'
  cb : c' ≤ c + nb
  eb : N.length ≤ nb
  src : ∀ e, e ∈ N → e.1 = b ∨ (c ≤ e.1 ∧ e.1 < c')
  tgt : ∀ e, e ∈ N → c ≤ e.2.2 ∧ e.2.2 < c'
  letr : ∀ e, e ∈ N → Wd k e.2.1 ∧ e.2.1.length ≤ 3
  one : ones N ≤ wt
  atc : c ≤ cur
  atl : c ≤ late
  ne : cur ≠ late
  no : ∀ e, e ∈ N → e.1 ≠ late
  snd : ∀ A : Nat → Word → Prop, ∃ A' : Nat → Word → Prop, (∀ x, x < c → A' x = A x) ∧ Clo A' N ∧ (∀ w, A' cur w → Cat (A b) Gc w) ∧ ∀ w, A' late w → Cat (A b) Gl w
  cmpc : ∀ E'' : List Edge, (∀ e, e ∈ N → e ∈ E'') → ∀ u v, Reach E'' b u → Gc v → Reach E'' cur (u ++ v)
  cmp : ∀ E'' : List Edge, (∀ e, e ∈ N → e ∈ E'') → ∀ u v, Reach E'' b u → Gl v → Reach E'' late (u ++ v)
section
variable {k wt nb b c late c' cur : Nat} {G Gc Gl : Word → Prop} {N : List Edge}
theorem Turns.congr {G1 G2 : Word → Prop} (W : Turns k Gc Gl wt nb b c cur late c' N) (e1 : ∀ w, Gc w ↔ G1 w) (e2 : ∀ w, Gl w ↔ G2 w) : Turns k G1 G2 wt nb b c cur late c' N := by
  have z1 : Gc = G1 := funext fun w => propext (e1 w)
  have z2 : Gl = G2 := funext fun w => propext (e2 w)
  rw [← z1, ← z2]
  exact W
theorem Turns.wired (W : Turns k Gc Gl wt nb b c cur late c' N) : Wired k Gl wt nb b c late c' N where
  le := W.le
  lt := W.lt
  cb := W.cb
  eb := W.eb
  src := W.src
  tgt := W.tgt
  letr := W.letr
  one := W.one
  at' := .inr W.atl
  snd := fun A => let ⟨A', h1, h2, _, h4⟩ := W.snd A; ⟨A', h1, h2, h4⟩
  cmp := W.cmp
/-- the hub and the end behind what was wired -/
theorem Turns.start (hb : b < c) (W : Wired k G wt nb b c late c' N) : Turns k G G wt (nb + 2) b c c' (c' + 1) (c' + 2) (N ++ ([(late, [], c')] ++ [(c', [], c' + 1)])) := by
  have h1 := W.le
  have h2 := W.lt
  have W2 := W.seq hb (Wired.epsE W.lt)
  have W3 := W2.seq hb (Wired.epsE (Nat.lt_succ_self c'))
  rw [List.append_assoc] at W3
  refine { le := by omega, ltc := by omega, lt := by omega, cb := by have := W.cb; omega, eb := W3.eb, src := W3.src, tgt := W3.tgt, letr := W3.letr, one := W3.one, atc := h1, atl := by omega, ne := by omega, no := fun e h => ?_, snd := fun A => ?_, cmpc := fun E'' he u v hr hv => ?_, cmp := fun E'' he u v hr hv => ?_ }
  · rcases List.mem_append.mp h with h | h
    · rcases W.src e h with z | z <;> omega
    · rcases List.mem_append.mp h with h | h
      · rw [List.mem_singleton.mp h]
        show late ≠ c' + 1
        omega
      · rw [List.mem_singleton.mp h]
        show c' ≠ c' + 1
        omega
  · obtain ⟨A1, e1, k1, g1⟩ := W.snd A
    refine ⟨setL (setL A1 c' (A1 late)) (c' + 1) (A1 late), fun x hx => ?_, ?_, fun w hw => ?_, fun w hw => ?_⟩
    · rw [setL_ne (by omega), setL_ne (by omega), e1 x hx]
    · refine Clo.append (k1.congr fun x hx => ⟨?_, ?_⟩) (Clo.append ?_ ?_)
      · have : x.1 < c' := by
          rcases W.src x hx with z | z
          · rw [z]; omega
          · exact z.2
        rw [setL_ne (by omega), setL_ne (by omega)]
      · have := (W.tgt x hx).2
        rw [setL_ne (by omega), setL_ne (by omega)]
      · intro e he
        rw [List.mem_singleton.mp he]
        refine ⟨fun _ w hw => ?_, fun a ha => by simp at ha⟩
        show setL (setL A1 c' (A1 late)) (c' + 1) (A1 late) c' w
        have hw : setL (setL A1 c' (A1 late)) (c' + 1) (A1 late) late w := hw
        rw [setL_ne (by omega), setL_ne (by omega)] at hw
        rw [setL_ne (by omega), setL_eq]
        exact hw
      · intro e he
        rw [List.mem_singleton.mp he]
        refine ⟨fun _ w hw => ?_, fun a ha => by simp at ha⟩
        show setL (setL A1 c' (A1 late)) (c' + 1) (A1 late) (c' + 1) w
        have hw : setL (setL A1 c' (A1 late)) (c' + 1) (A1 late) c' w := hw
        rw [setL_ne (by omega), setL_eq] at hw
        rw [setL_eq]
        exact hw
    · rw [setL_ne (by omega), setL_eq] at hw
      exact g1 w hw
    · rw [setL_eq] at hw
      exact g1 w hw
  · exact .eps (he _ (List.mem_append_right _ (List.mem_append_left _ (List.mem_singleton.mpr rfl)))) (W.cmp E'' (fun e h => he e (List.mem_append_left _ h)) u v hr hv)
  · exact .eps (he _ (List.mem_append_right _ (List.mem_append_right _ (List.mem_singleton.mpr rfl)))) (.eps (he _ (List.mem_append_right _ (List.mem_append_left _ (List.mem_singleton.mpr rfl)))) (W.cmp E'' (fun e h => he e (List.mem_append_left _ h)) u v hr hv))
/-- one more turn -/
theorem Turns.more {G2 : Word → Prop} {wt2 nb2 x c2 : Nat} {N2 : List Edge} (hb : b < c) (W : Turns k Gc Gl wt nb b c cur late c' N) (W2 : Wired k G2 wt2 nb2 cur c' x c2 N2) :
    Turns k (Cat Gc G2) (fun w => Gl w ∨ Cat Gc G2 w) (wt + wt2) (nb + (nb2 + 1)) b c x late c2 (N ++ (N2 ++ [(x, [], late)])) := by
  have h1 := W.le
  have h2 := W2.le
  have h3 := W.lt
  have h4 := W.ltc
  have h5 := W.atc
  have h6 := W.atl
  have h7 := W.ne
  have hx : x ≠ late := by
    rcases W2.at' with z | z <;> omega
  have hxc : c ≤ x := by
    rcases W2.at' with z | z <;> omega
  have hN2 : ∀ e, e ∈ N2 → e.1 ≠ late := fun e h => by
    rcases W2.src e h with z | z <;> omega
  refine { le := by omega, ltc := W2.lt, lt := by omega, cb := by have := W.cb; have := W2.cb; omega, eb := ?_, src := fun e h => ?_, tgt := fun e h => ?_, letr := fun e h => ?_, one := ?_, atc := hxc, atl := h6, ne := hx, no := fun e h => ?_, snd := fun A => ?_, cmpc := fun E'' he u v hr hv => ?_, cmp := fun E'' he u v hr hv => ?_ }
  · have := W.eb
    have := W2.eb
    rw [List.length_append, List.length_append]
    show N.length + (N2.length + 1) ≤ _
    omega
  · rcases List.mem_append.mp h with h | h
    · rcases W.src e h with z | z
      · exact .inl z
      · exact .inr ⟨z.1, by omega⟩
    · rcases List.mem_append.mp h with h | h
      · rcases W2.src e h with z | z
        · exact .inr ⟨by omega, by omega⟩
        · exact .inr ⟨by omega, z.2⟩
      · rw [List.mem_singleton.mp h]
        exact .inr ⟨hxc, W2.lt⟩
  · rcases List.mem_append.mp h with h | h
    · have := W.tgt e h
      omega
    · rcases List.mem_append.mp h with h | h
      · have := W2.tgt e h
        omega
      · rw [List.mem_singleton.mp h]
        exact ⟨h6, by show late < c2; omega⟩
  · rcases List.mem_append.mp h with h | h
    · exact W.letr e h
    · rcases List.mem_append.mp h with h | h
      · exact W2.letr e h
      · rw [List.mem_singleton.mp h]
        exact ⟨fun x hx => by simp at hx, Nat.zero_le _⟩
  · rw [ones_append, ones_append]
    have := W.one
    have := W2.one
    have : ones [(x, ([] : List Nat), late)] = 0 := rfl
    omega
  · rcases List.mem_append.mp h with h | h
    · exact W.no e h
    · rcases List.mem_append.mp h with h | h
      · exact hN2 e h
      · rw [List.mem_singleton.mp h]
        exact hx
  · obtain ⟨A1, e1, k1, gc, gl⟩ := W.snd A
    obtain ⟨A2, e2, k2, g2⟩ := W2.snd A1
    have gx : ∀ w, A2 x w → Cat (A b) (Cat Gc G2) w := fun w hw => by
      obtain ⟨u, v, rfl, hu, hv⟩ := g2 w hw
      obtain ⟨u1, u2, rfl, q1, q2⟩ := gc u hu
      exact ⟨u1, u2 ++ v, by rw [List.append_assoc], q1, u2, v, rfl, q2, hv⟩
    refine ⟨setL A2 late fun w => A2 late w ∨ A2 x w, fun y hy => ?_, ?_, fun w hw => ?_, fun w hw => ?_⟩
    · rw [setL_ne (by omega), e2 y (by omega), e1 y hy]
    · refine Clo.append ?_ (Clo.append ?_ ?_)
      · intro e he
        have hs := W.no e he
        have hsl : e.1 < c' := by
          rcases W.src e he with z | z
          · rw [z]; omega
          · exact z.2
        have ht := (W.tgt e he).2
        have q := k1 e he
        have up : ∀ w, A2 e.2.2 w → setL A2 late (fun w => A2 late w ∨ A2 x w) e.2.2 w := fun w hw => by
          by_cases z : e.2.2 = late
          · rw [z] at hw ⊢
            rw [setL_eq]
            exact .inl hw
          · rwa [setL_ne z]
        refine ⟨fun z w hw => ?_, fun a ha w hw => ?_⟩
        · rw [setL_ne hs, e2 _ hsl] at hw
          refine up w ?_
          rw [e2 _ ht]
          exact q.1 z w hw
        · rw [setL_ne hs, e2 _ hsl] at hw
          refine up (w ++ [a]) ?_
          rw [e2 _ ht]
          exact q.2 a ha w hw
      · exact k2.congr fun y hy => ⟨setL_ne (hN2 y hy), setL_ne (by have := (W2.tgt y hy).1; omega)⟩
      · intro e he
        rw [List.mem_singleton.mp he]
        refine ⟨fun _ w hw => ?_, fun a ha => by simp at ha⟩
        show setL A2 late (fun w => A2 late w ∨ A2 x w) late w
        have hw : setL A2 late (fun w => A2 late w ∨ A2 x w) x w := hw
        rw [setL_ne hx] at hw
        rw [setL_eq]
        exact .inr hw
    · rw [setL_ne hx] at hw
      exact gx w hw
    · rw [setL_eq] at hw
      rcases hw with hw | hw
      · rw [e2 late h3] at hw
        obtain ⟨u, v, rfl, hu, hv⟩ := gl w hw
        exact ⟨u, v, rfl, hu, .inl hv⟩
      · obtain ⟨u, v, rfl, hu, hv⟩ := gx w hw
        exact ⟨u, v, rfl, hu, .inr hv⟩
  · obtain ⟨v1, v2, rfl, q1, q2⟩ := hv
    rw [← List.append_assoc]
    exact W2.cmp E'' (fun e h => he e (List.mem_append_right _ (List.mem_append_left _ h))) _ _ (W.cmpc E'' (fun e h => he e (List.mem_append_left _ h)) u v1 hr q1) q2
  · rcases hv with hv | hv
    · exact W.cmp E'' (fun e h => he e (List.mem_append_left _ h)) u v hr hv
    · obtain ⟨v1, v2, rfl, q1, q2⟩ := hv
      refine .eps (he _ (List.mem_append_right _ (List.mem_append_right _ (List.mem_singleton.mpr rfl)))) ?_
      rw [← List.append_assoc]
      exact W2.cmp E'' (fun e h => he e (List.mem_append_right _ (List.mem_append_left _ h))) _ _ (W.cmpc E'' (fun e h => he e (List.mem_append_left _ h)) u v1 hr q1) q2
/-- without an end: back to the hub -/
theorem Wired.star {G2 : Word → Prop} {wt2 nb2 x c2 : Nat} {N2 : List Edge} (hb : b < c) (W : Wired k G wt nb b c late c' N) (W2 : Wired k G2 wt2 nb2 c' (c' + 2) x c2 N2) :
    Wired k (Cat G (Star G2)) (wt + wt2) (nb + 2 + (nb2 + 1)) b c (c' + 1) c2 ((N ++ ([(late, [], c')] ++ [(c', [], c' + 1)])) ++ (N2 ++ [(x, [], c')])) := by
  have T := Turns.start hb W
  have h1 := W.le
  have h2 := W2.le
  have h3 := W.lt
  have hxc : c ≤ x := by
    rcases W2.at' with z | z <;> omega
  refine { le := by omega, lt := by omega, cb := by have := W.cb; have := W2.cb; omega, eb := ?_, src := fun e h => ?_, tgt := fun e h => ?_, letr := fun e h => ?_, one := ?_, at' := .inr (by omega), snd := fun A => ?_, cmp := fun E'' he u v hr hv => ?_ }
  · have := T.eb
    have := W2.eb
    rw [List.length_append, List.length_append (as := N2)]
    show _ + (N2.length + 1) ≤ _
    omega
  · rcases List.mem_append.mp h with h | h
    · rcases T.src e h with z | z
      · exact .inl z
      · exact .inr ⟨z.1, by omega⟩
    · rcases List.mem_append.mp h with h | h
      · rcases W2.src e h with z | z
        · exact .inr ⟨by omega, by omega⟩
        · exact .inr ⟨by omega, z.2⟩
      · rw [List.mem_singleton.mp h]
        exact .inr ⟨hxc, W2.lt⟩
  · rcases List.mem_append.mp h with h | h
    · have := T.tgt e h
      omega
    · rcases List.mem_append.mp h with h | h
      · have := W2.tgt e h
        omega
      · rw [List.mem_singleton.mp h]
        exact ⟨h1, by show c' < c2; omega⟩
  · rcases List.mem_append.mp h with h | h
    · exact T.letr e h
    · rcases List.mem_append.mp h with h | h
      · exact W2.letr e h
      · rw [List.mem_singleton.mp h]
        exact ⟨fun x hx => by simp at hx, Nat.zero_le _⟩
  · rw [ones_append, ones_append N2]
    have := T.one
    have := W2.one
    have : ones [(x, ([] : List Nat), c')] = 0 := rfl
    omega
  · obtain ⟨A1, e1, k1, g1⟩ := W.snd A
    obtain ⟨A3, e3, k3, g3⟩ := W2.snd (setL (setL A1 c' (Cat (A1 late) (Star G2))) (c' + 1) (Cat (A1 late) (Star G2)))
    have ah : A3 c' = Cat (A1 late) (Star G2) := by
      rw [e3 c' (by omega), setL_ne (by omega), setL_eq]
    have al : A3 (c' + 1) = Cat (A1 late) (Star G2) := by
      rw [e3 (c' + 1) (by omega), setL_eq]
    have ao : ∀ y, y < c' → A3 y = A1 y := fun y hy => by
      rw [e3 y (by omega), setL_ne (by omega), setL_ne (by omega)]
    refine ⟨A3, fun y hy => ?_, ?_, fun w hw => ?_⟩
    · rw [ao y (by omega), e1 y hy]
    · refine Clo.append (Clo.append (k1.congr fun y hy => ⟨ao _ ?_, ao _ (W.tgt y hy).2⟩) (Clo.append ?_ ?_)) (Clo.append k3 ?_)
      · rcases W.src y hy with z | z
        · rw [z]; omega
        · exact z.2
      · intro e he
        rw [List.mem_singleton.mp he]
        refine ⟨fun _ w hw => ?_, fun a ha => by simp at ha⟩
        show A3 c' w
        have hw : A3 late w := hw
        rw [ao late h3] at hw
        rw [ah]
        exact ⟨w, [], by simp, hw, 0, rfl⟩
      · intro e he
        rw [List.mem_singleton.mp he]
        refine ⟨fun _ w hw => ?_, fun a ha => by simp at ha⟩
        show A3 (c' + 1) w
        have hw : A3 c' w := hw
        rw [al, ← ah]
        exact hw
      · intro e he
        rw [List.mem_singleton.mp he]
        refine ⟨fun _ w hw => ?_, fun a ha => by simp at ha⟩
        show A3 c' w
        have hw : A3 x w := hw
        obtain ⟨u, v, rfl, hu, hv⟩ := g3 w hw
        have hu : setL (setL A1 c' (Cat (A1 late) (Star G2))) (c' + 1) (Cat (A1 late) (Star G2)) c' u := hu
        rw [setL_ne (by omega), setL_eq] at hu
        obtain ⟨u1, u2, rfl, q1, n, q2⟩ := hu
        rw [ah]
        exact ⟨u1, u2 ++ v, by rw [List.append_assoc], q1, n + 1, u2, v, rfl, q2, hv⟩
    · rw [al] at hw
      obtain ⟨u, v, rfl, hu, hv⟩ := hw
      obtain ⟨u1, u2, rfl, q1, q2⟩ := g1 u hu
      exact ⟨u1, u2 ++ v, by rw [List.append_assoc], q1, u2, v, rfl, q2, hv⟩
  · obtain ⟨v1, v2, rfl, q1, n, q2⟩ := hv
    have r1 : Reach E'' c' (u ++ v1) := T.cmpc E'' (fun e h => he e (List.mem_append_left _ h)) u v1 hr q1
    have key : ∀ n v2, Pow G2 n v2 → Reach E'' c' (u ++ v1 ++ v2) := by
      intro n
      induction n with
      | zero =>
        intro v2 h
        have h : v2 = [] := h
        rw [h, List.append_nil]
        exact r1
      | succ n ih =>
        rintro v2 ⟨a, d, rfl, q3, q4⟩
        rw [← List.append_assoc]
        refine .eps (he _ (List.mem_append_right _ (List.mem_append_right _ (List.mem_singleton.mpr rfl)))) ?_
        exact W2.cmp E'' (fun e h => he e (List.mem_append_right _ (List.mem_append_left _ h))) _ _ (ih a q3) q4
    rw [← List.append_assoc]
    exact .eps (he _ (List.mem_append_left _ (List.mem_append_right _ (List.mem_append_right _ (List.mem_singleton.mpr rfl))))) (key n v2 q2)
end
end Own
namespace Own
theorem subset_length {α : Type} [DecidableEq α] : ∀ {l m : List α}, l.Nodup → (∀ x, x ∈ l → x ∈ m) → l.length ≤ m.length
  | [], m, _, _ => Nat.zero_le _
  | a :: l, m, nd, h => by
    obtain ⟨h1, h2⟩ := List.nodup_cons.mp nd
    have ha := h a List.mem_cons_self
    have ih := subset_length (l := l) (m := m.erase a) h2 fun x hx => by
      have hne : x ≠ a := fun e => h1 (e ▸ hx)
      exact (List.mem_erase_of_ne hne).mpr (h x (List.mem_cons_of_mem _ hx))
    rw [List.length_erase_of_mem ha] at ih
    have := List.length_pos_of_mem ha
    rw [List.length_cons]
    omega
/-- the numbers of the kinds of things, in the order of their first ones -/
structure Clsf {α : Type} (Ts : List α) (R : List Nat) : Prop where
  len : R.length = Ts.length
  iff : ∀ (i j : Nat) (ti tj : α) (ri rj : Nat), Ts[i]? = some ti → Ts[j]? = some tj → R[i]? = some ri → R[j]? = some rj → (ri = rj ↔ ti = tj)
  onto : ∀ r x, x ∈ R → r ≤ x → r ∈ R
def addF {α : Type} [DecidableEq α] (acc : List α) (t : α) : List α := if t ∈ acc then acc else acc ++ [t]
def firsts {α : Type} [DecidableEq α] (Ts : List α) : List α := Ts.foldl addF []
theorem addF_nodup {α : Type} [DecidableEq α] {acc : List α} (h : acc.Nodup) (t : α) : (addF acc t).Nodup := by
  unfold addF
  split
  · exact h
  · rename_i hn
    exact nodup_snoc h hn
theorem mem_addF {α : Type} [DecidableEq α] {acc : List α} {t x : α} : x ∈ addF acc t ↔ x ∈ acc ∨ x = t := by
  unfold addF
  split
  · rename_i h
    constructor
    · exact .inl
    · rintro (h' | rfl)
      · exact h'
      · exact h
  · rw [List.mem_append, List.mem_singleton]
theorem firsts_snoc {α : Type} [DecidableEq α] (Ts : List α) (t : α) : firsts (Ts ++ [t]) = addF (firsts Ts) t := by
  unfold firsts
  rw [List.foldl_append]
  rfl
theorem foldl_mem {α : Type} [DecidableEq α] : ∀ (Ts acc : List α) (x : α), x ∈ Ts.foldl addF acc ↔ x ∈ acc ∨ x ∈ Ts
  | [], acc, x => by simp
  | t :: Ts, acc, x => by
    rw [List.foldl_cons, foldl_mem Ts, mem_addF, List.mem_cons]
    constructor
    · rintro ((h | h) | h)
      · exact .inl h
      · exact .inr (.inl h)
      · exact .inr (.inr h)
    · rintro (h | h | h)
      · exact .inl (.inl h)
      · exact .inl (.inr h)
      · exact .inr h
theorem foldl_nodup {α : Type} [DecidableEq α] : ∀ (Ts acc : List α), acc.Nodup → (Ts.foldl addF acc).Nodup
  | [], acc, h => h
  | t :: Ts, acc, h => foldl_nodup Ts _ (addF_nodup h t)
theorem mem_firsts {α : Type} [DecidableEq α] {Ts : List α} {x : α} : x ∈ firsts Ts ↔ x ∈ Ts := by
  unfold firsts
  rw [foldl_mem]
  simp
theorem firsts_nodup {α : Type} [DecidableEq α] (Ts : List α) : (firsts Ts).Nodup := foldl_nodup Ts [] List.nodup_nil
def clsOf {α : Type} [DecidableEq α] (Ts : List α) : List Nat := Ts.map fun t => (firsts Ts).idxOf t
theorem clsOf_ok {α : Type} [DecidableEq α] (Ts : List α) : Clsf Ts (clsOf Ts) := by
  refine ⟨List.length_map _, fun i j ti tj ri rj h1 h2 h3 h4 => ?_, fun r x hx hr => ?_⟩
  · unfold clsOf at h3 h4
    rw [List.getElem?_map, h1] at h3
    rw [List.getElem?_map, h2] at h4
    obtain rfl := Option.some.inj h3
    obtain rfl := Option.some.inj h4
    constructor
    · intro e
      have m1 := mem_firsts.mpr (List.mem_of_getElem? h1)
      have m2 := mem_firsts.mpr (List.mem_of_getElem? h2)
      have e1 := List.getElem_idxOf (List.idxOf_lt_length_of_mem m1)
      have e2 := List.getElem_idxOf (List.idxOf_lt_length_of_mem m2)
      rw [← e1, ← e2]
      simp only [e]
    · rintro rfl
      rfl
  · obtain ⟨t, ht, rfl⟩ := List.mem_map.mp hx
    have hl := List.idxOf_lt_length_of_mem (mem_firsts.mpr ht)
    have hrl : r < (firsts Ts).length := by omega
    have hm : (firsts Ts)[r] ∈ Ts := mem_firsts.mp (List.getElem_mem hrl)
    refine List.mem_map.mpr ⟨(firsts Ts)[r], hm, ?_⟩
    exact (firsts_nodup Ts).idxOf_getElem r hrl
/-- a finer sorting with no more kinds is the same sorting -/
theorem same_kinds {α β : Type} {Ts : List α} {Us : List β} {R S : List Nat} (hR : Clsf Ts R) (hS : Clsf Us S) (hl : Us.length = Ts.length) (M : Nat) (m1 : M ∈ R) (m2 : ∀ x, x ∈ R → x ≤ M) (m3 : M ∈ S) (m4 : ∀ x, x ∈ S → x ≤ M)
    (fin : ∀ (i j ri rj si sj : Nat), R[i]? = some ri → R[j]? = some rj → S[i]? = some si → S[j]? = some sj → si = sj → ri = rj) :
    ∀ (i j ri rj si sj : Nat), R[i]? = some ri → R[j]? = some rj → S[i]? = some si → S[j]? = some sj → ri = rj → si = sj := by
  intro i j ri rj si sj h1 h2 h3 h4 e
  refine Classical.byContradiction fun hne => ?_
  have hlen : R.length = S.length := by rw [hR.len, hS.len, hl]
  -- every kind of R is got at a kind of S other than sj
  have cov : ∀ x, x ≤ M → ∃ k, k < S.length ∧ R[k]? = some x ∧ S[k]? ≠ some sj := by
    intro x hx
    obtain ⟨k, hk⟩ := List.getElem?_of_mem (hR.onto x M m1 hx)
    have hkl : k < R.length := (List.getElem?_eq_some_iff.mp hk).1
    by_cases z : S[k]? = some sj
    · have : x = rj := fin k j x rj sj sj hk h2 z h4 rfl
      subst this
      refine ⟨i, ?_, by rw [h1, e], by rw [h3]; exact fun w => hne (Option.some.inj w)⟩
      have := (List.getElem?_eq_some_iff.mp h3).1
      omega
    · exact ⟨k, by omega, hk, z⟩
  -- so the kinds of S other than sj are as many as all of R's
  let f : Nat → Nat := fun s => match (S.idxOf s |> fun k => R[k]?) with | some r => r | none => 0
  have key : ∀ x, x ∈ List.range (M + 1) → x ∈ ((List.range (M + 1)).erase sj).map f := by
    intro x hx
    obtain ⟨k, hk, hr, hs⟩ := cov x (by have := List.mem_range.mp hx; omega)
    have hsk : S[k]? = some S[k] := List.getElem?_eq_getElem hk
    have hmem : S[k] ∈ S := List.getElem_mem hk
    refine List.mem_map.mpr ⟨S[k], (List.mem_erase_of_ne (fun z => hs (by rw [hsk, z]))).mpr (List.mem_range.mpr (by have := m4 _ hmem; omega)), ?_⟩
    have hi := List.idxOf_lt_length_of_mem hmem
    have hg : S[S.idxOf S[k]]? = some S[k] := by rw [List.getElem?_eq_getElem hi, List.getElem_idxOf hi]
    have hrl : S.idxOf S[k] < R.length := by omega
    have hr2 : R[S.idxOf S[k]]? = some R[S.idxOf S[k]] := List.getElem?_eq_getElem hrl
    have := fin _ _ _ _ _ _ hr2 hr hg hsk rfl
    show (match R[S.idxOf S[k]]? with | some r => r | none => 0) = x
    rw [hr2]
    exact this
  have hle := subset_length List.nodup_range key
  have hsj : sj ≤ M := m4 sj (List.mem_of_getElem? h4)
  rw [List.length_map, List.length_erase_of_mem (List.mem_range.mpr (by omega)), List.length_range] at hle
  omega
end Own
namespace Own
/-- a table before it is lessened -/
structure BOk (T : Tab) (k n : Nat) : Prop where
  k1 : 1 ≤ k
  k3 : k ≤ 3
  n1 : 1 ≤ n
  n40 : n ≤ 40
  rl : T.rows.length = n
  el : T.ends.length = n
  row : ∀ r, r ∈ T.rows → r.length = k ∧ ∀ x, x ∈ r → x < n
def kd (R : List Nat) (s : Nat) : Nat := R.getD s 0
theorem kd_get {R : List Nat} {s : Nat} (h : s < R.length) : R[s]? = some (kd R s) := by
  unfold kd
  rw [List.getD_eq_getElem?_getD, List.getElem?_eq_getElem h, Option.getD_some]
section
variable {B : Tab} {k N : Nat}
theorem BOk.rowget (O : BOk B k N) {s : Nat} (hs : s < N) : (B.rows.getD s []).length = k ∧ B.rows[s]? = some (B.rows.getD s []) := by
  have h1 : s < B.rows.length := by rw [O.rl]; exact hs
  have e1 : B.rows.getD s [] = B.rows[s] := by rw [List.getD_eq_getElem?_getD, List.getElem?_eq_getElem h1, Option.getD_some]
  rw [e1]
  exact ⟨(O.row _ (List.getElem_mem h1)).1, List.getElem?_eq_getElem h1⟩
theorem BOk.stget (O : BOk B k N) {s l : Nat} (hs : s < N) (hl : l < k) : (B.rows.getD s [])[l]? = some (B.st s l) := by
  have h := (O.rowget hs).1
  have h2 : l < (B.rows.getD s []).length := by omega
  unfold Tab.st
  rw [List.getD_eq_getElem?_getD (l := B.rows.getD s []), List.getElem?_eq_getElem h2, Option.getD_some]
theorem BOk.st_lt (O : BOk B k N) {s l : Nat} (hs : s < N) (hl : l < k) : B.st s l < N := by
  have h1 : s < B.rows.length := by rw [O.rl]; exact hs
  have h := O.stget hs hl
  have e1 : B.rows.getD s [] = B.rows[s] := by rw [List.getD_eq_getElem?_getD, List.getElem?_eq_getElem h1, Option.getD_some]
  exact (O.row _ (List.getElem_mem h1)).2 _ (by rw [← e1]; exact List.mem_of_getElem? h)
/-- what holds of the kinds while they are made finer -/
structure Kinds (B : Tab) (N : Nat) (R : List Nat) : Prop where
  cl : ∃ (α : Type) (Ts : List α), Ts.length = N ∧ Clsf Ts R
  fin : ∀ i j, i < N → j < N → kd R i = kd R j → B.fin i = B.fin j
  dis : ∀ k, BOk B k N → ∀ i j, i < N → j < N → kd R i ≠ kd R j → ∃ w, Wd k w ∧ B.acc i w ≠ B.acc j w
theorem Kinds.len {R : List Nat} (h : Kinds B N R) : R.length = N := by
  obtain ⟨α, Ts, h1, h2⟩ := h.cl
  rw [h2.len, h1]
/-- the pairs by which the kinds are made finer -/
def pairsOf (B : Tab) (N : Nat) (R : List Nat) : List (Nat × List Nat) := (List.range N).map fun i => (kd R i, (B.rows.getD i []).map (kd R))
theorem Kinds.first (O : BOk B k N) : Kinds B N (clsOf B.ends) := by
  have C := clsOf_ok B.ends
  refine ⟨⟨Bool, B.ends, O.el, clsOf_ok _⟩, fun i j hi hj e => ?_, fun k' _ i j hi hj hne => ⟨[], (fun _ h => by simp at h), fun e => hne ?_⟩⟩
  rotate_left
  · have hl : (clsOf B.ends).length = N := by rw [C.len, O.el]
    have h1 : i < B.ends.length := by rw [O.el]; exact hi
    have h2 : j < B.ends.length := by rw [O.el]; exact hj
    refine (C.iff i j _ _ _ _ (List.getElem?_eq_getElem h1) (List.getElem?_eq_getElem h2) (kd_get (by omega)) (kd_get (by omega))).mpr ?_
    have e : B.fin i = B.fin j := e
    unfold Tab.fin at e
    rw [List.getD_eq_getElem?_getD, List.getElem?_eq_getElem h1, Option.getD_some, List.getD_eq_getElem?_getD, List.getElem?_eq_getElem h2, Option.getD_some] at e
    exact e
  have hl : (clsOf B.ends).length = N := by rw [C.len, O.el]
  have h1 : i < B.ends.length := by rw [O.el]; exact hi
  have h2 : j < B.ends.length := by rw [O.el]; exact hj
  have := (C.iff i j _ _ _ _ (List.getElem?_eq_getElem h1) (List.getElem?_eq_getElem h2) (kd_get (by omega)) (kd_get (by omega))).mp e
  unfold Tab.fin
  rw [List.getD_eq_getElem?_getD, List.getElem?_eq_getElem h1, Option.getD_some, List.getD_eq_getElem?_getD, List.getElem?_eq_getElem h2, Option.getD_some]
  exact this
theorem finer_iff (O : BOk B k N) {R : List Nat} {i j : Nat} (hi : i < N) (hj : j < N) : kd (clsOf (pairsOf B N R)) i = kd (clsOf (pairsOf B N R)) j ↔ kd R i = kd R j ∧ ∀ l, l < k → kd R (B.st i l) = kd R (B.st j l) := by
  have C := clsOf_ok (pairsOf B N R)
  have hp : (pairsOf B N R).length = N := by unfold pairsOf; rw [List.length_map, List.length_range]
  have hl : (clsOf (pairsOf B N R)).length = N := by rw [C.len, hp]
  have g : ∀ i, i < N → (pairsOf B N R)[i]? = some (kd R i, (B.rows.getD i []).map (kd R)) := fun i hi => by
    unfold pairsOf
    rw [List.getElem?_map, List.getElem?_range hi]
    rfl
  rw [C.iff i j _ _ _ _ (g i hi) (g j hj) (kd_get (by omega)) (kd_get (by omega)), Prod.mk.injEq]
  refine and_congr Iff.rfl ?_
  constructor
  · intro e l hl
    have h1 := congrArg (·[l]?) e
    simp only [List.getElem?_map, O.stget hi hl, O.stget hj hl, Option.map_some] at h1
    exact Option.some.inj h1
  · intro h
    apply List.ext_getElem?
    intro l
    by_cases hl : l < k
    · rw [List.getElem?_map, List.getElem?_map, O.stget hi hl, O.stget hj hl, Option.map_some, Option.map_some, h l hl]
    · rw [List.getElem?_eq_none (by rw [List.length_map, (O.rowget hi).1]; omega), List.getElem?_eq_none (by rw [List.length_map, (O.rowget hj).1]; omega)]
theorem Kinds.next (O : BOk B k N) {R : List Nat} (h : Kinds B N R) : Kinds B N (clsOf (pairsOf B N R)) :=
  ⟨⟨Nat × List Nat, pairsOf B N R, by unfold pairsOf; rw [List.length_map, List.length_range], clsOf_ok _⟩, fun i j hi hj e => h.fin i j hi hj ((finer_iff O hi hj).mp e).1, fun k' O' i j hi hj hne => by
    by_cases e1 : kd R i = kd R j
    · have : ¬ ∀ l, l < k' → kd R (B.st i l) = kd R (B.st j l) := fun a => hne ((finer_iff O' hi hj).mpr ⟨e1, a⟩)
      obtain ⟨l, hl⟩ := Classical.not_forall.mp this
      obtain ⟨hlk, hd⟩ := Classical.not_imp.mp hl
      obtain ⟨w, hw, hv⟩ := h.dis k' O' _ _ (O'.st_lt hi hlk) (O'.st_lt hj hlk) hd
      exact ⟨l :: w, fun x hx => (List.mem_cons.mp hx).elim (fun z => z ▸ hlk) (hw x), hv⟩
    · exact h.dis k' O' i j hi hj e1⟩
/-- where the finer kinds are no more, the kinds go along letters -/
theorem Kinds.stop (O : BOk B k N) {R : List Nat} (h : Kinds B N R) {M : Nat} (m1 : M ∈ R) (m2 : ∀ x, x ∈ R → x ≤ M) (m3 : M ∈ clsOf (pairsOf B N R)) (m4 : ∀ x, x ∈ clsOf (pairsOf B N R) → x ≤ M) :
    ∀ i j l, i < N → j < N → l < k → kd R i = kd R j → kd R (B.st i l) = kd R (B.st j l) := by
  intro i j l hi hj hl e
  obtain ⟨α, Ts, hT, C⟩ := h.cl
  have C2 := clsOf_ok (pairsOf B N R)
  have hp : (pairsOf B N R).length = N := by unfold pairsOf; rw [List.length_map, List.length_range]
  have hRl : R.length = N := h.len
  have hSl : (clsOf (pairsOf B N R)).length = N := by rw [C2.len, hp]
  have z := same_kinds C C2 (by rw [hp, hT]) M m1 m2 m3 m4 (fun i j ri rj si sj h1 h2 h3 h4 e => by
    have hi : i < N := by
      have := (List.getElem?_eq_some_iff.mp h1).1
      omega
    have hj : j < N := by
      have := (List.getElem?_eq_some_iff.mp h2).1
      omega
    rw [kd_get (by omega)] at h1 h2 h3 h4
    obtain rfl := Option.some.inj h1
    obtain rfl := Option.some.inj h2
    obtain rfl := Option.some.inj h3
    obtain rfl := Option.some.inj h4
    exact ((finer_iff O hi hj).mp e).1) i j _ _ _ _ (kd_get (by omega)) (kd_get (by omega)) (kd_get (by omega)) (kd_get (by omega)) e
  exact ((finer_iff O hi hj).mp z).2 l hl
/-- otherwise they are more -/
theorem Kinds.grow (O : BOk B k N) {R : List Nat} (h : Kinds B N R) {M M' : Nat} (m1 : M ∈ R) (m2 : ∀ x, x ∈ R → x ≤ M) (m3 : M' ∈ clsOf (pairsOf B N R)) (m4 : ∀ x, x ∈ clsOf (pairsOf B N R) → x ≤ M') : M ≤ M' := by
  obtain ⟨α, Ts, hT, C⟩ := h.cl
  have C2 := clsOf_ok (pairsOf B N R)
  have hp : (pairsOf B N R).length = N := by unfold pairsOf; rw [List.length_map, List.length_range]
  have hRl : R.length = N := h.len
  have hSl : (clsOf (pairsOf B N R)).length = N := by rw [C2.len, hp]
  let f : Nat → Nat := fun s => kd R ((clsOf (pairsOf B N R)).idxOf s)
  have key : ∀ x, x ∈ List.range (M + 1) → x ∈ (List.range (M' + 1)).map f := by
    intro x hx
    obtain ⟨i, hi⟩ := List.getElem?_of_mem (C.onto x M m1 (by have := List.mem_range.mp hx; omega))
    have hil : i < N := by
      have := (List.getElem?_eq_some_iff.mp hi).1
      omega
    rw [kd_get (by omega)] at hi
    obtain rfl := Option.some.inj hi
    have hs := kd_get (R := clsOf (pairsOf B N R)) (s := i) (by omega)
    have hm := List.mem_of_getElem? hs
    have hix := List.idxOf_lt_length_of_mem hm
    refine List.mem_map.mpr ⟨kd (clsOf (pairsOf B N R)) i, List.mem_range.mpr (by have := m4 _ hm; omega), ?_⟩
    have hg : (clsOf (pairsOf B N R))[(clsOf (pairsOf B N R)).idxOf (kd (clsOf (pairsOf B N R)) i)]? = some (kd (clsOf (pairsOf B N R)) i) := by rw [List.getElem?_eq_getElem hix, List.getElem_idxOf hix]
    rw [kd_get hix] at hg
    exact ((finer_iff O (by omega) hil).mp (Option.some.inj hg)).1
  have := subset_length List.nodup_range key
  rw [List.length_map, List.length_range, List.length_range] at this
  omega
/-- the order in which one stand of each kind is found -/
structure Order (B : Tab) (k N : Nat) (R : List Nat) (O : List Nat) (c : Nat → Nat → Prop) : Prop where
  z : O[0]? = some 0
  lt : ∀ s, s ∈ O → s < N
  nd : (O.map (kd R)).Nodup
  par : ∀ (i s : Nat), 0 < i → O[i]? = some s → ∃ j t, j < i ∧ O[j]? = some t ∧ ∃ l, l < k ∧ B.st t l = s
  clo : ∀ (i s l : Nat), c i l → O[i]? = some s → kd R (B.st s l) ∈ O.map (kd R)
theorem Order.len {R O : List Nat} {c : Nat → Nat → Prop} (h : Order B k N R O c) : O.length ≤ N := by
  have nd2 : O.Nodup := List.pairwise_map.mp h.nd |>.imp fun h e => h (by rw [e])
  exact nodup_lt_length N nd2 h.lt
/-- the lesser table -/
def lessT (B : Tab) (R O : List Nat) : Tab := ⟨O.map fun s => (B.rows.getD s []).map fun t => (O.map (kd R)).idxOf (kd R t), O.map B.fin⟩
section
variable {R O : List Nat}
theorem lessT_st (OB : BOk B k N) (h : Order B k N R O fun i l => i < O.length ∧ l < k) {i l s : Nat} (hi : O[i]? = some s) (hl : l < k) : (lessT B R O).st i l = (O.map (kd R)).idxOf (kd R (B.st s l)) := by
  have hs := h.lt s (List.mem_of_getElem? hi)
  have e1 : (lessT B R O).rows.getD i [] = (B.rows.getD s []).map fun t => (O.map (kd R)).idxOf (kd R t) := by
    unfold lessT
    rw [List.getD_eq_getElem?_getD, List.getElem?_map, hi]
    rfl
  unfold Tab.st
  rw [e1, List.getD_eq_getElem?_getD, List.getElem?_map]
  have := OB.stget hs hl
  rw [this]
  rfl
theorem lessT_fin {i s : Nat} (hi : O[i]? = some s) : (lessT B R O).fin i = B.fin s := by
  unfold Tab.fin lessT
  rw [List.getD_eq_getElem?_getD, List.getElem?_map, hi]
  rfl
theorem Order.ix (h : Order B k N R O fun i l => i < O.length ∧ l < k) {i l s : Nat} (hi : O[i]? = some s) (hl : l < k) : ∃ s', O[(O.map (kd R)).idxOf (kd R (B.st s l))]? = some s' ∧ kd R s' = kd R (B.st s l) := by
  have hil : i < O.length := (List.getElem?_eq_some_iff.mp hi).1
  have hm := h.clo i s l ⟨hil, hl⟩ hi
  have hix := List.idxOf_lt_length_of_mem hm
  have hg : (O.map (kd R))[(O.map (kd R)).idxOf (kd R (B.st s l))]? = some (kd R (B.st s l)) := by rw [List.getElem?_eq_getElem hix, List.getElem_idxOf hix]
  rw [List.getElem?_map] at hg
  cases e : O[(O.map (kd R)).idxOf (kd R (B.st s l))]? with
  | none =>
    rw [e] at hg
    cases hg
  | some s' =>
    rw [e] at hg
    exact ⟨s', rfl, Option.some.inj hg⟩
theorem lessT_acc (OB : BOk B k N) (hK : Kinds B N R) (hc : ∀ i j l, i < N → j < N → l < k → kd R i = kd R j → kd R (B.st i l) = kd R (B.st j l)) (h : Order B k N R O fun i l => i < O.length ∧ l < k) :
    ∀ (w : Word) (s i t : Nat), Wd k w → s < N → O[i]? = some t → kd R s = kd R t → (lessT B R O).acc i w = B.acc s w
  | [], s, i, t, _, hs, hi, e => by
    show (lessT B R O).fin i = B.fin s
    rw [lessT_fin hi]
    exact (hK.fin s t hs (h.lt t (List.mem_of_getElem? hi)) e).symm
  | l :: w, s, i, t, hw, hs, hi, e => by
    have hl : l < k := hw l List.mem_cons_self
    have ht := h.lt t (List.mem_of_getElem? hi)
    obtain ⟨s', h1, h2⟩ := h.ix hi hl
    have ih := lessT_acc OB hK hc h w (B.st s l) _ s' (fun x hx => hw x (List.mem_cons_of_mem _ hx)) (OB.st_lt hs hl) h1 ((hc s t l hs ht hl e).trans h2.symm)
    show (lessT B R O).acc ((lessT B R O).st i l) w = B.acc (B.st s l) w
    rw [lessT_st OB h hi hl]
    exact ih
theorem lessT_ok (OB : BOk B k N) (h : Order B k N R O fun i l => i < O.length ∧ l < k) : (lessT B R O).Ok k O.length := by
  have hz := (List.getElem?_eq_some_iff.mp h.z).1
  refine ⟨OB.k1, OB.k3, hz, Nat.le_trans h.len OB.n40, List.length_map _, List.length_map _, fun r hr => ?_, fun i h0 hi => ?_⟩
  · obtain ⟨s, hs, rfl⟩ := List.mem_map.mp hr
    have hsN := h.lt s hs
    obtain ⟨i, hi⟩ := List.getElem?_of_mem hs
    refine ⟨by rw [List.length_map]; exact (OB.rowget hsN).1, fun x hx => ?_⟩
    obtain ⟨t, ht, rfl⟩ := List.mem_map.mp hx
    obtain ⟨l, hl⟩ := List.getElem?_of_mem ht
    have hlk : l < k := by
      have := (List.getElem?_eq_some_iff.mp hl).1
      rw [(OB.rowget hsN).1] at this
      exact this
    rw [OB.stget hsN hlk] at hl
    obtain rfl := Option.some.inj hl
    have hil : i < O.length := (List.getElem?_eq_some_iff.mp hi).1
    have := List.idxOf_lt_length_of_mem (h.clo i s l ⟨hil, hlk⟩ hi)
    rwa [List.length_map] at this
  · have hg : O[i]? = some O[i] := List.getElem?_eq_getElem hi
    obtain ⟨j, t, hj, ht, l, hl, e⟩ := h.par i _ h0 hg
    refine ⟨j, hj, l, hl, ?_⟩
    rw [lessT_st OB h ht hl, e]
    have hi2 : i < (O.map (kd R)).length := by rw [List.length_map]; exact hi
    have e2 : (O.map (kd R))[i] = kd R O[i] := List.getElem_map _
    rw [← e2]
    exact h.nd.idxOf_getElem i hi2
theorem lessT_min (OB : BOk B k N) (hK : Kinds B N R) (hc : ∀ i j l, i < N → j < N → l < k → kd R i = kd R j → kd R (B.st i l) = kd R (B.st j l)) (h : Order B k N R O fun i l => i < O.length ∧ l < k) :
    ∀ i j, i < O.length → j < O.length → i ≠ j → ∃ w, Wd k w ∧ (lessT B R O).acc i w ≠ (lessT B R O).acc j w := by
  intro i j hi hj hne
  have gi : O[i]? = some O[i] := List.getElem?_eq_getElem hi
  have gj : O[j]? = some O[j] := List.getElem?_eq_getElem hj
  have li := h.lt _ (List.getElem_mem hi)
  have lj := h.lt _ (List.getElem_mem hj)
  have hk : kd R O[i] ≠ kd R O[j] := fun e => hne (by
    have i2 : i < (O.map (kd R)).length := by rw [List.length_map]; exact hi
    have j2 : j < (O.map (kd R)).length := by rw [List.length_map]; exact hj
    refine (List.getElem_inj (h₀ := i2) (h₁ := j2) h.nd).mp ?_
    rw [List.getElem_map, List.getElem_map]
    exact e)
  obtain ⟨w, hw, hv⟩ := hK.dis k OB _ _ li lj hk
  refine ⟨w, hw, ?_⟩
  rw [lessT_acc OB hK hc h w _ i _ hw li gi rfl, lessT_acc OB hK hc h w _ j _ hw lj gj rfl]
  exact hv
end
/-- numbered as they are found: each new stand is the next one -/
def RG (T : Tab) (k n : Nat) : Prop := ∀ i l v, i < n → l < k → T.st i l = v + 1 → v = 0 ∨ ∃ i' l', l' < k ∧ (i' < i ∨ i' = i ∧ l' < l) ∧ T.st i' l' = v
/-- an order in which each new one was found in order -/
structure OrderF (B : Tab) (k N : Nat) (R : List Nat) (O : List Nat) (c : Nat → Nat → Prop) : Prop extends Order B k N R O c where
  fnd : ∀ (m s2 : Nat), 0 < m → O[m]? = some s2 → ∃ i' l' s', c i' l' ∧ l' < k ∧ O[i']? = some s' ∧ kd R (B.st s' l') = kd R s2
  rg : ∀ (m i l s s1 : Nat), c i l → l < k → O[i]? = some s → O[m + 1]? = some s1 → kd R (B.st s l) = kd R s1 → m = 0 ∨ ∃ i' l' s' s2, l' < k ∧ (i' < i ∨ i' = i ∧ l' < l) ∧ O[i']? = some s' ∧ O[m]? = some s2 ∧ kd R (B.st s' l') = kd R s2
section
variable {R O : List Nat} {c c' : Nat → Nat → Prop}
theorem OrderF.mono (h : OrderF B k N R O c) (e : ∀ i l, c' i l ↔ c i l) : OrderF B k N R O c' := by
  have z : c' = c := funext fun i => funext fun l => propext (e i l)
  rw [z]
  exact h
theorem OrderF.ext (h : OrderF B k N R O c) {at' t l0 : Nat} (ht : O[at']? = some t) (hm : kd R (B.st t l0) ∈ O.map (kd R)) (e : ∀ i l, c' i l ↔ c i l ∨ (i = at' ∧ l = l0)) (lx : ∀ i l, c i l → i < at' ∨ i = at' ∧ l < l0) : OrderF B k N R O c' where
  z := h.z
  lt := h.lt
  nd := h.nd
  par := h.par
  clo := fun i s l hc hi => by
    rcases (e i l).mp hc with q | ⟨rfl, rfl⟩
    · exact h.clo i s l q hi
    · rw [ht] at hi
      obtain rfl := Option.some.inj hi
      exact hm
  fnd := fun m s2 h0 hm2 => by
    obtain ⟨i', l', s', q1, q2⟩ := h.fnd m s2 h0 hm2
    exact ⟨i', l', s', (e i' l').mpr (.inl q1), q2⟩
  rg := fun m i l s s1 hc hl hi hs1 hk => by
    rcases (e i l).mp hc with q | ⟨rfl, rfl⟩
    · exact h.rg m i l s s1 q hl hi hs1 hk
    · by_cases h0 : m = 0
      · exact .inl h0
      · have hml : m < O.length := by
          have := (List.getElem?_eq_some_iff.mp hs1).1
          omega
        have hg : O[m]? = some O[m] := List.getElem?_eq_getElem hml
        obtain ⟨i', l', s', q1, q2, q3, q4⟩ := h.fnd m _ (by omega) hg
        exact .inr ⟨i', l', s', _, q2, lx i' l' q1, q3, hg, q4⟩
theorem OrderF.add (h : OrderF B k N R O c) (hc : ∀ i l, c i l → i < O.length) {at' t l s : Nat} (ht : O[at']? = some t) (hl : l < k) (hs : B.st t l = s) (hsN : s < N) (hn : kd R s ∉ O.map (kd R)) (e : ∀ i l', c' i l' ↔ c i l' ∨ (i = at' ∧ l' = l)) (lx : ∀ i l', c i l' → i < at' ∨ i = at' ∧ l' < l) :
    OrderF B k N R (O ++ [s]) c' := by
  have hat : at' < O.length := (List.getElem?_eq_some_iff.mp ht).1
  have hil : ∀ i l', c' i l' → i < O.length := fun i l' q => ((e i l').mp q).elim (hc i l') fun z => by omega
  have old : ∀ {i x : Nat}, i < O.length → (O ++ [s])[i]? = some x → O[i]? = some x := fun {i x} h1 h2 => by rwa [List.getElem?_append_left h1] at h2
  have new : ∀ {i x : Nat}, O[i]? = some x → (O ++ [s])[i]? = some x := fun {i x} h1 => by rw [List.getElem?_append_left (List.getElem?_eq_some_iff.mp h1).1]; exact h1
  have last : ∀ {i x : Nat}, ¬ i < O.length → (O ++ [s])[i]? = some x → i = O.length ∧ x = s := fun {i x} h1 h2 => by
    rw [List.getElem?_append_right (by omega)] at h2
    have hz : i - O.length = 0 := by
      have := (List.getElem?_eq_some_iff.mp h2).1
      simp at this
      omega
    rw [hz] at h2
    exact ⟨by omega, by simpa using h2.symm⟩
  constructor
  · constructor
    · exact new h.z
    · intro x hx
      rcases List.mem_append.mp hx with q | q
      · exact h.lt x q
      · rw [List.mem_singleton.mp q]
        exact hsN
    · rw [List.map_append]
      exact nodup_snoc h.nd hn
    · intro i x h0 hi
      by_cases hi2 : i < O.length
      · obtain ⟨j, t', hj, ht', q⟩ := h.par i x h0 (old hi2 hi)
        exact ⟨j, t', hj, new ht', q⟩
      · obtain ⟨e1, e2⟩ := last hi2 hi
        exact ⟨at', t, by omega, new ht, l, hl, by rw [e2]; exact hs⟩
    · intro i x m hci hi
      have hi1 := old (hil i m hci) hi
      rw [List.map_append]
      rcases (e i m).mp hci with q | ⟨rfl, rfl⟩
      · exact List.mem_append_left _ (h.clo i x m q hi1)
      · rw [ht] at hi1
        obtain rfl := Option.some.inj hi1
        rw [hs]
        exact List.mem_append_right _ (List.mem_singleton.mpr rfl)
  · intro m s2 h0 hm
    by_cases hm2 : m < O.length
    · obtain ⟨i', l', s', q1, q2, q3, q4⟩ := h.fnd m s2 h0 (old hm2 hm)
      exact ⟨i', l', s', (e i' l').mpr (.inl q1), q2, new q3, q4⟩
    · obtain ⟨_, e2⟩ := last hm2 hm
      exact ⟨at', l, t, (e at' l).mpr (.inr ⟨rfl, rfl⟩), hl, new ht, by rw [hs, e2]⟩
  · intro m i l1 si s1 hci hl1 hi hs1 hk
    have hi1 := old (hil i l1 hci) hi
    by_cases hm2 : m + 1 < O.length
    · have hs2 := old hm2 hs1
      rcases (e i l1).mp hci with q | ⟨rfl, rfl⟩
      · rcases h.rg m i l1 si s1 q hl1 hi1 hs2 hk with z | ⟨i', l', s', s2, q1, q2, q3, q4, q5⟩
        · exact .inl z
        · exact .inr ⟨i', l', s', s2, q1, q2, new q3, new q4, q5⟩
      · rw [ht] at hi1
        obtain rfl := Option.some.inj hi1
        rw [hs] at hk
        exact absurd (hk ▸ List.mem_map.mpr ⟨s1, List.mem_of_getElem? hs2, rfl⟩) hn
    · obtain ⟨e1, e2⟩ := last hm2 hs1
      subst e2
      rcases (e i l1).mp hci with q | ⟨rfl, rfl⟩
      · exact absurd (hk ▸ h.clo i si l1 q hi1) hn
      · by_cases h0 : m = 0
        · exact .inl h0
        · have hml : m < O.length := by omega
          have hg : O[m]? = some O[m] := List.getElem?_eq_getElem hml
          obtain ⟨i', l', s', q1, q2, q3, q4⟩ := h.fnd m _ (by omega) hg
          exact .inr ⟨i', l', s', _, q2, lx i' l' q1, new q3, new hg, q4⟩
theorem lessT_rg (OB : BOk B k N) (h : OrderF B k N R O fun i l => i < O.length ∧ l < k) : RG (lessT B R O) k O.length := by
  intro i l v hi hl hv
  have gi : O[i]? = some O[i] := List.getElem?_eq_getElem hi
  rw [lessT_st OB h.toOrder gi hl] at hv
  obtain ⟨s1, h1, h2⟩ := h.ix gi hl
  rw [hv] at h1
  rcases h.rg v i l _ s1 ⟨hi, hl⟩ hl gi h1 h2.symm with z | ⟨i', l', s', s2, q1, q2, q3, q4, q5⟩
  · exact .inl z
  · refine .inr ⟨i', l', q1, q2, ?_⟩
    rw [lessT_st OB h.toOrder q3 q1, q5]
    have hv2 : v < (O.map (kd R)).length := by rw [List.length_map]; exact (List.getElem?_eq_some_iff.mp q4).1
    have e2 : (O.map (kd R))[v] = kd R s2 := by
      rw [List.getElem_map]
      have := (List.getElem?_eq_some_iff.mp q4).2
      rw [this]
    rw [← e2]
    exact h.nd.idxOf_getElem v hv2
end
end
end Own
namespace Own
section
variable {T : Tab} {k n : Nat}
/-- among n+1 stands two are the same -/
theorem two_same (O : T.Ok k n) {w : Word} (hw : Wd k w) (hl : n ≤ w.length) : ∃ i j, i < j ∧ j ≤ n ∧ T.run 0 (w.take i) = T.run 0 (w.take j) := by
  refine Classical.byContradiction fun hc => ?_
  have nd : ((List.range (n + 1)).map fun i => T.run 0 (w.take i)).Nodup := by
    refine List.pairwise_map.mpr ((List.Pairwise.and_mem.mp (List.pairwise_lt_range (n := n + 1))).imp fun {a b} h e => ?_)
    obtain ⟨ha, hb, hab⟩ := h
    exact hc ⟨a, b, hab, by have := List.mem_range.mp hb; omega, e⟩
  have := nodup_lt_length n nd fun x hx => by
    obtain ⟨i, _, rfl⟩ := List.mem_map.mp hx
    exact O.run_lt O.n1 fun y hy => hw y (List.mem_of_mem_take hy)
  rw [List.length_map, List.length_range] at this
  omega
theorem run_cut (T : Tab) {w : Word} {i j : Nat} (e : T.run 0 (w.take i) = T.run 0 (w.take j)) : T.run 0 (w.take i ++ w.drop j) = T.run 0 w := by
  rw [Tab.run_append, e, ← Tab.run_append, List.take_append_drop]
theorem run_pump (T : Tab) {w : Word} {i j : Nat} (e : T.run 0 (w.take i) = T.run 0 (w.take j)) : T.run 0 (w.take j ++ w.drop i) = T.run 0 w := by
  rw [Tab.run_append, ← e, ← Tab.run_append, List.take_append_drop]
theorem wd_cut {w : Word} (hw : Wd k w) (i j : Nat) : Wd k (w.take i ++ w.drop j) := fun x hx => by
  rcases List.mem_append.mp hx with h | h
  · exact hw x (List.mem_of_mem_take h)
  · exact hw x (List.mem_of_mem_drop h)
/-- where a word is long, there are words of all lengths' beginnings -/
theorem alive_all (O : T.Ok k n) (h : Alive T k n) : ∀ m, Alive T k m := by
  have up : ∀ m, Alive T k (n + m) := by
    intro m
    induction m with
    | zero => exact h
    | succ m ih =>
      obtain ⟨w, hw, hl, u, hu, ha⟩ := ih
      obtain ⟨i, j, hij, hj, e⟩ := two_same O hw (by omega)
      refine alive_of_word (w := (w.take j ++ w.drop i) ++ u) (fun x hx => ?_) ?_ ?_
      · rcases List.mem_append.mp hx with q | q
        · exact wd_cut hw j i x q
        · exact hu x q
      · unfold Tab.acc
        rw [Tab.run_append, run_pump T e]
        exact ha
      · rw [List.length_append, List.length_append, List.length_take, List.length_drop]
        omega
  intro m
  exact (up m).le (by omega)
/-- from any length on, the next word is no more than n letters away -/
theorem word_near (O : T.Ok k n) (h : Alive T k n) (a : Nat) : ∃ j, a ≤ j ∧ j < a + n ∧ T.W k 0 j ≠ [] := by
  obtain ⟨w, hw, hl, u, hu, ha⟩ := alive_all O h a
  have key : ∀ (L : Nat) (v : Word), v.length = L → a ≤ L → Wd k v → T.acc 0 v = true → ∃ j, a ≤ j ∧ j < a + n ∧ T.W k 0 j ≠ [] := by
    intro L
    induction L using Nat.strongRecOn with
    | ind L ih =>
      intro v hv hLa hvw hva
      by_cases hlt : L < a + n
      · exact ⟨L, hLa, hlt, fun z => by
          have : v ∈ T.W k 0 L := mem_W.mpr ⟨hv, hvw, hva⟩
          rw [z] at this
          simp at this⟩
      · obtain ⟨i, j, hij, hj, e⟩ := two_same O hvw (by omega)
        have hlen : (v.take i ++ v.drop j).length = L - (j - i) := by
          rw [List.length_append, List.length_take, List.length_drop]
          omega
        refine ih (L - (j - i)) (by omega) _ hlen (by omega) (wd_cut hvw i j) ?_
        unfold Tab.acc
        rw [run_cut T e]
        exact hva
  have ha : T.acc 0 (w ++ u) = true := by
    unfold Tab.acc
    rw [Tab.run_append]
    exact ha
  refine key _ (w ++ u) rfl (by rw [List.length_append]; omega) (fun x hx => ?_) ha
  rcases List.mem_append.mp hx with q | q
  · exact hw x q
  · exact hu x q
theorem alive_iff (O : T.Ok k n) : Alive T k n ↔ ∃ j, n ≤ j ∧ j < 2 * n ∧ T.W k 0 j ≠ [] := by
  constructor
  · intro h
    obtain ⟨j, h1, h2, h3⟩ := word_near O h n
    exact ⟨j, h1, by omega, h3⟩
  · rintro ⟨j, h1, _, h3⟩
    obtain ⟨w, hw⟩ := List.exists_mem_of_ne_nil _ h3
    obtain ⟨q1, q2, q3⟩ := mem_W.mp hw
    exact alive_of_word q2 q3 (by omega)
theorem sumW_mono {a b : Nat} (h : a ≤ b) : sumW T k a ≤ sumW T k b := by
  induction h with
  | refl => exact Nat.le_refl _
  | step _ ih => exact Nat.le_trans ih (by rw [sumW]; omega)
/-- so there are many words -/
theorem sumW_grow (O : T.Ok k n) (h : Alive T k n) : ∀ i, i ≤ sumW T k (n * i)
  | 0 => Nat.zero_le _
  | i + 1 => by
    have ih := sumW_grow O h i
    obtain ⟨j, h1, h2, h3⟩ := word_near O h (n * i)
    have h4 : j + 1 ≤ n * (i + 1) := by rw [Nat.mul_succ]; omega
    have h5 := sumW_mono (T := T) (k := k) h4
    have h6 := sumW_mono (T := T) (k := k) h1
    have h7 := List.length_pos_iff.mpr h3
    rw [sumW] at h5
    omega
/-- an index has its word -/
theorem index_word {i : Nat} : ∀ M, i < sumW T k M → ∃ N lft u, N < M ∧ sumW T k N + lft = i ∧ (T.W k 0 N)[lft]? = some u
  | 0, h => by
    unfold sumW at h
    omega
  | M + 1, h => by
    by_cases hlt : i < sumW T k M
    · obtain ⟨N, lft, u, h1, h2, h3⟩ := index_word M hlt
      exact ⟨N, lft, u, by omega, h2, h3⟩
    · rw [sumW] at h
      have hl : i - sumW T k M < (T.W k 0 M).length := by omega
      exact ⟨M, i - sumW T k M, _, by omega, by omega, List.getElem?_eq_getElem hl⟩
/-- the words up to a length, one by one -/
theorem WB_at : ∀ (M i : Nat) (u : Word), (T.WB k M)[i]? = some u → ∃ N lft, N < M ∧ sumW T k N + lft = i ∧ (T.W k 0 N)[lft]? = some u
  | 0, i, u, h => by simp [Tab.WB] at h
  | M + 1, i, u, h => by
    rw [Tab.WB] at h
    by_cases hlt : i < (T.WB k M).length
    · rw [List.getElem?_append_left hlt] at h
      obtain ⟨N, lft, h1, h2, h3⟩ := WB_at M i u h
      exact ⟨N, lft, by omega, h2, h3⟩
    · rw [List.getElem?_append_right (by omega), WB_length] at h
      rw [WB_length] at hlt
      exact ⟨M, i - sumW T k M, by omega, by omega, h⟩
/-- where there is an end: the first length that no word has, nor a longer one -/
theorem end_at (O : T.Ok k n) (h : ¬ Alive T k n) : ∃ m, m ≤ n ∧ ¬ Alive T k m ∧ (∀ j, j < m → Alive T k j) ∧ (∀ j, m ≤ j → T.W k 0 j = []) ∧ (∀ m', m = m' + 1 → T.W k 0 m' ≠ []) := by
  have ex : ∀ d, d ≤ n → ¬ Alive T k d → ∃ m, m ≤ n ∧ ¬ Alive T k m ∧ ∀ j, j < m → Alive T k j := by
    intro d
    induction d with
    | zero => exact fun h0 h => ⟨0, h0, h, fun j hj => by omega⟩
    | succ d ih =>
      intro h0 h
      by_cases z : Alive T k d
      · exact ⟨d + 1, h0, h, fun j hj => z.le (by omega)⟩
      · exact ih (by omega) z
  obtain ⟨m, h1, h2, h3⟩ := ex n (Nat.le_refl _) h
  refine ⟨m, h1, h2, h3, fun j hj => not_alive_W h2 hj, fun m' e hz => ?_⟩
  obtain ⟨w, hw, hl, u, hu, ha⟩ := h3 m' (by omega)
  have ha : T.acc 0 (w ++ u) = true := by
    unfold Tab.acc
    rw [Tab.run_append]
    exact ha
  have hlen : (w ++ u).length < m := Classical.byContradiction fun hc => h2 (alive_of_word (w := w ++ u) (fun x hx => by
    rcases List.mem_append.mp hx with q | q
    · exact hw x q
    · exact hu x q) ha (by omega))
  have hwu : w ++ u ∈ T.W k 0 m' := mem_W.mpr ⟨by rw [List.length_append] at hlen ⊢; omega, fun x hx => by
    rcases List.mem_append.mp hx with q | q
    · exact hw x q
    · exact hu x q, ha⟩
  rw [hz] at hwu
  simp at hwu
theorem sumW_stop {m : Nat} (h : ∀ j, m ≤ j → T.W k 0 j = []) : ∀ d, sumW T k (m + d) = sumW T k m
  | 0 => rfl
  | d + 1 => by
    show sumW T k (m + d) + (T.W k 0 (m + d)).length = _
    rw [h _ (by omega), sumW_stop h d]
    rfl
end
end Own
namespace Own
/-! Tables numbered as they are found, with no two stands alike: there is one for each set of words. -/
def Min (T : Tab) (k n : Nat) : Prop := ∀ i j, i < n → j < n → i ≠ j → ∃ w, Wd k w ∧ T.acc i w ≠ T.acc j w
structure Canon (T : Tab) (k n : Nat) : Prop where
  ok : T.Ok k n
  rg : RG T k n
  min : Min T k n
section
variable {T T' : Tab} {k n n' : Nat}
def Alk (T T' : Tab) (k s s' : Nat) : Prop := ∀ w, Wd k w → T.acc s w = T'.acc s' w
theorem Alk.step {s s' l : Nat} (h : Alk T T' k s s') (hl : l < k) : Alk T T' k (T.st s l) (T'.st s' l) := fun w hw => h (l :: w) fun x hx => (List.mem_cons.mp hx).elim (fun z => z ▸ hl) (hw x)
theorem Alk.symm {s s' : Nat} (h : Alk T T' k s s') : Alk T' T k s' s := fun w hw => (h w hw).symm
theorem Min.right (M : Min T' k n') {s a b : Nat} (ha : a < n') (hb : b < n') (h1 : Alk T T' k s a) (h2 : Alk T T' k s b) : a = b := by
  by_cases e : a = b
  · exact e
  · obtain ⟨w, hw, hv⟩ := M a b ha hb e
    exact absurd ((h1 w hw).symm.trans (h2 w hw)) hv
theorem canon_step (C : Canon T k n) (C' : Canon T' k n') (L : Alk T T' k 0 0) : ∀ i, i < n → i < n' ∧ Alk T T' k i i ∧ ∀ l, l < k → T.st i l = T'.st i l := by
  intro i
  induction i using Nat.strongRecOn with
  | ind i IH =>
  intro hi
  have base : i < n' ∧ Alk T T' k i i := by
    by_cases h0 : i = 0
    · subst h0
      exact ⟨C'.ok.n1, L⟩
    · obtain ⟨j, hj, l, hl, e⟩ := C.ok.par i (by omega) hi
      obtain ⟨a1, a2, a3⟩ := IH j hj (by omega)
      have e' : T'.st j l = i := by rw [← a3 l hl]; exact e
      have st := a2.step hl
      rw [e, e'] at st
      exact ⟨e' ▸ C'.ok.st_lt a1 hl, st⟩
  obtain ⟨hi', Ei⟩ := base
  refine ⟨hi', Ei, fun l => ?_⟩
  induction l using Nat.strongRecOn with
  | ind l IL =>
  intro hl
  -- what was led to ahead of this place
  have both : ∀ i' l', l' < k → (i' < i ∨ i' = i ∧ l' < l) → T.st i' l' = T'.st i' l' ∧ Alk T T' k i' i' ∧ i' < n ∧ i' < n' := by
    intro i' l' hl' h
    rcases h with h | ⟨rfl, h⟩
    · obtain ⟨a1, a2, a3⟩ := IH i' h (by omega)
      exact ⟨a3 l' hl', a2, by omega, a1⟩
    · exact ⟨IL l' h hl', Ei, hi, hi'⟩
  have down : ∀ x, (x = 0 ∨ ∃ i' l', l' < k ∧ (i' < i ∨ i' = i ∧ l' < l) ∧ T.st i' l' = x) → ∀ y, y ≤ x → Alk T T' k y y := by
    intro x
    induction x with
    | zero =>
      intro _ y hy
      obtain rfl : y = 0 := by omega
      exact L
    | succ x ih =>
      intro h y hy
      rcases h with h | ⟨i', l', q1, q2, q3⟩
      · omega
      · obtain ⟨b1, b2, b3, b4⟩ := both i' l' q1 q2
        by_cases e : y = x + 1
        · subst e
          have st := b2.step q1
          rw [← b1, q3] at st
          exact st
        · refine ih ?_ y (by omega)
          rcases C.rg i' l' x b3 q1 q3 with z | ⟨i2, l2, r1, r2, r3⟩
          · exact .inl z
          · exact .inr ⟨i2, l2, r1, by omega, r3⟩
  have Ev := Ei.step hl
  have hv := C.ok.st_lt hi hl
  have hv' := C'.ok.st_lt hi' hl
  rcases Nat.lt_trichotomy (T.st i l) (T'.st i l) with h | h | h
  · obtain ⟨u, hu⟩ : ∃ u, T'.st i l = u + 1 := ⟨T'.st i l - 1, by omega⟩
    have hEv : Alk T T' k (T.st i l) (T.st i l) := by
      refine down u ?_ _ (by omega)
      rcases C'.rg i l u hi' hl hu with z | ⟨i2, l2, r1, r2, r3⟩
      · exact .inl z
      · exact .inr ⟨i2, l2, r1, r2, (both i2 l2 r1 r2).1.trans r3⟩
    exact C'.min.right (by omega) hv' hEv Ev
  · exact h
  · obtain ⟨u, hu⟩ : ∃ u, T.st i l = u + 1 := ⟨T.st i l - 1, by omega⟩
    have hEv : Alk T T' k (T'.st i l) (T'.st i l) := by
      refine down u ?_ _ (by omega)
      exact C.rg i l u hi hl hu
    exact (C.min.right (by omega) hv hEv.symm Ev.symm).symm
theorem canon_le (C : Canon T k n) (C' : Canon T' k n') (L : Alk T T' k 0 0) : n ≤ n' := by
  have h1 := C.ok.n1
  have := (canon_step C C' L (n - 1) (by omega)).1
  omega
theorem tab_ext (O : T.Ok k n) (O' : T'.Ok k n) (h1 : ∀ i l, i < n → l < k → T.st i l = T'.st i l) (h2 : ∀ i, i < n → T.fin i = T'.fin i) : T = T' := by
  obtain ⟨R, E⟩ := T
  obtain ⟨R', E'⟩ := T'
  have hR : R.length = n := O.rl
  have hR' : R'.length = n := O'.rl
  have hE : E.length = n := O.el
  have hE' : E'.length = n := O'.el
  have e1 : R = R' := by
    refine List.ext_getElem (by omega) fun i a b => ?_
    have ra : R[i].length = k := (O.row _ (List.getElem_mem a)).1
    have rb : R'[i].length = k := (O'.row _ (List.getElem_mem b)).1
    refine List.ext_getElem (by omega) fun l c d => ?_
    have h := h1 i l (by omega) (by omega)
    unfold Tab.st at h
    simp only [List.getD_eq_getElem?_getD, List.getElem?_eq_getElem a, List.getElem?_eq_getElem b, Option.getD_some, List.getElem?_eq_getElem c, List.getElem?_eq_getElem d] at h
    exact h
  have e2 : E = E' := by
    refine List.ext_getElem (by omega) fun i a b => ?_
    have h := h2 i (by omega)
    unfold Tab.fin at h
    simp only [List.getD_eq_getElem?_getD, List.getElem?_eq_getElem a, List.getElem?_eq_getElem b, Option.getD_some] at h
    exact h
  rw [e1, e2]
theorem canon_uniq (C : Canon T k n) (C' : Canon T' k n') (L : Alk T T' k 0 0) : T = T' := by
  have h1 := canon_le C C' L
  have h2 := canon_le C' C L.symm
  obtain rfl : n = n' := by omega
  exact tab_ext C.ok C'.ok (fun i l hi hl => (canon_step C C' L i hi).2.2 l hl) fun i hi => (canon_step C C' L i hi).2.1 [] fun _ h => by simp at h
end
/-! ### how long texts must be that tell stands apart -/
section
variable {T : Tab} {k N : Nat}
def eqS (T : Tab) (k m i j : Nat) : Prop := ∀ w, Wd k w → w.length < m → T.acc i w = T.acc j w
theorem eqS.mono {m m' i j : Nat} (h : eqS T k m i j) (hm : m' ≤ m) : eqS T k m' i j := fun w hw hl => h w hw (by omega)
theorem eqS.symm {m i j : Nat} (h : eqS T k m i j) : eqS T k m j i := fun w hw hl => (h w hw hl).symm
theorem eqS.trans {m i j l : Nat} (h : eqS T k m i j) (h' : eqS T k m j l) : eqS T k m i l := fun w hw hl => (h w hw hl).trans (h' w hw hl)
theorem stable_all (O : BOk T k N) {m : Nat} (st : ∀ i j, i < N → j < N → eqS T k m i j → eqS T k (m + 1) i j) : ∀ d i j, i < N → j < N → eqS T k m i j → eqS T k (m + d) i j
  | 0, i, j, _, _, h => h
  | d + 1, i, j, hi, hj, h => by
    have h1 := st i j hi hj h
    intro w hw hl
    cases w with
    | nil => exact h1 [] hw (by show 0 < m + 1; omega)
    | cons l w =>
      have hlk : l < k := hw l List.mem_cons_self
      have hw' : Wd k w := fun x hx => hw x (List.mem_cons_of_mem _ hx)
      have h2 : eqS T k m (T.st i l) (T.st j l) := fun w2 hw2 hl2 => h1 (l :: w2) (fun x hx => (List.mem_cons.mp hx).elim (fun z => z ▸ hlk) (hw2 x)) (by rw [List.length_cons]; omega)
      rw [List.length_cons] at hl
      exact stable_all O st d _ _ (O.st_lt hi hlk) (O.st_lt hj hlk) h2 w hw' (by omega)
/-- so many stands that texts of less than m letters tell apart -/
def HasC (T : Tab) (k N m c : Nat) : Prop := ∃ L : List Nat, L.length = c ∧ (∀ x, x ∈ L → x < N) ∧ L.Pairwise fun a b => ¬ eqS T k m a b
theorem HasC.more {m c i j : Nat} (h : HasC T k N m c) (hi : i < N) (hj : j < N) (e : eqS T k m i j) (ne : ¬ eqS T k (m + 1) i j) : HasC T k N (m + 1) (c + 1) := by
  obtain ⟨L, hl, hx, hp⟩ := h
  have up : ∀ {a b}, ¬ eqS T k m a b → ¬ eqS T k (m + 1) a b := fun {a b} h g => h (g.mono (by omega))
  have fin : ∀ y, y < N → (∀ x, x ∈ L → ¬ eqS T k (m + 1) x y) → HasC T k N (m + 1) (c + 1) := fun y hy hn =>
    ⟨L ++ [y], by rw [List.length_append, hl]; rfl, fun x h => (List.mem_append.mp h).elim (hx x) fun z => by rw [List.mem_singleton.mp z]; exact hy,
      List.pairwise_append.mpr ⟨hp.imp fun h => up h, List.pairwise_singleton _ _, fun a ha b hb => by rw [List.mem_singleton.mp hb]; exact hn a ha⟩⟩
  by_cases hL : ∃ x, x ∈ L ∧ eqS T k m x i
  · obtain ⟨x, hxL, hxi⟩ := hL
    have other : ∀ y, eqS T k m x y → ¬ eqS T k (m + 1) x y → y < N → HasC T k N (m + 1) (c + 1) := fun y hxy hn hy => fin y hy fun z hz hzy => by
      by_cases ez : z = x
      · subst ez
        exact hn hzy
      · have hzx : eqS T k m z x := (hzy.mono (by omega)).trans hxy.symm
        have pw : ∀ {L : List Nat}, (L.Pairwise fun a b => ¬ eqS T k m a b) → ∀ {a b}, a ∈ L → b ∈ L → a ≠ b → ¬ eqS T k m a b := by
          intro L hL
          induction hL with
          | nil => intro a b ha; simp at ha
          | @cons c L hc _ ih =>
            intro a b ha hb hab g
            rcases List.mem_cons.mp ha with e1 | ha1
            · rcases List.mem_cons.mp hb with e2 | hb1
              · exact hab (e1.trans e2.symm)
              · rw [e1] at g
                exact hc _ hb1 g
            · rcases List.mem_cons.mp hb with e2 | hb1
              · rw [e2] at g
                exact hc _ ha1 g.symm
              · exact ih ha1 hb1 hab g
        exact pw hp hz hxL ez hzx
    by_cases h1 : eqS T k (m + 1) x i
    · exact other j (hxi.trans e) (fun h2 => ne (h1.symm.trans h2)) hj
    · exact other i hxi h1 hi
  · exact fin i hi fun x hxL h => hL ⟨x, hxL, h.mono (by omega)⟩
theorem far (O : BOk T k N) {i j : Nat} (hi : i < N) (hj : j < N) (h : ∀ w, Wd k w → w.length + 1 < N → T.acc i w = T.acc j w) : ∀ w, Wd k w → T.acc i w = T.acc j w := by
  apply Classical.byContradiction
  intro hn
  obtain ⟨w0, hw0⟩ := Classical.not_forall.mp hn
  obtain ⟨hw, hv⟩ := Classical.not_imp.mp hw0
  have unst : ∀ m, m + 1 ≤ N → ∃ a b, a < N ∧ b < N ∧ eqS T k m a b ∧ ¬ eqS T k (m + 1) a b := by
    intro m hm
    apply Classical.byContradiction
    intro hc
    have st : ∀ a b, a < N → b < N → eqS T k m a b → eqS T k (m + 1) a b := fun a b ha hb hab => Classical.byContradiction fun z => hc ⟨a, b, ha, hb, hab, z⟩
    exact hv (stable_all O st (w0.length + 1) i j hi hj (fun w hw hl => h w hw (by omega)) w0 hw (by omega))
  have grow : ∀ m, m ≤ N → HasC T k N m (m + 1) := by
    intro m
    induction m with
    | zero => exact fun _ => ⟨[0], rfl, fun x hx => by rw [List.mem_singleton.mp hx]; exact O.n1, List.pairwise_singleton _ _⟩
    | succ m ih =>
      intro hm
      obtain ⟨a, b, ha, hb, h1, h2⟩ := unst m hm
      exact (ih (by omega)).more ha hb h1 h2
  obtain ⟨L, hl, hx, hp⟩ := grow N (Nat.le_refl _)
  have nd : L.Nodup := hp.imp fun {a b} h e => h (by rw [e]; exact fun _ _ _ => rfl)
  have := nodup_lt_length N nd hx
  omega
end
theorem Tab.Ok.bok {T : Tab} {k n : Nat} (O : T.Ok k n) : BOk T k n := ⟨O.k1, O.k3, O.n1, O.n40, O.rl, O.el, O.row⟩
/-! ### two tables side by side -/
def sideT (n : Nat) (T T' : Tab) : Tab := ⟨T.rows ++ T'.rows.map fun r => r.map (· + n), T.ends ++ T'.ends⟩
section
variable {T T' : Tab} {k n n' : Nat}
theorem side_st1 (O : T.Ok k n) {i l : Nat} (hi : i < n) : (sideT n T T').st i l = T.st i l := by
  unfold Tab.st sideT
  simp only [List.getD_eq_getElem?_getD]
  rw [List.getElem?_append_left (by rw [O.rl]; exact hi)]
theorem side_st2 (O : T.Ok k n) (O' : T'.Ok k n') {i l : Nat} (hi : i < n') (hl : l < k) : (sideT n T T').st (n + i) l = n + T'.st i l := by
  unfold Tab.st sideT
  have h1 : i < T'.rows.length := by rw [O'.rl]; exact hi
  have h2 : l < T'.rows[i].length := by rw [(O'.row _ (List.getElem_mem h1)).1]; exact hl
  simp only [List.getD_eq_getElem?_getD]
  rw [List.getElem?_append_right (by rw [O.rl]; omega), O.rl, Nat.add_sub_cancel_left, List.getElem?_map, List.getElem?_eq_getElem h1]
  simp only [Option.map_some, Option.getD_some, List.getElem?_map, List.getElem?_eq_getElem h2]
  omega
theorem side_fin1 (O : T.Ok k n) {i : Nat} (hi : i < n) : (sideT n T T').fin i = T.fin i := by
  unfold Tab.fin sideT
  simp only [List.getD_eq_getElem?_getD]
  rw [List.getElem?_append_left (by rw [O.el]; exact hi)]
theorem side_fin2 (O : T.Ok k n) {i : Nat} : (sideT n T T').fin (n + i) = T'.fin i := by
  unfold Tab.fin sideT
  simp only [List.getD_eq_getElem?_getD]
  rw [List.getElem?_append_right (by rw [O.el]; omega), O.el, Nat.add_sub_cancel_left]
theorem side_acc1 (O : T.Ok k n) : ∀ (w : Word) (i : Nat), Wd k w → i < n → (sideT n T T').acc i w = T.acc i w
  | [], i, _, hi => side_fin1 O hi
  | l :: w, i, hw, hi => by
    show (sideT n T T').acc ((sideT n T T').st i l) w = T.acc (T.st i l) w
    rw [side_st1 O hi]
    exact side_acc1 O w _ (fun x hx => hw x (List.mem_cons_of_mem _ hx)) (O.st_lt hi (hw l List.mem_cons_self))
theorem side_acc2 (O : T.Ok k n) (O' : T'.Ok k n') : ∀ (w : Word) (i : Nat), Wd k w → i < n' → (sideT n T T').acc (n + i) w = T'.acc i w
  | [], i, _, hi => side_fin2 O
  | l :: w, i, hw, hi => by
    have hl := hw l List.mem_cons_self
    show (sideT n T T').acc ((sideT n T T').st (n + i) l) w = T'.acc (T'.st i l) w
    rw [side_st2 O O' hi hl]
    exact side_acc2 O O' w _ (fun x hx => hw x (List.mem_cons_of_mem _ hx)) (O'.st_lt hi hl)
theorem side_ok (O : T.Ok k n) (O' : T'.Ok k n') (h : n + n' ≤ 40) : BOk (sideT n T T') k (n + n') := by
  have h1 := O.n1
  refine ⟨O.k1, O.k3, by omega, h, ?_, ?_, fun r hr => ?_⟩
  · show (T.rows ++ _).length = _
    rw [List.length_append, List.length_map, O.rl, O'.rl]
  · show (T.ends ++ _).length = _
    rw [List.length_append, O.el, O'.el]
  · rcases List.mem_append.mp hr with q | q
    · obtain ⟨a, b⟩ := O.row r q
      exact ⟨a, fun x hx => Nat.lt_of_lt_of_le (b x hx) (by omega)⟩
    · obtain ⟨r', hr', rfl⟩ := List.mem_map.mp q
      obtain ⟨a, b⟩ := O'.row r' hr'
      refine ⟨by rw [List.length_map]; exact a, fun x hx => ?_⟩
      obtain ⟨y, hy, rfl⟩ := List.mem_map.mp hx
      have := b y hy
      omega
/-- two tables that answer alike for all texts of less letters than both have stands, less one, answer alike -/
theorem agree_all (O : T.Ok k n) (O' : T'.Ok k n') (hn : n + n' ≤ 40) (h : ∀ w, Wd k w → w.length + 1 < n + n' → T.acc 0 w = T'.acc 0 w) : Alk T T' k 0 0 := by
  have h1 := O.n1
  have h1' := O'.n1
  have f := far (side_ok O O' hn) (i := 0) (j := n + 0) (by omega) (by omega) fun w hw hl => by
    rw [side_acc1 O w 0 hw h1, side_acc2 O O' w 0 hw h1']
    exact h w hw hl
  intro w hw
  have := f w hw
  rwa [side_acc1 O w 0 hw h1, side_acc2 O O' w 0 hw h1'] at this
end
end Own
namespace Own
/-! The first text at which two tables differ. -/
/-- its place among all texts, the shorter first -/
def ixW (k : Nat) : Word → Nat → Nat
  | [], a => a
  | l :: u, a => ixW k u (k * a + 1 + l)
def idx (k : Nat) (u : Word) : Nat := ixW k u 0
theorem ixW_app (k : Nat) : ∀ (u v : Word) (a : Nat), ixW k (u ++ v) a = ixW k v (ixW k u a)
  | [], _, _ => rfl
  | l :: u, v, a => ixW_app k u v (k * a + 1 + l)
theorem idx_snoc (k : Nat) (u : Word) (l : Nat) : idx k (u ++ [l]) = k * idx k u + 1 + l := by
  unfold idx
  rw [ixW_app]
  rfl
theorem snoc_cases (P : Word → Prop) (h0 : P []) (h1 : ∀ u l, P u → P (u ++ [l])) : ∀ u, P u := by
  intro u
  generalize hn : u.length = n
  induction n generalizing u with
  | zero =>
    obtain rfl := List.length_eq_zero_iff.mp hn
    exact h0
  | succ n ih =>
    have hne : u ≠ [] := fun e => by rw [e] at hn; simp at hn
    have eu := List.dropLast_concat_getLast hne
    rw [← eu]
    exact h1 _ _ (ih _ (by rw [List.length_dropLast]; omega))
theorem wd_snoc {k : Nat} {u : Word} {l : Nat} : Wd k (u ++ [l]) ↔ Wd k u ∧ l < k := by
  constructor
  · intro h
    exact ⟨fun x hx => h x (List.mem_append_left _ hx), h l (List.mem_append_right _ (List.mem_singleton.mpr rfl))⟩
  · rintro ⟨a, b⟩ x hx
    rcases List.mem_append.mp hx with q | q
    · exact a x q
    · rw [List.mem_singleton.mp q]
      exact b
def Dif (T O : Tab) (u : Word) : Prop := T.acc 0 u ≠ O.acc 0 u
def FDis (k : Nat) (T O : Tab) : Option Nat → Prop
  | none => ∀ u, Wd k u → ¬ Dif T O u
  | some i => (∃ u, Wd k u ∧ idx k u = i ∧ Dif T O u) ∧ ∀ v, Wd k v → idx k v < i → ¬ Dif T O v
theorem FDis.uniq {k : Nat} {T O : Tab} : ∀ {a b : Option Nat}, FDis k T O a → FDis k T O b → a = b
  | none, none, _, _ => rfl
  | none, some i, h, ⟨⟨u, u1, _, u3⟩, _⟩ => absurd u3 (h u u1)
  | some i, none, ⟨⟨u, u1, _, u3⟩, _⟩, h => absurd u3 (h u u1)
  | some i, some j, ⟨⟨u, u1, u2, u3⟩, h1⟩, ⟨⟨v, v1, v2, v3⟩, h2⟩ => by
    have g1 : ¬ i < j := fun z => h2 u u1 (by omega) u3
    have g2 : ¬ j < i := fun z => h1 v v1 (by omega) v3
    exact congrArg some (by omega)
/-- where a text leads in both -/
def pr (T O : Tab) (u : Word) : Nat × Nat := (T.run 0 u, O.run 0 u)
theorem pr_snoc {T O : Tab} {u : Word} {l : Nat} : pr T O (u ++ [l]) = (T.st (T.run 0 u) l, O.st (O.run 0 u) l) := by
  unfold pr
  have h : ∀ (T : Tab) (u v : Word) (s : Nat), T.run s (u ++ v) = T.run (T.run s u) v := by
    intro T u
    induction u with
    | nil => intro v s; rfl
    | cons x u ih => intro v s; exact ih v (T.st s x)
  rw [h, h]
  rfl
/-- the search: texts found, in order; those ahead of place i, and l letters of the one there, are gone through -/
structure Srch (T O : Tab) (k : Nat) (W : List Word) (i l : Nat) : Prop where
  z : W[0]? = some []
  wd : ∀ u, u ∈ W → Wd k u
  nd : (W.map (pr T O)).Nodup
  up : ∀ (a b : Nat) (u v : Word), a < b → W[a]? = some u → W[b]? = some v → idx k u < idx k v
  top : ∀ (u v : Word), u ∈ W → W[i]? = some v → idx k u < k * idx k v + 1 + l
  clo : ∀ (a x : Nat) (v : Word), (a < i ∧ x < k ∨ a = i ∧ x < l) → W[a]? = some v → ∃ (b : Nat) (u : Word), W[b]? = some u ∧ pr T O u = pr T O (v ++ [x]) ∧ idx k u ≤ k * idx k v + 1 + x
  eq : ∀ (a : Nat) (v : Word), a < i → W[a]? = some v → ¬ Dif T O v
section
variable {T O : Tab} {k i l : Nat} {W : List Word}
theorem Srch.init : Srch T O k [[]] 0 0 := by
  refine ⟨rfl, fun u hu => ?_, by simp, fun a b u v hab h1 h2 => ?_, fun u v h1 h2 => ?_, fun a x v h hv => ?_, fun a v h _ => by omega⟩
  · rw [List.mem_singleton.mp hu]
    exact fun _ z => by simp at z
  · have := (List.getElem?_eq_some_iff.mp h2).1
    simp at this
    omega
  · rw [List.mem_singleton.mp h1]
    show 0 < _
    omega
  · omega
theorem Srch.old (S : Srch T O k W i l) {v : Word} (hv : W[i]? = some v) (hm : pr T O (v ++ [l]) ∈ W.map (pr T O)) : Srch T O k W i (l + 1) := by
  obtain ⟨u, hu, e⟩ := List.mem_map.mp hm
  obtain ⟨b, hb⟩ := List.getElem?_of_mem hu
  have ht := S.top u v hu hv
  refine ⟨S.z, S.wd, S.nd, S.up, fun u' v' h1 h2 => ?_, fun a x v' h hv' => ?_, S.eq⟩
  · have := S.top u' v' h1 h2
    omega
  · by_cases hc : a < i ∧ x < k ∨ a = i ∧ x < l
    · exact S.clo a x v' hc hv'
    · have ha : a = i := by omega
      have hx : x = l := by omega
      subst ha
      subst hx
      rw [hv] at hv'
      obtain rfl := Option.some.inj hv'
      exact ⟨b, u, hb, e, by omega⟩
theorem Srch.new (S : Srch T O k W i l) {v : Word} (hv : W[i]? = some v) (hl : l < k) (hm : pr T O (v ++ [l]) ∉ W.map (pr T O)) : Srch T O k (W ++ [v ++ [l]]) i (l + 1) := by
  have hi := (List.getElem?_eq_some_iff.mp hv).1
  have up : ∀ {a : Nat} {u : Word}, W[a]? = some u → (W ++ [v ++ [l]])[a]? = some u := fun {a u} q => by
    rw [List.getElem?_append_left (List.getElem?_eq_some_iff.mp q).1]
    exact q
  have inv : ∀ {a : Nat} {u : Word}, (W ++ [v ++ [l]])[a]? = some u → W[a]? = some u ∨ (a = W.length ∧ u = v ++ [l]) := fun {a u} q => by
    by_cases ha : a < W.length
    · rw [List.getElem?_append_left ha] at q
      exact .inl q
    · rw [List.getElem?_append_right (by omega)] at q
      have hz : a - W.length = 0 := by
        have := (List.getElem?_eq_some_iff.mp q).1
        simp at this
        omega
      rw [hz] at q
      exact .inr ⟨by omega, by simpa using q.symm⟩
  have last : (W ++ [v ++ [l]])[W.length]? = some (v ++ [l]) := by
    rw [List.getElem?_append_right (Nat.le_refl _), Nat.sub_self]
    rfl
  have hn := idx_snoc k v l
  have bel : ∀ u, u ∈ W → idx k u < idx k (v ++ [l]) := fun u hu => by
    have := S.top u v hu hv
    omega
  refine ⟨up S.z, fun u hu => ?_, ?_, fun a b u w hab h1 h2 => ?_, fun u w h1 h2 => ?_, fun a x w h hw => ?_, fun a w ha hw => ?_⟩
  · rcases List.mem_append.mp hu with q | q
    · exact S.wd u q
    · rw [List.mem_singleton.mp q]
      exact wd_snoc.mpr ⟨S.wd v (List.mem_of_getElem? hv), hl⟩
  · rw [List.map_append]
    exact nodup_snoc S.nd hm
  · rcases inv h2 with q2 | ⟨e2, rfl⟩
    · rcases inv h1 with q1 | ⟨e1, rfl⟩
      · exact S.up a b u w hab q1 q2
      · have := (List.getElem?_eq_some_iff.mp q2).1
        omega
    · rcases inv h1 with q1 | ⟨e1, rfl⟩
      · exact bel u (List.mem_of_getElem? q1)
      · omega
  · rw [up hv] at h2
    obtain rfl := Option.some.inj h2
    rcases List.mem_append.mp h1 with q | q
    · have := S.top u v q hv
      omega
    · rw [List.mem_singleton.mp q, hn]
      omega
  · rcases inv hw with q | ⟨e, rfl⟩
    · by_cases hc : a < i ∧ x < k ∨ a = i ∧ x < l
      · obtain ⟨b, u, g1, g2, g3⟩ := S.clo a x w hc q
        exact ⟨b, u, up g1, g2, g3⟩
      · have ha : a = i := by omega
        have hx : x = l := by omega
        subst ha
        subst hx
        rw [hv] at q
        obtain rfl := Option.some.inj q
        exact ⟨W.length, _, last, rfl, by omega⟩
    · omega
  · rcases inv hw with q | ⟨e, rfl⟩
    · exact S.eq a w ha q
    · omega
theorem Srch.next (S : Srch T O k W i k) (k1 : 1 ≤ k) {v : Word} (hv : W[i]? = some v) (hd : ¬ Dif T O v) : Srch T O k W (i + 1) 0 := by
  refine ⟨S.z, S.wd, S.nd, S.up, fun u w h1 h2 => ?_, fun a x w h hw => ?_, fun a w ha hw => ?_⟩
  · have g1 := S.up i (i + 1) v w (by omega) hv h2
    have g2 := S.top u v h1 hv
    have g3 : k * (idx k v + 1) ≤ k * idx k w := Nat.mul_le_mul_left _ g1
    rw [Nat.mul_add] at g3
    omega
  · exact S.clo a x w (by omega) hw
  · by_cases hc : a < i
    · exact S.eq a w hc hw
    · have : a = i := by omega
      subst this
      rw [hv] at hw
      obtain rfl := Option.some.inj hw
      exact hd
theorem dif_pr {u v : Word} (e : pr T O u = pr T O v) : Dif T O u ↔ Dif T O v := by
  unfold Dif Tab.acc
  unfold pr at e
  rw [(Prod.mk.inj e).1, (Prod.mk.inj e).2]
theorem pr_snoc_congr {u v : Word} {x : Nat} (e : pr T O u = pr T O v) : pr T O (u ++ [x]) = pr T O (v ++ [x]) := by
  rw [pr_snoc, pr_snoc]
  unfold pr at e
  rw [(Prod.mk.inj e).1, (Prod.mk.inj e).2]
theorem Srch.found (S : Srch T O k W i 0) {v : Word} (hv : W[i]? = some v) (hd : Dif T O v) : FDis k T O (some (idx k v)) := by
  have key : ∀ u, Wd k u → idx k u < idx k v → ∃ (a : Nat) (w : Word), W[a]? = some w ∧ a < i ∧ pr T O w = pr T O u ∧ idx k w ≤ idx k u := by
    refine snoc_cases _ (fun _ h => ?_) fun u x ih hu h => ?_
    · refine ⟨0, [], S.z, ?_, rfl, Nat.le_refl _⟩
      rcases Nat.eq_zero_or_pos i with rfl | z
      · rw [S.z] at hv
        obtain rfl := Option.some.inj hv
        omega
      · exact z
    · have hx := wd_snoc.mp hu
      have e := idx_snoc k u x
      have hk : 1 ≤ k := by omega
      have hle : idx k u ≤ k * idx k u := Nat.le_mul_of_pos_left _ hk
      obtain ⟨a, w, g1, g2, g3, g4⟩ := ih hx.1 (by omega)
      obtain ⟨b, w', f1, f2, f3⟩ := S.clo a x w (.inl ⟨g2, hx.2⟩) g1
      have hm : k * idx k w ≤ k * idx k u := Nat.mul_le_mul_left _ g4
      refine ⟨b, w', f1, ?_, f2.trans (pr_snoc_congr g3), by omega⟩
      by_cases hb : b < i
      · exact hb
      · by_cases hb2 : b = i
        · subst hb2
          rw [hv] at f1
          obtain rfl := Option.some.inj f1
          omega
        · have := S.up i b v w' (by omega) hv f1
          omega
  refine ⟨⟨v, S.wd v (List.mem_of_getElem? hv), rfl, hd⟩, fun u hu hlt hdu => ?_⟩
  obtain ⟨a, w, g1, g2, g3, _⟩ := key u hu hlt
  exact S.eq a w g2 g1 ((dif_pr g3).mpr hdu)
theorem Srch.none (S : Srch T O k W i 0) (hi : W.length ≤ i) : FDis k T O none := by
  have key : ∀ u, Wd k u → ∃ (a : Nat) (w : Word), W[a]? = some w ∧ pr T O w = pr T O u := by
    refine snoc_cases _ (fun _ => ⟨0, [], S.z, rfl⟩) fun u x ih hu => ?_
    have hx := wd_snoc.mp hu
    obtain ⟨a, w, g1, g2⟩ := ih hx.1
    have ha := (List.getElem?_eq_some_iff.mp g1).1
    obtain ⟨b, w', f1, f2, _⟩ := S.clo a x w (.inl ⟨by omega, hx.2⟩) g1
    exact ⟨b, w', f1, f2.trans (pr_snoc_congr g2)⟩
  intro u hu hdu
  obtain ⟨a, w, g1, g2⟩ := key u hu
  have ha := (List.getElem?_eq_some_iff.mp g1).1
  exact S.eq a w (by omega) g1 ((dif_pr g2).mpr hdu)
end
end Own
namespace Own
open PySem PySem.Spec PyProof.Rows L2
-- P1
section
variable {P : Program} {w : World} {K : PySem.W.Frag} {mg : Str → Option Value} {base : Heap}
end
-- P2
section
variable {P : Program} {w : World} {K : PySem.W.Frag} {mg : Str → Option Value} {base : Heap}
end
-- P3
section
variable {P : Program} {w : World} {K : PySem.W.Frag} {mg : Str → Option Value} {base : Heap}
end
-- P4
section
variable {P : Program} {w : World} {K : PySem.W.Frag} {mg : Str → Option Value} {base : Heap}
end
-- P5
theorem bit_map {n : Nat} (f : Nat → Bool) {s : Nat} (hs : s < n) : bit ((List.range n).map f) s = f s := by
  unfold bit
  rw [List.getD_eq_getElem?_getD, List.getElem?_map, List.getElem?_range hs]
  rfl
theorem at_bit {L : List Bool} {n s : Nat} (hl : L.length = n) (hs : s < n) : atI (L.map V.bl) (s : Nat) = some (.bl (bit L s)) := by
  have h2 : s < L.length := by omega
  refine atI_nat ?_
  rw [List.getElem?_map, List.getElem?_eq_getElem h2]
  unfold bit
  rw [List.getD_eq_getElem?_getD, List.getElem?_eq_getElem h2]
  rfl
theorem rep_flat {α : Type} (n : Nat) (x : α) : (List.replicate n [x]).flatten = List.replicate n x := by
  induction n with
  | zero => rfl
  | succ n ih =>
    rw [List.replicate_succ, List.flatten_cons, ih, List.replicate_succ]
    rfl
theorem RowsAt.opened {K : PySem.W.Frag} {H : Hp} {r : Addr} {T : Tab} {k n : Nat} (A1 : RowsAt K H r T.rows) (O : T.Ok k n) : ∃ as : List Addr, SqT K H r (as.map V.ref) ∧ (as.map V.ref).length = n ∧
    ∀ i, i < n → ∃ a, (as.map V.ref)[i]? = some (.ref a) ∧ SqT K H a ((T.rows.getD i []).map nV) := by
  obtain ⟨as, h1, k2, k3⟩ := A1
  refine ⟨as, h1, by rw [List.length_map, k2, O.rl], fun i hi => ?_⟩
  have h2 : i < T.rows.length := by rw [O.rl]; exact hi
  have h3 : i < as.length := by omega
  refine ⟨as[i], by rw [List.getElem?_map, List.getElem?_eq_getElem h3]; rfl, ?_⟩
  have e2 : T.rows.getD i [] = T.rows[i] := by rw [List.getD_eq_getElem?_getD, List.getElem?_eq_getElem h2, Option.getD_some]
  rw [e2]
  exact k3 i _ _ (List.getElem?_eq_getElem h3) (List.getElem?_eq_getElem h2)
section
variable {P : Program} {w : World} {K : PySem.W.Frag} {mg : Str → Option Value} {base : Heap}
end
-- P6
def kD (D : Cs) : List (Key × V) := D.map fun p => (kK p.1, nV p.2)
theorem kD_val {D : Cs} {t : Nat} : valV (kD D) (kK t) = if t ∈ keys D then some (nV (val D t)) else none := by
  induction D with
  | nil => rfl
  | cons p r ih =>
    obtain ⟨a, b⟩ := p
    show valV ((kK a, nV b) :: kD r) (kK t) = _
    rw [val]
    by_cases e : a = t
    · subst e
      rw [valV_pos rfl, if_pos rfl, if_pos (show a ∈ keys ((a, b) :: r) from List.mem_cons_self)]
    · rw [valV_neg (fun z => e (kK_inj z)), ih, if_neg e]
      by_cases h : t ∈ keys r
      · rw [if_pos h, if_pos (show t ∈ keys ((a, b) :: r) from List.mem_cons_of_mem _ h)]
      · rw [if_neg h, if_neg (show ¬ t ∈ keys ((a, b) :: r) from fun z => (List.mem_cons.mp z).elim (fun q => e q.symm) h)]
theorem kD_put {D : Cs} (nd : (keys D).Nodup) (t v : Nat) : putK (kD D) (kK t) (nV v) = kD (putD D t v) := by
  by_cases h : t ∈ keys D
  · have hv : valV (kD D) (kK t) = some (nV (val D t)) := by rw [kD_val, if_pos h]
    unfold putK
    rw [valV_any, hv, if_pos (show (some (nV (val D t))).isSome = true from rfl)]
    clear hv
    induction D with
    | nil => simp [keys] at h
    | cons p r ih =>
      obtain ⟨a, b⟩ := p
      obtain ⟨n1, n2⟩ := List.nodup_cons.mp (show (a :: keys r).Nodup from nd)
      show (if kK a = kK t then (kK a, nV v) else (kK a, nV b)) :: (kD r).map _ = kD (if a = t then (a, v) :: r else (a, b) :: putD r t v)
      by_cases e : a = t
      · subst e
        rw [if_pos rfl, if_pos rfl]
        show _ = (kK a, nV v) :: kD r
        congr 1
        have : ∀ q, q ∈ kD r → (if q.1 = kK a then (q.1, nV v) else q) = q := by
          intro q hq
          obtain ⟨z, hz, rfl⟩ := List.mem_map.mp hq
          rw [if_neg (fun e => n1 (by rw [← kK_inj e]; exact List.mem_map.mpr ⟨z, hz, rfl⟩))]
        rw [List.map_congr_left this]
        exact List.map_id _
      · rw [if_neg (fun z => e (kK_inj z)), if_neg e]
        show _ = (kK a, nV b) :: kD (putD r t v)
        congr 1
        exact ih n2 ((List.mem_cons.mp h).resolve_left fun q => e q.symm)
  · have hv : valV (kD D) (kK t) = none := by rw [kD_val, if_neg h]
    rw [putK_new _ hv]
    clear hv nd
    induction D with
    | nil => rfl
    | cons p r ih =>
      obtain ⟨a, b⟩ := p
      have e : a ≠ t := fun z => h (z ▸ List.mem_cons_self)
      show (kK a, nV b) :: (kD r ++ _) = kD (if a = t then (a, v) :: r else (a, b) :: putD r t v)
      rw [if_neg e]
      show _ = (kK a, nV b) :: kD (putD r t v)
      rw [ih fun z => h (List.mem_cons_of_mem _ z)]
theorem kD_length (D : Cs) : (kD D).length = D.length := List.length_map _
/-- counts, told by a function on what is useful -/
structure LevF (n : Nat) (U : Nat → Bool) (f : Nat → Nat) (D : Cs) : Prop where
  nd : (keys D).Nodup
  ok : ∀ s, s ∈ keys D → s < n ∧ U s = true ∧ 0 < val D s
  vl : ∀ s, s < n → U s = true → val D s = f s
theorem LevF.len {n : Nat} {U : Nat → Bool} {f : Nat → Nat} {D : Cs} (V : LevF n U f D) : D.length ≤ n := by
  have h := nodup_lt_length n V.nd fun x hx => (V.ok x hx).1
  unfold keys at h
  rwa [List.length_map] at h
theorem Lev.toF {T : Tab} {k n : Nat} {U : Nat → Bool} {X : List Word} {D : Cs} (V : Lev T k n U X D) : LevF n U (cX T X) D := ⟨V.nd, V.ok, V.vl⟩
theorem LevF.add {n : Nat} {U : Nat → Bool} {f : Nat → Nat} {D : Cs} (V : LevF n U f D) {t c : Nat} (ht : t < n) (hu : U t = true) (hc : 0 < c) : LevF n U (fun x => f x + if t = x then c else 0) (putD D t (val D t + c)) := by
  refine ⟨nd_put V.nd _ _, fun s hs => ?_, fun s hs hsu => ?_⟩
  · rw [val_put]
    by_cases e : t = s
    · subst e
      rw [if_pos rfl]
      exact ⟨ht, hu, by omega⟩
    · rw [if_neg e]
      rcases mem_put hs with h | h
      · exact V.ok s h
      · exact absurd h.symm e
  · rw [val_put]
    by_cases e : t = s
    · subst e
      rw [if_pos rfl, if_pos rfl, V.vl t hs hsu]
    · rw [if_neg e, if_neg e, V.vl s hs hsu, Nat.add_zero]
theorem LevF.congr {n : Nat} {U : Nat → Bool} {f g : Nat → Nat} {D : Cs} (V : LevF n U f D) (h : ∀ s, s < n → U s = true → f s = g s) : LevF n U g D := ⟨V.nd, V.ok, fun s hs hu => (V.vl s hs hu).trans (h s hs hu)⟩
structure UseL (T : Tab) (k n : Nat) (L : List Bool) : Prop where
  len : L.length = n
  iff : ∀ s, s < n → (bit L s = true ↔ Useful T k s)
/-! ### what stays where one object changes -/
def But (d : Addr) (H H' : Hp) : Prop := ∀ b o, b ≠ d → H b = some o → H' b = some o
section
variable {K : PySem.W.Frag} {H H' : Hp} {d a r t e : Addr} {T : Tab} {o : HO} {xs : List V}
theorem But.tup (s : But d H H') (hd : H d = some o) (h1 : ∀ ys, o ≠ .tup ys) (h2 : ∀ ob u, o ≠ .frz ob u) (h : SqT K H a xs) : SqT K H' a xs := by
  rcases h with (h | ⟨ob, h⟩) | h
  · exact .inl (.inl (s _ _ (ne_of h hd fun z => h1 _ z.symm) h))
  · exact .inl (.inr ⟨ob, s _ _ (ne_of h hd fun z => h2 _ _ z.symm) h⟩)
  · exact .inr h
theorem But.lst (s : But d H H') (hd : H d = some o) (h1 : ∀ ys, o ≠ .lst ys) (h2 : ∀ ob u, o ≠ .frz ob u) (h : SqL K H a xs) : SqL K H' a xs := by
  rcases h with (h | ⟨ob, h⟩) | h
  · exact .inl (.inl (s _ _ (ne_of h hd fun z => h1 _ z.symm) h))
  · exact .inl (.inr ⟨ob, s _ _ (ne_of h hd fun z => h2 _ _ z.symm) h⟩)
  · exact .inr h
theorem But.rows (s : But d H H') (hd : H d = some o) (h1 : ∀ ys, o ≠ .tup ys) (h2 : ∀ ob u, o ≠ .frz ob u) {rows : List (List Nat)} (h : RowsAt K H r rows) : RowsAt K H' r rows := by
  obtain ⟨as, k1, k2, k3⟩ := h
  exact ⟨as, s.tup hd h1 h2 k1, k2, fun i a row ha hr => s.tup hd h1 h2 (k3 i a row ha hr)⟩
theorem But.tab (s : But d H H') (hd : H d = some o) (h1 : ∀ ys, o ≠ .tup ys) (h2 : ∀ ob u, o ≠ .frz ob u) (h : TabAt K H t r e T) : TabAt K H' t r e T := ⟨s.tup hd h1 h2 h.top, s.rows hd h1 h2 h.rows, s.tup hd h1 h2 h.ends⟩
end
section
variable {P : Program} {w : World} {K : PySem.W.Frag} {mg : Str → Option Value} {base : Heap}
end
-- P7
theorem sumD_take {D : Cs} {i s c : Nat} (e : D[i]? = some (s, c)) (f : Nat → Nat) : sumD (D.take (i + 1)) f = sumD (D.take i) f + c * f s := by
  unfold sumD
  rw [List.take_add_one, e, List.map_append, List.sum_append]
  simp
theorem UseL.back {T : Tab} {k n : Nat} {L : List Bool} (UL : UseL T k n L) (O : T.Ok k n) : ∀ s l, s < n → l < k → bit L (T.st s l) = true → bit L s = true := by
  intro s l hs hl h
  obtain ⟨u, hu, ha⟩ := (UL.iff _ (O.st_lt hs hl)).mp h
  refine (UL.iff s hs).mpr ⟨l :: u, fun x hx => ?_, ha⟩
  rcases List.mem_cons.mp hx with rfl | hx
  · exact hl
  · exact hu x hx
theorem UseL.fin {T : Tab} {k n : Nat} {L : List Bool} (UL : UseL T k n L) : ∀ s, s < n → T.fin s = true → bit L s = true := fun s hs h => (UL.iff s hs).mpr ⟨[], fun l h => by simp at h, h⟩
section
variable {P : Program} {w : World} {K : PySem.W.Frag} {mg : Str → Option Value} {base : Heap}
end
-- P8
section
variable {P : Program} {w : World} {K : PySem.W.Frag} {mg : Str → Option Value} {base : Heap}
theorem sum_counts (T : Tab) (k : Nat) : ∀ m, (((List.range m).map fun j => (((T.W k 0 j).length : Nat) : Int))).sum = (sumW T k m : Nat)
  | 0 => rfl
  | m + 1 => by
    rw [List.range_succ, List.map_append, List.sum_append, sum_counts T k m, sumW]
    simp
end
-- P9
theorem sumW_le {T : Tab} {k a b : Nat} (h : a ≤ b) : sumW T k a ≤ sumW T k b := by
  induction h with
  | refl => exact Nat.le_refl _
  | step _ ih => exact Nat.le_trans ih (by rw [sumW]; omega)
/-- the useful stands to which j letters lead -/
structure LevS (T : Tab) (k n j : Nat) (S : List Nat) : Prop where
  nd : S.Nodup
  iff : ∀ s, s ∈ S ↔ s < n ∧ Useful T k s ∧ ∃ u, u ∈ texts k j ∧ T.run 0 u = s
theorem LevS.of {T : Tab} {k n j : Nat} {L : List Bool} {D : Cs} (UL : UseL T k n L) (V : Lev T k n (bit L) (texts k j) D) : LevS T k n j (keys D) := by
  refine ⟨V.nd, fun s => ⟨fun h => ?_, ?_⟩⟩
  · obtain ⟨h1, h2, h3⟩ := V.ok s h
    rw [V.vl s h1 h2] at h3
    obtain ⟨u, hu⟩ := List.exists_mem_of_length_pos h3
    obtain ⟨a, b⟩ := List.mem_filter.mp hu
    exact ⟨h1, (UL.iff s h1).mp h2, u, a, by simpa using b⟩
  · rintro ⟨h1, h2, u, hu, e⟩
    have h3 := V.vl s h1 ((UL.iff s h1).mpr h2)
    refine Classical.byContradiction fun hn => ?_
    rw [val_none hn] at h3
    have h4 : u ∈ (texts k j).filter fun v => decide (T.run 0 v = s) := List.mem_filter.mpr ⟨hu, by simpa using e⟩
    unfold cX at h3
    have := List.length_pos_of_mem h4
    omega
def LevAt (H : Hp) (T : Tab) (k n j : Nat) (a : Addr) : Prop := ∃ (o : Obj) (S : List Nat), PlainT o ∧ H a = some (.frz o (.tup (S.map nV))) ∧ LevS T k n j S
section
variable {P : Program} {w : World} {K : PySem.W.Frag} {mg : Str → Option Value} {base : Heap}
end
-- P10
theorem tYes_if {σ : L2.St} {H : Hp} {A B : Hp → Prop} (h : A H) : tYes σ H fun b H3 => if b = true then A H3 else B H3 := h
theorem at_neg1 {α : Type} {xs : List α} {N : Nat} {v : α} (hl : xs.length = N + 1) (h : xs[N]? = some v) : atI xs (-1) = some v := by
  have e : xs = xs.take N ++ [v] := by
    have h1 : xs.take (N + 1) = xs := List.take_of_length_le (by omega)
    have h2 := List.take_add_one (l := xs) (i := N)
    rw [h, h1] at h2
    exact h2
  rw [e]
  exact atI_last _ _
theorem putD_new {D : Cs} {t v : Nat} (h : t ∉ keys D) : putD D t v = D ++ [(t, v)] := by
  induction D with
  | nil => rfl
  | cons p r ih =>
    obtain ⟨a, b⟩ := p
    have e : a ≠ t := fun z => h (z ▸ List.mem_cons_self)
    rw [putD, if_neg e, ih fun z => h (List.mem_cons_of_mem _ z)]
    rfl
theorem val_map {S : List Nat} (g : Nat → Nat) (t : Nat) : val (S.map fun s => (s, g s)) t = if t ∈ S then g t else 0 := by
  induction S with
  | nil => rfl
  | cons a r ih =>
    rw [List.map_cons, val, ih]
    by_cases e : a = t
    · subst e
      rw [if_pos rfl, if_pos List.mem_cons_self]
    · rw [if_neg e]
      by_cases h : t ∈ r
      · rw [if_pos h, if_pos (List.mem_cons_of_mem _ h)]
      · rw [if_neg h, if_neg (fun z => (List.mem_cons.mp z).elim (fun q => e q.symm) h)]
theorem keys_map {S : List Nat} (g : Nat → Nat) : keys (S.map fun s => (s, g s)) = S := by
  unfold keys
  rw [List.map_map]
  exact List.map_id _
theorem W_zero (T : Tab) (k s : Nat) : (T.W k s 0).length = if T.fin s = true then 1 else 0 := by
  unfold Tab.W texts
  rw [List.filter_cons]
  show (if T.fin s = true then _ else _ : List Word).length = _
  by_cases h : T.fin s = true
  · rw [if_pos h, if_pos h]
    rfl
  · rw [if_neg h, if_neg h]
    rfl
theorem W_len_succ (T : Tab) (k s m : Nat) : (T.W k s (m + 1)).length = ((List.range k).map fun l => (T.W k (T.st s l) m).length).sum := by
  rw [W_succ, List.length_flatMap]
  simp only [List.length_map]
theorem useful_of_W {T : Tab} {k s m : Nat} (h : (T.W k s m).length ≠ 0) : Useful T k s := by
  obtain ⟨u, hu⟩ := List.exists_mem_of_length_pos (Nat.pos_of_ne_zero h)
  obtain ⟨_, h2, h3⟩ := mem_W.mp hu
  exact ⟨u, h2, h3⟩
theorem LevS.lt {T : Tab} {k n j : Nat} {S : List Nat} (h : LevS T k n j S) : S.length ≤ n := nodup_lt_length n h.nd fun s hs => ((h.iff s).mp hs).1
theorem LevS.step {T : Tab} {k n j s l m : Nat} {S S' : List Nat} (O : T.Ok k n) (h : LevS T k n j S) (h' : LevS T k n (j + 1) S') (hs : s ∈ S) (hl : l < k) (hne : (T.W k (T.st s l) m).length ≠ 0) : T.st s l ∈ S' := by
  obtain ⟨h1, _, u, hu, e⟩ := (h.iff s).mp hs
  refine (h'.iff _).mpr ⟨O.st_lt h1 hl, useful_of_W hne, u ++ [l], ?_, ?_⟩
  · obtain ⟨a, b⟩ := mem_texts.mp hu
    refine mem_texts.mpr ⟨by rw [List.length_append, a]; rfl, fun x hx => ?_⟩
    rcases List.mem_append.mp hx with q | q
    · exact b x q
    · rw [List.mem_singleton.mp q]
      exact hl
  · rw [Tab.run_append, e]
    rfl
theorem sum_int_nat (f : Nat → Nat) : ∀ m, ((List.range m).map fun l => ((f l : Nat) : Int)).sum = (((List.range m).map f).sum : Nat)
  | 0 => rfl
  | m + 1 => by
    rw [List.range_succ, List.map_append, List.map_append, List.sum_append, List.sum_append, sum_int_nat f m]
    simp
theorem getD_at {S : List Nat} {i s : Nat} (h : S[i]? = some s) : S.getD i 0 = s := by rw [List.getD_eq_getElem?_getD, h, Option.getD_some]
section
variable {P : Program} {w : World} {K : PySem.W.Frag} {mg : Str → Option Value} {base : Heap}
end
-- P11
theorem ifv {α β γ δ : Type} {c : Bool} {a b : α → β → (γ → δ → Prop) → Prop} {σ : α} {H : β} {k : γ → δ → Prop} (v : γ) (H2 : δ) (main : c = true → k v H2 → a σ H k) (els : c = false → k v H2 → b σ H k) (rest : k v H2) :
    if c = true then a σ H k else b σ H k := by
  cases c with
  | true => exact main rfl rest
  | false => exact els rfl rest
theorem flat_one (pre : Word) : (pre.map fun l => [l]).flatten = pre := by
  induction pre with
  | nil => rfl
  | cons a r ih =>
    rw [List.map_cons, List.flatten_cons, ih]
    rfl
theorem len_one (pre : Word) : (((pre.map fun l => [l]).map tx).map (·.length)).sum = pre.length := by
  induction pre with
  | nil => rfl
  | cons a r ih =>
    rw [List.map_cons, List.map_cons, List.map_cons, List.sum_cons, ih, tx_length, List.length_cons, List.length_cons]
    simp
    omega
theorem inV_nV (S : List Nat) (t : Nat) : inV (nV t) (S.map nV) = decide (t ∈ S) := by
  unfold inV
  rw [Bool.eq_iff_iff, List.any_eq_true, decide_eq_true_eq]
  constructor
  · rintro ⟨x, hx, h⟩
    obtain ⟨s, hs, rfl⟩ := List.mem_map.mp hx
    have e : ((s : Nat) : Int) = (t : Nat) := by simpa [eqV, nV] using h
    have e2 : s = t := by omega
    rw [← e2]
    exact hs
  · intro h
    exact ⟨nV t, List.mem_map.mpr ⟨t, h, rfl⟩, by simp [eqV, nV]⟩
theorem flat_nV (S : List Nat) : (S.map nV).all flatV = true := by
  rw [List.all_map]
  exact List.all_eq_true.mpr fun _ _ => rfl
theorem idx_int (S : List Nat) (t : Nat) : (S.map fun s => ((s : Nat) : Int)).idxOf ((t : Nat) : Int) = S.idxOf t := by
  induction S with
  | nil => rfl
  | cons a r ih =>
    rw [List.map_cons, List.idxOf_cons, List.idxOf_cons, ih]
    have e : (((a : Nat) : Int) == ((t : Nat) : Int)) = (a == t) := by
      rw [Bool.eq_iff_iff, beq_iff_eq, beq_iff_eq]
      omega
    rw [e]
theorem at_idx (S : List Nat) (f : Nat → V) {t : Nat} (h : t ∈ S) : (S.map f)[S.idxOf t]? = some (f t) := by
  have h1 : S.idxOf t < S.length := List.idxOf_lt_length_of_mem h
  rw [List.getElem?_map, List.getElem?_eq_getElem h1, List.getElem_idxOf h1]
  rfl
/-- what is left of an index, letter by letter -/
theorem unrank {T : Tab} {k s m : Nat} {rest : Word} : ∀ (d l lft : Nat), l + d = k → ((List.range' l d).flatMap fun a => (T.W k (T.st s a) m).map (a :: ·))[lft]? = some rest →
    0 < d ∧ (lft < (T.W k (T.st s l) m).length → ∃ v, rest = l :: v ∧ (T.W k (T.st s l) m)[lft]? = some v) ∧
    (¬ lft < (T.W k (T.st s l) m).length → ((List.range' (l + 1) (d - 1)).flatMap fun a => (T.W k (T.st s a) m).map (a :: ·))[lft - (T.W k (T.st s l) m).length]? = some rest)
  | 0, l, lft, _, h => by simp at h
  | d + 1, l, lft, _, h => by
    rw [List.range'_succ, List.flatMap_cons] at h
    refine ⟨by omega, fun hl => ?_, fun hl => ?_⟩
    · rw [List.getElem?_append_left (by rw [List.length_map]; exact hl), List.getElem?_map] at h
      cases e : (T.W k (T.st s l) m)[lft]? with
      | none =>
        rw [e] at h
        cases h
      | some v =>
        rw [e] at h
        exact ⟨v, (Option.some.inj h).symm, rfl⟩
    · rw [List.getElem?_append_right (by rw [List.length_map]; omega), List.length_map] at h
      exact h
theorem W_range (T : Tab) (k s m : Nat) : T.W k s (m + 1) = (List.range' 0 k).flatMap fun a => (T.W k (T.st s a) m).map (a :: ·) := by
  rw [W_succ, List.range_eq_range']
section
variable {P : Program} {w : World} {K : PySem.W.Frag} {mg : Str → Option Value} {base : Heap}
end
-- P12
theorem Zs_wd {k : Nat} {u : Word} (hu : Wd k u) : ∀ i, i ≤ u.length → ∀ w, w ∈ Zs k u i → Wd k w
  | 0, _, w, h => by simp [Zs] at h
  | i + 1, hi, w, h => by
    rcases List.mem_append.mp h with h | h
    · obtain ⟨v, hv, h⟩ := List.mem_flatMap.mp h
      obtain ⟨l, hl, rfl⟩ := List.mem_map.mp h
      intro x hx
      rcases List.mem_append.mp hx with q | q
      · exact Zs_wd hu i (by omega) v hv x q
      · rw [List.mem_singleton.mp q]
        exact List.mem_range.mp hl
    · obtain ⟨l, hl, rfl⟩ := List.mem_map.mp h
      have hl := List.mem_range.mp hl
      have hi' : i < u.length := by omega
      have ha : u.getD i 0 < k := by
        rw [List.getD_eq_getElem?_getD, List.getElem?_eq_getElem hi', Option.getD_some]
        exact hu _ (List.getElem_mem hi')
      intro x hx
      rcases List.mem_append.mp hx with q | q
      · exact hu x (List.mem_of_mem_take q)
      · rw [List.mem_singleton.mp q]
        omega
section
variable {P : Program} {w : World} {K : PySem.W.Frag} {mg : Str → Option Value} {base : Heap}
end
-- P13
/-- the first text that leads to an end -/
def fstW (T : Tab) (k n : Nat) : Option Word := ((fF T k n).find? fun p => T.fin p.1).map (·.2)
theorem find_take_succ {α : Type} {l : List α} {p : α → Bool} {i : Nat} {x : α} (e : l[i]? = some x) (h : (l.take i).find? p = none) : (l.take (i + 1)).find? p = if p x = true then some x else none := by
  rw [List.take_add_one, e, List.find?_append, h]
  simp [List.find?_cons]
  split <;> simp_all
theorem find_take_some {α : Type} {l : List α} {p : α → Bool} {i : Nat} {x : α} (h : (l.take i).find? p = some x) : l.find? p = some x := by
  rw [← List.take_append_drop i l, List.find?_append, h]
  rfl
section
variable {P : Program} {w : World} {K : PySem.W.Frag} {mg : Str → Option Value} {base : Heap}
end
-- Q6
/-- the numbers of a kind, in their order -/
structure Srt (S : List Nat) (A : Nat → Prop) : Prop where
  pw : S.Pairwise (· < ·)
  iff : ∀ j, j ∈ S ↔ A j
theorem Srt.len {S : List Nat} {A : Nat → Prop} (h : Srt S A) {b : Nat} (hb : ∀ j, A j → j ≤ b) : S.length ≤ b + 1 :=
  nodup_lt_length (b + 1) (h.pw.imp fun h e => by omega) fun x hx => by
    have := hb x ((h.iff x).mp hx)
    omega
theorem Srt.ext {S : List Nat} {A B : Nat → Prop} (h : Srt S A) (e : ∀ j, A j ↔ B j) : Srt S B := ⟨h.pw, fun j => (h.iff j).trans (e j)⟩
theorem ints_nat {F : List Nat} {ns : List Int} (h1 : ns.Pairwise (· < ·)) (h2 : ∀ k, k ∈ ns ↔ k ∈ F.map fun i => ((i : Nat) : Int)) : ∃ S : List Nat, ns.map V.int = S.map nV ∧ Srt S (· ∈ F) := by
  have hn : ∀ k, k ∈ ns → 0 ≤ k := fun k hk => by
    obtain ⟨i, _, rfl⟩ := List.mem_map.mp ((h2 k).mp hk)
    omega
  have e : ns = (ns.map Int.toNat).map fun i => ((i : Nat) : Int) := by
    rw [List.map_map]
    conv => lhs; rw [← List.map_id ns]
    exact List.map_congr_left fun k hk => by
      show k = ((k.toNat : Nat) : Int)
      have := hn k hk
      omega
  refine ⟨ns.map Int.toNat, ?_, ?_, fun j => ?_⟩
  · conv => lhs; rw [e]
    rw [List.map_map]
    rfl
  · refine List.pairwise_map.mpr ?_
    refine (List.Pairwise.and_mem.mp h1).imp fun {a b} h => ?_
    obtain ⟨ha, hb, hab⟩ := h
    have := hn a ha
    have := hn b hb
    omega
  · constructor
    · intro hj
      obtain ⟨k, hk, rfl⟩ := List.mem_map.mp hj
      obtain ⟨i, hi, e⟩ := List.mem_map.mp ((h2 k).mp hk)
      have : k.toNat = i := by omega
      rw [this]
      exact hi
    · intro hj
      exact List.mem_map.mpr ⟨(j : Int), (h2 _).mpr (List.mem_map.mpr ⟨j, hj, rfl⟩), rfl⟩
section
variable {P : Program} {w : World} {K : PySem.W.Frag} {mg : Str → Option Value} {base : Heap}
/-- sorted(set(l)) of a list of numbers -/
theorem srt_set {σ : L2.St} {H : Hp} {Q : VK} {i : Nat} {a : Addr} {F : List Nat} (hi : σ[i]? = some (some (.ref a))) (ha : SqL K H a (F.map nV)) (hl : F.length ≤ 4000)
    (q : ∀ (S : List Nat) (l : Addr) (H' : Hp), Srt S (· ∈ F) → Same H H' → H l = none → H' l = some (.lst (S.map nV)) → Q (.ref l) H') :
    tCB (rSorted1 w) (tCons (tCB (rSet1 w K) (tCons (tVar i) tNil)) tNil) σ H Q := by
  refine ⟨_, hi, a, F.map fun i => ((i : Nat) : Int), rfl, by rw [List.map_map]; exact ha, by rw [List.length_map]; omega, fun p c np => ?_⟩
  have s1 := same_new np (SetO w p (fun j => decide (j ∈ F.map fun i => ((i : Nat) : Int))) c)
  refine ⟨p, _, c, rfl, upd_same, fun ns l h1 h2 nl => ?_⟩
  obtain ⟨S, e, hS⟩ := ints_nat h1 fun k => (h2 k).trans (by rw [decide_eq_true_iff])
  refine q S l _ hS (s1.trans (same_new nl _)) (s1.free nl) ?_
  rw [upd_same, e]
end
-- Q7
/-- data: lists of numbers -/
def dIs (L : List Nat) : PyData := .list (L.map fun i => .int (i : Nat))
theorem eqv_dI (u v : Nat) : PyData.eqv (.int (u : Nat)) (.int (v : Nat)) = decide (u = v) := by
  simp only [PyData.eqv]
  rw [Bool.eq_iff_iff, beq_iff_eq, decide_eq_true_iff]
  omega
theorem eqv_dIs (L M : List Nat) : PyData.eqv (dIs L) (dIs M) = decide (L = M) := by
  unfold dIs
  rw [PyData.eqv]
  exact eqvAll_map _ eqv_dI L M
theorem canLay_dIs (L : List Nat) : (dIs L).canLay0 = true := by
  unfold dIs
  rw [PyData.canLay0]
  exact canLay_map _ (fun x => by simp [PyData.canLay0]) L
theorem depth_dIs (L : List Nat) : (dIs L).depth ≤ 1 := by
  have h := depth_map (fun i : Nat => PyData.int (i : Nat)) 0 (fun x => by simp [PyData.depth]) L
  unfold dIs
  simp only [PyData.depth]
  omega
theorem shaped_dIs (L : List Nat) : SeqAt.shaped (dIs L) = true := by
  unfold SeqAt.shaped
  rw [canLay_dIs, decide_eq_true (Nat.le_trans (depth_dIs L) (by decide))]
  rfl
theorem dp_dIs {K : PySem.W.Frag} {H : Hp} {a : Addr} {L : List Nat} (h : SqL K H a (L.map nV)) : Dp K H (.ref a) (dIs L) := .lst h (dpAll_map _ _ L fun x _ => .int _)
theorem filt_get (S : List Nat) (P : Nat → Bool) : ((List.range S.length).filter fun i => P (S.getD i 0)).map (fun i => nV (S.getD i 0)) = (S.filter P).map nV := by
  induction S with
  | nil => rfl
  | cons a r ih =>
    rw [List.length_cons, List.range_succ_eq_map, List.filter_cons, List.filter_map, List.filter_cons]
    have e0 : ∀ i, (a :: r).getD (i + 1) 0 = r.getD i 0 := fun i => by simp [List.getD_eq_getElem?_getD]
    have e1 : (a :: r).getD 0 0 = a := rfl
    have e2 : ((fun i => P ((a :: r).getD i 0)) ∘ Nat.succ) = fun i => P (r.getD i 0) := by
      funext i
      show P ((a :: r).getD (i + 1) 0) = _
      rw [e0]
    have e3 : ((fun i => nV ((a :: r).getD i 0)) ∘ Nat.succ) = fun i => nV (r.getD i 0) := by
      funext i
      show nV ((a :: r).getD (i + 1) 0) = _
      rw [e0]
    rw [e1, e2]
    by_cases h : P a = true
    · rw [if_pos h, if_pos h, List.map_cons, List.map_cons, List.map_map, e3, ih, e1]
    · rw [if_neg h, if_neg h, List.map_map, e3, ih]
/-- sorted, of a list without doubles -/
theorem ints_perm {F : List Nat} (nd : F.Nodup) {ns : List Int} (h1 : ns.Perm (F.map fun i => ((i : Nat) : Int))) (h2 : ns.Pairwise (· ≤ ·)) : ∃ S : List Nat, ns.map V.int = S.map nV ∧ Srt S (· ∈ F) ∧ S.length = F.length := by
  have h3 : (F.map fun i => ((i : Nat) : Int)).Nodup := List.pairwise_map.mpr (nd.imp fun h e => h (by omega))
  have h4 : ns.Nodup := h1.nodup_iff.mpr h3
  have h5 : ns.Pairwise (· < ·) := (h2.and h4).imp fun {a b} h => by
    have := h.1
    have : a ≠ b := h.2
    omega
  obtain ⟨S, e, hS⟩ := ints_nat (F := F) h5 fun k => h1.mem_iff
  refine ⟨S, e, hS, ?_⟩
  have := congrArg List.length e
  rw [List.length_map, List.length_map, h1.length_eq, List.length_map] at this
  exact this.symm
/-- where both sides of an if go on alike -/
theorem ifs_cut {c : Bool} {A : TS} {D : Ends} {σ : L2.St} {H : Hp} (R : L2.St → Hp → Prop) (h1 : c = true → (∀ σ H, R σ H → D.nx σ H) → A D σ H) (h2 : c = false → R σ H) (rest : ∀ σ H, R σ H → D.nx σ H) :
    if c = true then A D σ H else tNext D σ H := by
  cases c with
  | true => exact h1 rfl rest
  | false => exact rest _ _ (h2 rfl)
theorem goN_none {A : Word → Prop} {t : Word} {i n : Nat} (h : ∀ j, ¬ GoN A t n i j) : ∀ d j, ¬ GoN A t (n + d) i j := by
  intro d
  induction d with
  | zero => exact h
  | succ d ih =>
    intro j hj
    obtain ⟨x, hx, _⟩ := goN_succ.mp (show GoN A t ((n + d) + 1) i j from hj)
    exact ih x hx
section
variable {P : Program} {w : World} {K : PySem.W.Frag} {mg : Str → Option Value} {base : Heap}
end
-- Q8
theorem no_str {a b : Str} {A B : Prop} (hB : B) (h : decide (V.str a = V.str b) = false := by decide +kernel) : if decide (V.str a = V.str b) = true then A else B := by
  rw [h]
  exact iteF hB
theorem yes_str {a b : Str} {A B : Prop} (hA : A) (h : decide (V.str a = V.str b) = true := by decide +kernel) : if decide (V.str a = V.str b) = true then A else B := by
  rw [h]
  exact iteT hA
theorem L_row (ps : Pats) : L (.row ps) = LRow ps := by
  funext w
  rw [L]
theorem L_any (ps : Pats) : L (.any ps) = LAny ps := by
  funext w
  rw [L]
theorem L_group (p : Pat) : L (.group p) = L p := by
  funext w
  rw [L]
section
variable {P : Program} {w : World} {K : PySem.W.Frag} {mg : Str → Option Value} {base : Heap}
end
end Own
namespace Own
open PySem PySem.Spec PyProof.Rows L2
section
variable {P : Program} {w : World} {K : PySem.W.Frag} {mg : Str → Option Value} {base : Heap}
abbrev s_law_cell_at : Stmt := topS 31
theorem sc_law_cell_at : FnScope ["script", "k"] ["script", "k"] (defScope s_law_cell_at) := ⟨rfl, rfl, rfl, by decide +kernel, rfl, by decide +kernel, by decide +kernel⟩
def sp_law_cell_at (K : PySem.W.Frag) : Sp := fun vs H Q _ => ∃ (s : Addr) (xs : List Int) (k : Nat), vs = [.ref s, nV k] ∧ SqL K H s (xs.map V.int) ∧ ∀ i, Q (.int i) H
theorem ok_law_cell_at {f : Addr} {fd : FuncData} (F : Fun K "_law_cell_at" "_law_cell_at" s_law_cell_at f fd) (B : Bt mg) : FnOk P w K mg base CX0 1 f fd ["script", "k"] (sp_law_cell_at K) := by
  refine F.ok sc_law_cell_at (fun vs H Q E h => ?_) (fun cdv A outer s0 H vs Q E hr h => ?_)
  · obtain ⟨s, xs, k, rfl, _⟩ := h
    rfl
  obtain ⟨s, xs, k, rfl, hs, q⟩ := h
  refine ⟨_, (pss_cons (ps_if (pt_cmpR op_lt (pv 1) (pe_callB (c_len K) (by rfl) B.len bt_len (pa_cons (pv 0) pa_nil)) (nomark _)) (pss_one (ps_ret (p_ixl K (pv 0) (pv 1)))) pss_nil) (pss_one (ps_ret pe_int))), ?_⟩
  refine ⟨_, rfl, _, rfl, s, _, rfl, .inl hs, _, _, rfl, rfl, _, rfl, ite2 (fun c => ?_) (fun c => ?_)⟩
  · have c := of_decide_eq_true c
    rw [List.length_map] at c
    have hk : k < xs.length := by omega
    have e : (xs.map V.int)[k]? = some (.int xs[k]) := by rw [List.getElem?_map, List.getElem?_eq_getElem hk]; rfl
    exact ⟨_, rfl, _, rfl, s, _, _, _, rfl, rfl, hs, atI_nat e, q _⟩
  · exact q 0
abbrev s_law_draw : Stmt := topS 32
theorem sc_law_draw : FnScope ["cell", "k", "bound", "primes"] ["cell", "k", "bound"] (defScope s_law_draw) := ⟨rfl, rfl, rfl, by decide +kernel, rfl, by decide +kernel, by decide +kernel⟩
def sp_law_draw : Sp := fun vs H Q _ => ∃ (c k b : Int), vs = [.int c, .int k, .int b] ∧ 0 < b ∧ ∀ (r : Nat) H', ((r : Nat) : Int) < b → Same H H' → Q (nV r) H'
theorem fmod_nat {i b : Int} (h : 0 < b) : ∃ r : Nat, i.fmod b = (r : Int) ∧ ((r : Nat) : Int) < b := by
  have e : i.fmod b = i % b := Int.fmod_eq_emod_of_nonneg i (by omega)
  have h1 := Int.emod_nonneg i (show b ≠ 0 by omega)
  have h2 := Int.emod_lt_of_pos i h
  exact ⟨(i % b).toNat, by omega, by omega⟩
def prs : List Int := [1000003, 1000033, 1000037, 1000039, 1000081, 1000099, 1000117, 1000121, 1000133, 1000151, 1000159, 1000171, 1000183, 1000187, 1000193, 1000199]
theorem prs_at (r : Nat) (h : r < 16) : ∃ z : Int, z ≠ 0 ∧ atI (prs.map V.int) (r : Nat) = some (.int z) := by
  have hl : r < prs.length := h
  have h0 : ∀ x, x ∈ prs → x ≠ 0 := by decide
  exact ⟨prs[r], h0 _ (List.getElem_mem hl), atI_nat (by rw [List.getElem?_map, List.getElem?_eq_getElem hl]; rfl)⟩
theorem ok_law_draw {f : Addr} {fd : FuncData} (F : Fun K "_law_draw" "_law_draw" s_law_draw f fd) (B : Bt mg) : FnOk P w K mg base CX0 1 f fd ["cell", "k", "bound"] sp_law_draw := by
  refine F.ok sc_law_draw (fun vs H Q E h => ?_) (fun cdv A outer s0 H vs Q E hr h => ?_)
  · obtain ⟨c, k, b, rfl, _⟩ := h
    rfl
  obtain ⟨c, k, b, rfl, hb, q⟩ := h
  refine ⟨_, (pss_cons (ps_set (i := 3) sc_law_draw.nd rfl (Or.inl rfl) (pe_tup (pa_cons pe_int (pa_cons pe_int (pa_cons pe_int (pa_cons pe_int (pa_cons pe_int (pa_cons pe_int (pa_cons pe_int (pa_cons pe_int (pa_cons pe_int (pa_cons pe_int (pa_cons pe_int (pa_cons pe_int (pa_cons pe_int (pa_cons pe_int (pa_cons pe_int (pa_cons pe_int pa_nil)))))))))))))))))) (pss_one (ps_ret (pe_op op_modN (pe_op op_modN (pe_callTy call_int1 (by rfl) B.int bt_int (pa_cons (pe_op op_add (pe_op op_mul (pv 0) pe_int) (pe_op op_mul (pv 1) pe_int)) pa_nil)) (p_ixt K (pv 3) (pe_op op_modN (pe_callTy call_int1 (by rfl) B.int bt_int (pa_cons (pv 1) pa_nil)) pe_int))) (pv 2))))), ?_⟩
  refine ⟨by decide, fun p np => ?_⟩
  have s1 : Same H (upd H p (.tup (prs.map V.int))) := same_new np _
  obtain ⟨r, er, hr16⟩ := fmod_nat (i := k) (b := 16) (by decide)
  obtain ⟨z, hz, hat⟩ := prs_at r (by omega)
  obtain ⟨r2, er2, hr2⟩ := fmod_nat (i := (c * 48271 + k * 69621).fmod z) hb
  refine ⟨_, rfl, _, _, rfl, rfl, .inr ⟨by decide, by decide⟩, _, rfl, _, _, rfl, rfl, .inr ⟨by decide, by decide⟩, _, _, rfl, rfl, .inl ⟨_, rfl, ?_⟩⟩
  refine ⟨_, rfl, _, rfl,   .inl ⟨_, rfl, _, _, rfl, rfl, (show (16 : Int) ≠ 0 by decide), p, _, _, _, rfl, rfl, SqT.new, ?_, _, _, rfl, rfl, hz, _, rfl, _, _, rfl, rfl, by omega, ?_⟩⟩
  · rw [er]
    exact hat
  · show Q (.int (((c * 48271 + k * 69621).fmod z).fmod b)) _
    rw [er2]
    exact q r2 _ hr2 s1
abbrev s_law_number : Stmt := topS 33
theorem sc_law_number : FnScope ["cell", "k", "bound", "power", "lap", "remains", "small"] ["cell", "k", "bound"] (defScope s_law_number) := ⟨rfl, rfl, rfl, by decide +kernel, rfl, by decide +kernel, by decide +kernel⟩
def sp_law_number : Sp := fun vs H Q _ => ∃ (c b : Int) (k : Nat), vs = [.int c, nV k, .int b] ∧ 0 < b ∧ k ≤ 1000 ∧ ∀ (r : Nat) H', ((r : Nat) : Int) < b → Same H H' → Q (nV r) H'
theorem log_pow : ∀ i, i ≤ 24 → ((1009 : Int) ^ i).natAbs.log2 < 9000
  | i, h => by
    rw [Int.natAbs_pow]
    have h1 : (1009 : Nat) ^ i ≤ 1009 ^ 24 := Nat.pow_le_pow_right (by decide) h
    have h2 : (1009 : Nat) ^ 24 < 2 ^ 300 := by decide
    have h3 : Int.natAbs 1009 = 1009 := rfl
    rw [h3]
    have h4 := (Nat.log2_lt (n := 1009 ^ i) (k := 300) (Nat.pos_iff_ne_zero.mp (Nat.pow_pos (by decide)))).mpr (by omega)
    omega
theorem ok_law_number {f : Addr} {fd : FuncData} (F : Fun K "_law_number" "_law_number" s_law_number f fd) (B : Bt mg) (C_law_draw : Got P w K mg base CX0 1 "_law_draw" ["cell", "k", "bound"] sp_law_draw) : FnOk P w K mg base CX0 2 f fd ["cell", "k", "bound"] sp_law_number := by
  refine F.ok sc_law_number (fun vs H Q E h => ?_) (fun cdv A outer s0 H vs Q E hr h => ?_)
  · obtain ⟨c, b, k, rfl, _⟩ := h
    rfl
  obtain ⟨c, b, k, rfl, hb, hk, q⟩ := h
  refine ⟨_, (pss_cons (ps_set (i := 3) sc_law_number.nd rfl (Or.inl rfl) pe_int) (pss_cons (ps_for PassesOwn.never rfl (pi_range1 (by rfl) B.range (pa_cons (pe_op op_modN (pe_callTy call_int1 (by rfl) B.int bt_int (pa_cons (pv 1) pa_nil)) pe_int) pa_nil)) (pg_name (i := 4) sc_law_number.nd rfl (Or.inl rfl)) (pss_one (ps_set (i := 3) sc_law_number.nd rfl (Or.inl rfl) (pe_op op_mul (pv 3) pe_int)))) (pss_cons (ps_set (i := 5) sc_law_number.nd rfl (Or.inl rfl) (pe_op op_fdivW (pe_op op_sub (pv 0) (pe_op op_pow pe_int pe_int)) (pv 3))) (pss_cons (ps_if (pt_cmpR op_gt (pv 5) pe_int (nomark _)) (pss_one (ps_ret (pe_op op_modN (pe_op op_modN (pe_callTy call_int1 (by rfl) B.int bt_int (pa_cons (pv 5) pa_nil)) pe_int) (pv 2)))) pss_nil) (pss_cons (ps_set (i := 6) sc_law_number.nd rfl (Or.inl rfl) (pe_op op_modN (pe_callTy call_int1 (by rfl) B.int bt_int (pa_cons (pv 0) pa_nil)) pe_int)) (pss_one (ps_ret (pe_op op_modN (C_law_draw.call hr (by rfl) (pa_cons (pe_op op_mul (pe_op op_add (pv 6) (pe_op op_mul pe_int (pv 1))) (pe_op op_add (pe_op op_add (pv 6) (pe_op op_mul pe_int (pv 1))) pe_int)) (pa_cons (pe_op op_add (pe_op op_modN (pe_callTy call_int1 (by rfl) B.int bt_int (pa_cons (pv 1) pa_nil)) pe_int) pe_int) (pa_cons pe_int pa_nil)))) (pv 2))))))))), ?_⟩
  obtain ⟨r0, er0, hr0⟩ := fmod_nat (i := ((k : Nat) : Int)) (b := 24) (by decide)
  refine ⟨_, rfl, .inl ⟨_, rfl, _, _, rfl, rfl, (show (24 : Int) ≠ 0 by decide), ((r0 : Nat) : Int), congrArg (fun z => [V.int z]) er0, by omega, by omega, ?_⟩⟩
  refine for_range (lo := 0) (n := (((r0 : Nat) : Int)).toNat) (fun i σ H1 => ∃ v, σ = [some (.int c), some (nV k), some (.int b), some (.int (1009 ^ i)), v, none, none] ∧ H1 = H) ⟨none, rfl, rfl⟩ ?_ ?_
  · rintro i σ H1 hi ⟨v, rfl, rfl⟩
    refine ⟨_, rfl, _, _, rfl, rfl, .inr ⟨by decide, by decide⟩, ?_⟩
    exact ⟨_, rfl, rfl⟩
  · rintro σ H1 ⟨v, rfl, rfl⟩
    rw [Int.toNat_natCast]
    have h1 := log_pow r0 (by omega)
    have h2 : (0 : Int) < 1009 ^ r0 := Int.pow_pos (by decide)
    refine ⟨_, rfl, _, _, rfl, rfl, ⟨by decide, by decide, by decide⟩, _, _, rfl, rfl, _, rfl, _, _, rfl, rfl, ⟨h2, h1⟩, ?_⟩
    refine ⟨_, rfl, _, _, rfl, rfl, _, rfl, ite2 (fun _ => ?_) (fun _ => ?_)⟩
    · obtain ⟨r, er, hr⟩ := fmod_nat (i := ((c - 10 ^ 18) / 1009 ^ r0).fmod 1009) hb
      refine ⟨_, rfl, .inl ⟨_, rfl, _, _, rfl, rfl, (show (1009 : Int) ≠ 0 by decide), _, rfl, _, _, rfl, rfl, by omega, ?_⟩⟩
      show Q (.int (((((c - 10 ^ 18) / 1009 ^ r0).fmod 1009)).fmod b)) _
      rw [er]
      exact q r _ hr (Same.refl _)
    · obtain ⟨sm, esm, hsm⟩ := fmod_nat (i := c) (b := 1000003) (by decide)
      refine ⟨_, rfl, .inl ⟨_, rfl, _, _, rfl, rfl, (show (1000003 : Int) ≠ 0 by decide), ?_⟩⟩
      show gName 6 (V.int (c.fmod 1000003)) _ _ _
      rw [esm]
      refine ⟨_, rfl, _, rfl, _, _, rfl, rfl, .inl ⟨by decide, by decide⟩, _, _, rfl, rfl, _, rfl, _, rfl, _, _, rfl, rfl, .inl ⟨by decide, by decide⟩, _, _, rfl, rfl, _, _, rfl, rfl, _, _, rfl, rfl, .inl ⟨by omega, by omega⟩, ?_⟩
      refine ⟨_, rfl, .inl ⟨_, rfl, _, _, rfl, rfl, (show (9 : Int) ≠ 0 by decide), _, _, rfl, rfl, _, _, _, rfl, (show (0 : Int) < 999983 by decide), fun r H1 hr s1 => ?_⟩⟩
      obtain ⟨r2, er2, hr2⟩ := fmod_nat (i := ((r : Nat) : Int)) hb
      refine ⟨_, rfl, _, _, rfl, rfl, by omega, ?_⟩
      show Q (.int (((r : Nat) : Int).fmod b)) _
      rw [er2]
      exact q r2 _ hr2 s1
abbrev s_law_next : Stmt := topS 34
theorem sc_law_next : FnScope ["draw", "bound", "at", "cell"] ["draw", "bound"] (defScope s_law_next) := ⟨rfl, rfl, rfl, by decide +kernel, rfl, by decide +kernel, by decide +kernel⟩
/-- what is drawn from: the script, 0, how much was drawn -/
def DrawAt (H : Hp) (d s : Addr) (xs : List Int) (y : Nat) : Prop := H d = some (.lst [.ref s, nV 0, nV y]) ∧ H s = some (.lst (xs.map V.int)) ∧ s ≠ d
def DrawOk (H : Hp) (d s : Addr) : Prop := ∃ xs y, DrawAt H d s xs y
theorem DrawOk.same {H H' : Hp} {d s : Addr} (h : DrawOk H d s) (e : Same H H') : DrawOk H' d s := by
  obtain ⟨xs, y, h1, h2, h3⟩ := h
  exact ⟨xs, y, e _ _ h1, e _ _ h2, h3⟩
theorem DrawOk.some {H : Hp} {d s : Addr} (h : DrawOk H d s) : (∃ ys, H d = some (.lst ys)) ∧ (∃ ys, H s = some (.lst ys)) ∧ s ≠ d := by
  obtain ⟨xs, y, h1, h2, h3⟩ := h
  exact ⟨⟨_, h1⟩, ⟨_, h2⟩, h3⟩
/-- a new object changes -/
theorem DrawOk.upd {H : Hp} {d s l : Addr} {o : HO} (h : DrawOk H d s) (h1 : d ≠ l) (h2 : s ≠ l) : DrawOk (upd H l o) d s := by
  obtain ⟨xs, y, k1, k2, k3⟩ := h
  exact ⟨xs, y, by rw [upd_ne h1]; exact k1, by rw [upd_ne h2]; exact k2, k3⟩
theorem But.trans {d : Addr} {H H' H2 : Hp} (a : But d H H') (b : But d H' H2) : But d H H2 := fun x o hx h => b x o hx (a x o hx h)
theorem But.same {d : Addr} {H H' H2 : Hp} (a : But d H H') (b : Same H' H2) : But d H H2 := fun x o hx h => b x o (a x o hx h)
theorem but_of {d : Addr} {H H' : Hp} (b : Same H H') : But d H H' := fun x o _ h => b x o h
theorem But.refl {d : Addr} {H : Hp} : But d H H := fun _ _ _ h => h
def sp_law_next : Sp := fun vs H Q _ => ∃ (d s : Addr) (b : Nat), vs = [.ref d, nV b] ∧ 0 < b ∧ DrawOk H d s ∧ ∀ (r : Nat) H', r < b → But d H H' → DrawOk H' d s → Q (nV r) H'
theorem ok_law_next {f : Addr} {fd : FuncData} (F : Fun K "_law_next" "_law_next" s_law_next f fd) (B : Bt mg) (C_law_cell_at : Got P w K mg base CX0 1 "_law_cell_at" ["script", "k"] (sp_law_cell_at K)) (C_law_number : Got P w K mg base CX0 2 "_law_number" ["cell", "k", "bound"] sp_law_number) : FnOk P w K mg base CX0 3 f fd ["draw", "bound"] sp_law_next := by
  refine F.ok sc_law_next (fun vs H Q E h => ?_) (fun cdv A outer s0 H vs Q E hr h => ?_)
  · obtain ⟨d, s, b, rfl, _⟩ := h
    rfl
  obtain ⟨d, s, b, rfl, hb, ⟨xs, y, hd, hs, hne⟩, q⟩ := h
  have hr1 : Room 1 _ := hr.mono (by decide)
  refine ⟨_, (pss_cons (ps_asg (pe_op op_add (p_ixl K (pv 0) pe_int) pe_int) (pg_sub (pv 0) pe_int set_list)) (pss_cons (ps_set (i := 2) sc_law_next.nd rfl (Or.inl rfl) (pe_op op_fdivN (p_ixl K (pv 0) pe_int) pe_int)) (pss_cons (ps_set (i := 3) sc_law_next.nd rfl (Or.inl rfl) (pe_op op_add (C_law_cell_at.call hr1 (by rfl) (pa_cons (p_ixl K (pv 0) pe_int) (pa_cons (pe_op op_add (p_ixl K (pv 0) pe_int) (pv 2)) pa_nil))) (pe_op op_mul pe_int (pv 2)))) (pss_one (ps_ret (C_law_number.call hr (by rfl) (pa_cons (pv 3) (pa_cons (pe_op op_add (pe_op op_modN (pe_callTy call_int1 (by rfl) B.int bt_int (pa_cons (p_ixl K (pv 0) pe_int) pa_nil)) pe_int) pe_int) (pa_cons (pv 1) pa_nil))))))))), ?_⟩
  have ey : V.int (((y : Nat) : Int) + 1) = nV (y + 1) := congrArg V.int (by omega)
  refine ⟨_, rfl, d, _, _, _, rfl, rfl, SqL.of hd, rfl, _, _, rfl, rfl, ?_⟩
  show gSub (tVar 0) (tC (V.int 2)) L2.rSetL (V.int (((y : Nat) : Int) + 1)) _ _ _
  rw [ey]
  refine ⟨_, rfl, d, _, _, _, rfl, rfl, hd, rfl, ?_⟩
  have hd1 : (upd H d (.lst [.ref s, nV 0, nV (y + 1)])) d = some (.lst [.ref s, nV 0, nV (y + 1)]) := upd_same
  have b1 : But d H (upd H d (.lst [.ref s, nV 0, nV (y + 1)])) := fun b o hb e => by
    rw [upd_ne hb]
    exact e
  have hs1 := b1 _ _ hne hs
  have eat : V.int (((y + 1 : Nat) : Int).fdiv 12) = nV ((y + 1) / 12) := congrArg V.int (by rw [Int.fdiv_eq_ediv_of_nonneg _ (by decide)]; rfl)
  refine ⟨_, rfl, d, _, _, _, rfl, rfl, SqL.of hd1, rfl, _, _, rfl, rfl, ⟨by decide, by decide⟩, ?_⟩
  show gName 2 (V.int (((y + 1 : Nat) : Int).fdiv 12)) _ _ _
  rw [eat]
  have e0 : V.int ((0 : Int) + (((y + 1) / 12 : Nat) : Int)) = nV ((y + 1) / 12) := congrArg V.int (by omega)
  refine ⟨_, rfl, d, _, _, _, rfl, rfl, SqL.of hd1, rfl, _, rfl, d, _, _, _, rfl, rfl, SqL.of hd1, rfl, _, rfl, _, _, rfl, rfl, s, xs, (y + 1) / 12, ?_, SqL.of hs1, fun i => ?_⟩
  · rw [← e0]
    rfl
  refine ⟨_, rfl, _, _, rfl, rfl, .inl ⟨by decide, by decide⟩, _, _, rfl, rfl, ?_⟩
  have e1 : V.int ((((y + 1 : Nat) : Int).fmod 12) + 1) = nV ((y + 1) % 12 + 1) := congrArg V.int (by rw [Int.fmod_eq_emod_of_nonneg _ (by decide)]; omega)
  refine ⟨_, rfl, _, rfl, d, _, _, _, rfl, rfl, SqL.of hd1, rfl, .inl ⟨_, rfl, _, _, rfl, rfl, (show (12 : Int) ≠ 0 by decide), _, _, rfl, rfl, _, rfl, i + 31 * (((y + 1) / 12 : Nat) : Int), ((b : Nat) : Int), (y + 1) % 12 + 1, ?_, ?_, by omega, fun r H' hr s2 => ?_⟩⟩
  · rw [← e1]
    rfl
  · omega
  · refine q r H' (by omega) (fun b o hb e => s2 _ _ (b1 b o hb e)) ⟨_, _, s2 _ _ hd1, s2 _ _ hs1, hne⟩
end
end Own
namespace Own
open PySem PySem.Spec PyProof.Rows L2
theorem canLay_mem {α : Type} (f : α → PyData) : ∀ xs : List α, (∀ x, x ∈ xs → (f x).canLay0 = true) → PyData.canLayAll0 (xs.map f) = true
  | [], _ => by simp [PyData.canLayAll0]
  | x :: xs, h => by simp [PyData.canLayAll0, h x List.mem_cons_self, canLay_mem f xs fun y hy => h y (List.mem_cons_of_mem _ hy)]
theorem strOk_tx {u : Word} (h : Wd 3 u) : PyData.strOk (tx u) = true := by
  unfold PyData.strOk tx
  rw [Array.all_eq_true]
  intro i hi
  simp only [List.size_toArray, List.length_map] at hi
  simp only [List.getElem_toArray, List.getElem_map]
  have := h _ (List.getElem_mem hi)
  exact decide_eq_true (by omega)
/-- data: lists of texts -/
def dWs (L : List Word) : PyData := .list (L.map fun u => .str (tx u))
theorem eqv_dW (u v : Word) : PyData.eqv (.str (tx u)) (.str (tx v)) = decide (u = v) := by
  simp only [PyData.eqv]
  by_cases h : u = v
  · subst h
    simp
  · rw [decide_eq_false h]
    exact beq_eq_false_iff_ne.mpr fun e => h (tx_inj e)
theorem eqv_dWs (L M : List Word) : PyData.eqv (dWs L) (dWs M) = decide (L = M) := by
  unfold dWs
  rw [PyData.eqv]
  exact eqvAll_map _ eqv_dW L M
theorem shaped_dWs (L : List Word) (h : ∀ u, u ∈ L → Wd 3 u) : SeqAt.shaped (dWs L) = true := by
  unfold SeqAt.shaped dWs
  have h1 : (PyData.list (L.map fun u => .str (tx u))).canLay0 = true := by
    rw [PyData.canLay0]
    exact canLay_mem _ L fun x hx => by
      rw [PyData.canLay0]
      exact strOk_tx (h x hx)
  have h2 : (PyData.list (L.map fun u => .str (tx u))).depth ≤ 64 := by
    have h := depth_map (fun u => PyData.str (tx u)) 0 (fun x => by simp [PyData.depth]) L
    simp only [PyData.depth]
    omega
  rw [h1, decide_eq_true h2]
  rfl
theorem dp_dWs {K : PySem.W.Frag} {H : Hp} {a : Addr} {L : List Word} (h : SqL K H a (L.map fun u => V.str (tx u))) : Dp K H (.ref a) (dWs L) := .lst h (dpAll_map _ _ L fun x _ => .str _)
section
variable {P : Program} {w : World} {K : PySem.W.Frag} {mg : Str → Option Value} {base : Heap}
abbrev s_law_pick : Stmt := topS 35
theorem sc_law_pick : FnScope ["draw", "things"] ["draw", "things"] (defScope s_law_pick) := ⟨rfl, rfl, rfl, by decide +kernel, rfl, by decide +kernel, by decide +kernel⟩
def sp_law_pick : Sp := fun vs H Q _ => ∃ (d s l : Addr) (ys : List V), vs = [.ref d, .ref l] ∧ DrawOk H d s ∧ H l = some (.lst ys) ∧ l ≠ d ∧ ys ≠ [] ∧ ys.length ≤ 100 ∧ ∀ x H', x ∈ ys → But d H H' → DrawOk H' d s → Q x H'
theorem ok_law_pick {f : Addr} {fd : FuncData} (F : Fun K "_law_pick" "_law_pick" s_law_pick f fd) (B : Bt mg) (C_law_next : Got P w K mg base CX0 3 "_law_next" ["draw", "bound"] sp_law_next) : FnOk P w K mg base CX0 4 f fd ["draw", "things"] sp_law_pick := by
  refine F.ok sc_law_pick (fun vs H Q E h => ?_) (fun cdv A outer s0 H vs Q E hr h => ?_)
  · obtain ⟨d, s, l, ys, rfl, _⟩ := h
    rfl
  obtain ⟨d, s, l, ys, rfl, hd, hl, hne, hy, hyl, q⟩ := h
  refine ⟨_, (pss_one (ps_ret (p_ixl K (pv 1) (C_law_next.call hr (by rfl) (pa_cons (pv 0) (pa_cons (pe_callB (c_len K) (by rfl) B.len bt_len (pa_cons (pv 1) pa_nil)) pa_nil)))))), ?_⟩
  refine ⟨_, rfl, _, rfl, _, rfl, l, _, rfl, .inl (SqL.of hl), d, s, ys.length, rfl, List.length_pos_iff.mpr hy, hd, fun r H' hr b1 hd' => ?_⟩
  exact ⟨l, ys, _, _, rfl, rfl, SqL.of (b1 _ _ hne hl), atI_nat (List.getElem?_eq_getElem hr), q _ _ (List.getElem_mem hr) b1 hd'⟩
abbrev s_law_letters : Stmt := topS 36
theorem sc_law_letters : FnScope ["draw", "size", "found", "letter"] ["draw", "size"] (defScope s_law_letters) := ⟨rfl, rfl, rfl, by decide +kernel, rfl, by decide +kernel, by decide +kernel⟩
def sp_law_letters : Sp := fun vs H Q _ => ∃ (d s : Addr) (k : Nat), vs = [.ref d, nV k] ∧ 1 ≤ k ∧ k ≤ 3 ∧ DrawOk H d s ∧ ∀ (u : Word) H', u ≠ [] → u.length ≤ 3 → Wd k u → But d H H' → DrawOk H' d s → Q (.str (tx u)) H'
theorem ok_law_letters {f : Addr} {fd : FuncData} (F : Fun K "_law_letters" "_law_letters" s_law_letters f fd) (B : Bt mg) (C_law_next : Got P w K mg base CX0 3 "_law_next" ["draw", "bound"] sp_law_next) : FnOk P w K mg base CX0 4 f fd ["draw", "size"] sp_law_letters := by
  refine F.ok sc_law_letters (fun vs H Q E h => ?_) (fun cdv A outer s0 H vs Q E hr h => ?_)
  · obtain ⟨d, s, k, rfl, _⟩ := h
    rfl
  obtain ⟨d, s, k, rfl, hk1, hk3, hd, q⟩ := h
  refine ⟨_, (pss_cons (ps_setLc (i := 2) (own := [("letter", 3)]) rfl sc_law_letters.nd rfl rfl (sw_true rfl rfl rfl (by decide +kernel)) (pi_str (pe_slice sl_str pe_str po_none (po_some (pv 1)))) (blkOk_by (by kernel_rfl)) (fun _ _ _ _ _ => (pg_name (i := 3) sc_law_letters.nd rfl (Or.inl rfl))) (fun _ _ _ _ _ => (pts_one (pt_cmpR op_eq (C_law_next.call hr (by rfl) (pa_cons (pv 0) (pa_cons pe_int pa_nil))) pe_int (nomark _)))) (fun _ _ _ _ _ => (pv 3))) (pss_one (ps_ret (pe_ifExp (pt_cmpR (op_neD hr.units) (pv 2) (pe_lst pa_nil) (nomark _)) (p_join K pe_str (pv 2)) (p_ixs pe_str (C_law_next.call hr (by rfl) (pa_cons (pv 0) (pa_cons (pv 1) pa_nil)))))))), ?_⟩
  -- found = [letter for letter in 'abc'[:size] if next(draw, 2) == 0]
  refine ⟨_, rfl, ((k : Nat) : Int), rfl, _, rfl, by decide, _, rfl, fun D nD => ?_⟩
  obtain ⟨⟨_, hys0⟩, ⟨_, hys1⟩, hsd⟩ := hd.some
  have ndD : d ≠ D := ne_of_none hys0 nD
  have nsD : s ≠ D := ne_of_none hys1 nD
  have s1 : Same H (upd H D (.lst [])) := same_new nD _
  rw [abc_eq, cut_abc k hk3]
  refine lc_it walk_str (fun i H1 => ∃ acc : Word, But d H H1 ∧ DrawOk H1 d s ∧ H1 D = some (.lst (acc.map fun l => V.str (tx [l]))) ∧ acc.length ≤ i ∧ Wd k acc) ⟨[], but_of s1, hd.same s1, upd_same, Nat.le_refl _, fun l h => by simp at h⟩ (fun _ _ _ _ => trivial) (fun i x H1 H2 hi q0 y => ?_) (fun H1 q0 => ?_)
  · obtain ⟨acc, b1, d1, hD, hal, haw⟩ := q0
    obtain ⟨rfl, c, hc, rfl⟩ := y
    rw [tx_size, List.length_range] at hi
    rw [tx_at, List.getElem?_range hi] at hc
    obtain rfl : i + 97 = c := Option.some.inj hc
    refine ⟨rfl, _, rfl, d, s, 2, rfl, by decide, d1, fun r H3 hr b2 d2 => ?_⟩
    have hD3 := b2 _ _ ndD.symm hD
    refine ⟨rfl, _, rfl, ite2 (fun _ => ?_) (fun _ => ?_)⟩
    · refine ⟨_, rfl, _, hD3, by rw [List.length_map]; exact small1000 (by omega), acc ++ [i], fun b o hb e => ?_, ?_, ?_, by rw [List.length_append]; show acc.length + 1 ≤ i + 1; omega, fun l hl => ?_⟩
      · have hbD : b ≠ D := ne_of_none e nD
        rw [upd_ne hbD]
        exact b2 _ _ hb (b1 _ _ hb e)
      · exact d2.upd ndD nsD
      · rw [upd_same, List.map_append]
        rfl
      · rcases List.mem_append.mp hl with q | q
        · exact haw l q
        · rw [List.mem_singleton.mp q]
          exact hi
    · exact ⟨acc, b1.trans b2, d2, hD3, by omega, haw⟩
  · obtain ⟨acc, b1, d1, hD, hal, haw⟩ := q0
    rw [tx_size, List.length_range] at hal
    refine ⟨_, rfl, by decide, fun p np => ?_⟩
    have s2 : Same H1 (upd H1 p (.lst [])) := same_new np _
    have hD2 := s2 _ _ hD
    have d2 := d1.same s2
    have hw : ∀ u, u ∈ (acc.map fun l => [l]) → Wd 3 u := fun u hu x hx => by
      obtain ⟨l, hl, rfl⟩ := List.mem_map.mp hu
      rw [List.mem_singleton.mp hx]
      have := haw l hl
      omega
    have hL : (upd H1 p (.lst [])) D = some (.lst ((acc.map fun l => [l]).map fun u => V.str (tx u))) := by
      rw [hD2, List.map_map]
      rfl
    refine ⟨dWs (acc.map fun l => [l]), dWs [], dp_dWs (SqL.of hL), dp_dWs (L := []) (SqL.of upd_same), shaped_dWs _ hw, shaped_dWs [] (fun u h => by simp at h), _, rfl, ?_⟩
    rw [eqv_dWs]
    by_cases ha : acc = []
    · subst ha
      refine iteF ⟨_, rfl, _, rfl, d, s, k, rfl, by omega, d2, fun r H3 hr b3 d3 => ⟨_, _, r + 97, rfl, rfl, by rw [tx_length]; decide, ?_, ?_⟩⟩
      · refine atI_nat ?_
        rw [Array.getElem?_toList]
        exact at_abc r (by omega)
      · exact q [r] H3 (by simp) (by simp) (fun x hx => by rw [List.mem_singleton.mp hx]; exact hr) ((b1.same s2).trans b3) d3
    · have he : ((acc.map fun l => [l]) = []) = False := by
        apply eq_false
        intro z
        exact ha (List.map_eq_nil_iff.mp z)
      have hb : (!decide ((acc.map fun l => [l]) = [])) = true := by
        simp [he]
      rw [hb]
      refine iteT ⟨⟨_, rfl⟩, _, rfl, "", D, (acc.map fun l => [l]).map tx, rfl, rfl, .inl (SqL.of (by rw [hL, List.map_map, List.map_map, List.map_map]; rfl)), ?_, ?_⟩
      · rw [len_one, empty_eq, tx_length, List.length_nil, Nat.mul_zero]
        omega
      · rw [empty_eq, join_tx, flat_one]
        exact q acc _ ha (by omega) haw (b1.same s2) d2
abbrev s_law_many : Stmt := topS 37
theorem sc_law_many : FnScope ["draw", "part", "low", "high"] ["draw", "part"] (defScope s_law_many) := ⟨rfl, rfl, rfl, by decide +kernel, rfl, by decide +kernel, by decide +kernel⟩
def Word.ofHi : Option Nat → V
  | none => .non
  | some h => nV h
def HiOk (lo : Nat) (hi : Option Nat) : Prop := ∀ h, hi = some h → lo ≤ h ∧ 1 ≤ h ∧ h ≤ 3
def sp_law_many : Sp := fun vs H Q _ => ∃ (d s b : Addr), vs = [.ref d, .ref b] ∧ DrawOk H d s ∧
  ∀ (a : Addr) (H' : Hp) (lo : Nat) (hi : Option Nat) (way : Str), lo ≤ 3 → HiOk lo hi → But d H H' → DrawOk H' d s → H' a = some (.tup [.str "again", .ref b, nV lo, Word.ofHi hi, .str way]) → Q (.ref a) H'
theorem ok_law_many {f : Addr} {fd : FuncData} (F : Fun K "_law_many" "_law_many" s_law_many f fd) (B : Bt mg) (C_law_pick : Got P w K mg base CX0 4 "_law_pick" ["draw", "things"] sp_law_pick) : FnOk P w K mg base CX0 5 f fd ["draw", "part"] sp_law_many := by
  refine F.ok sc_law_many (fun vs H Q E h => ?_) (fun cdv A outer s0 H vs Q E hr h => ?_)
  · obtain ⟨d, s, b, rfl, _⟩ := h
    rfl
  obtain ⟨d, s, b, rfl, hd, q⟩ := h
  refine ⟨_, (pss_cons (ps_set (i := 2) sc_law_many.nd rfl (Or.inl rfl) (C_law_pick.call hr (by rfl) (pa_cons (pv 0) (pa_cons (pe_lst (pa_cons pe_int (pa_cons pe_int (pa_cons pe_int (pa_cons pe_int (pa_cons pe_int (pa_cons pe_int pa_nil))))))) pa_nil)))) (pss_cons (ps_set (i := 3) sc_law_many.nd rfl (Or.inl rfl) (C_law_pick.call hr (by rfl) (pa_cons (pv 0) (pa_cons (pe_lst (pa_cons pe_non (pa_cons pe_non (pa_cons (pe_callB (c_max K) (by rfl) B.max bt_max (pa_cons (pe_lst (pa_cons pe_int (pa_cons (pv 2) pa_nil))) pa_nil)) (pa_cons (pe_callB (c_min K) (by rfl) B.min bt_min (pa_cons (pe_lst (pa_cons pe_int (pa_cons (pe_op op_add (pv 2) pe_int) pa_nil))) pa_nil)) (pa_cons pe_int pa_nil)))))) pa_nil)))) (pss_one (ps_ret (pe_tup (pa_cons pe_str (pa_cons (pv 1) (pa_cons (pv 2) (pa_cons (pv 3) (pa_cons (C_law_pick.call hr (by rfl) (pa_cons (pv 0) (pa_cons (pe_lst (pa_cons pe_str (pa_cons pe_str pa_nil))) pa_nil))) pa_nil)))))))))), ?_⟩
  obtain ⟨⟨_, hys0⟩, ⟨_, hys1⟩, hsd⟩ := hd.some
  refine ⟨_, rfl, by decide, fun p np => ?_⟩
  have s1 := same_new np (.lst [V.int 0, V.int 0, V.int 1, V.int 1, V.int 2, V.int 3])
  refine ⟨d, s, p, _, rfl, hd.same s1, upd_same, (ne_of_none hys0 np).symm, by simp, by decide, fun x H2 hx b2 d2 => ?_⟩
  obtain ⟨lo, hlo, rfl⟩ : ∃ lo : Nat, lo ≤ 3 ∧ nV lo = x := by
    simp only [List.mem_cons, List.not_mem_nil, or_false] at hx
    rcases hx with rfl | rfl | rfl | rfl | rfl | rfl
    · exact ⟨0, by decide, rfl⟩
    · exact ⟨0, by decide, rfl⟩
    · exact ⟨1, by decide, rfl⟩
    · exact ⟨1, by decide, rfl⟩
    · exact ⟨2, by decide, rfl⟩
    · exact ⟨3, by decide, rfl⟩
  have bH2 : But d H H2 := (but_of s1).trans b2
  obtain ⟨⟨_, hy20⟩, ⟨_, hy21⟩, _⟩ := d2.some
  refine ⟨_, rfl, _, rfl, (show 2 ≤ sizeLine by decide), fun p1 np1 => ⟨p1, [1, ((lo : Nat) : Int)], rfl, SqL.of upd_same, Nat.succ_pos _, fun m hm hmx => ?_⟩⟩
  have s3 := same_new np1 (.lst [V.int 1, nV lo])
  refine ⟨_, rfl, _, _, rfl, rfl, (show 2 ≤ sizeLine by decide), fun p2 np2 => ⟨p2, [3, ((lo : Nat) : Int) + 1], rfl, SqL.of upd_same, Nat.succ_pos _, fun m2 hm2 hmn => ?_⟩⟩
  have s4 := same_new np2 (.lst [V.int 3, V.int (((lo : Nat) : Int) + 1)])
  refine ⟨(show 5 ≤ sizeLine by decide), fun p3 np3 => ?_⟩
  have s5 := same_new np3 (.lst [V.non, V.non, V.int m, V.int m2, V.int 3])
  have s35 := (s3.trans s4).trans s5
  refine ⟨d, s, p3, _, rfl, d2.same s35, upd_same, (ne_of_none ((s3.trans s4) _ _ hy20) np3).symm, by simp, (show 5 ≤ 100 by decide), fun x H6 hx b6 d6 => ?_⟩
  have h1m := hmx 1 (by simp)
  have h2m := hmx _ (show ((lo : Nat) : Int) ∈ [1, ((lo : Nat) : Int)] by simp)
  have h3m : m = 1 ∨ m = ((lo : Nat) : Int) := by simpa using hm
  have h1n := hmn 3 (by simp)
  have h2n := hmn _ (show ((lo : Nat) : Int) + 1 ∈ [3, ((lo : Nat) : Int) + 1] by simp)
  have h3n : m2 = 3 ∨ m2 = ((lo : Nat) : Int) + 1 := by simpa using hm2
  obtain ⟨hi, hhi, rfl⟩ : ∃ hi, HiOk lo hi ∧ Word.ofHi hi = x := by
    have mk : ∀ z : Int, (lo : Int) ≤ z → 1 ≤ z → z ≤ 3 → ∃ hi, HiOk lo hi ∧ Word.ofHi hi = V.int z := fun z a1 a2 a3 => ⟨some z.toNat, fun h e => by
      obtain rfl := Option.some.inj e
      omega, congrArg V.int (by omega)⟩
    simp only [List.mem_cons, List.not_mem_nil, or_false] at hx
    rcases hx with rfl | rfl | rfl | rfl | rfl
    · exact ⟨none, fun h e => (nomatch e), rfl⟩
    · exact ⟨none, fun h e => (nomatch e), rfl⟩
    · exact mk m (by omega) (by omega) (by omega)
    · exact mk m2 (by omega) (by omega) (by omega)
    · exact mk 3 (by omega) (by omega) (by omega)
  obtain ⟨⟨_, hy60⟩, ⟨_, hy61⟩, _⟩ := d6.some
  have bH6 : But d H H6 := (bH2.same s35).trans b6
  refine ⟨_, rfl, _, rfl, _, rfl, _, rfl, (show 2 ≤ sizeLine by decide), fun p4 np4 => ?_⟩
  have s7 := same_new np4 (.lst [V.str "many", V.str "few"])
  refine ⟨d, s, p4, _, rfl, d6.same s7, upd_same, (ne_of_none hy60 np4).symm, by simp, (show 2 ≤ 100 by decide), fun x H8 hx b8 d8 => ?_⟩
  obtain ⟨way, rfl⟩ : ∃ way : Str, V.str way = x := by
    simp only [List.mem_cons, List.not_mem_nil, or_false] at hx
    rcases hx with rfl | rfl
    · exact ⟨_, rfl⟩
    · exact ⟨_, rfl⟩
  refine ⟨(show 5 ≤ sizeLine by decide), fun a na => ?_⟩
  have s9 := same_new na (.tup [.str "again", .ref b, nV lo, Word.ofHi hi, .str way])
  exact q a _ lo hi way hlo hhi (((bH6.same s7).trans b8).same s9) (d8.same s9) upd_same
end
end Own
namespace Own
open PySem PySem.Spec PyProof.Rows L2
/-! patterns in the heap -/
mutual
def PatAt (K : PySem.W.Frag) (H : Hp) : Pat → Addr → Prop
  | .non, a => SqT K H a [.str "none"]
  | .emp, a => SqT K H a [.str "empty"]
  | .one u, a => SqT K H a [.str "one", .str (tx u)]
  | .row ps, a => ∃ bs : List Addr, SqT K H a (.str "row" :: bs.map V.ref) ∧ PatsAt K H ps bs
  | .any ps, a => ∃ bs : List Addr, SqT K H a (.str "any" :: bs.map V.ref) ∧ PatsAt K H ps bs
  | .again p lo hi, a => ∃ (b : Addr) (way : Str), SqT K H a [.str "again", .ref b, nV lo, Word.ofHi hi, .str way] ∧ PatAt K H p b
  | .group p, a => ∃ b : Addr, SqT K H a [.str "group", .ref b] ∧ PatAt K H p b
def PatsAt (K : PySem.W.Frag) (H : Hp) : Pats → List Addr → Prop
  | .nil, bs => bs = []
  | .cons p ps, bs => ∃ b r, bs = b :: r ∧ PatAt K H p b ∧ PatsAt K H ps r
end
mutual
theorem PatAt.mono {K : PySem.W.Frag} {H H' : Hp} (h : ∀ a xs, SqT K H a xs → SqT K H' a xs) : ∀ (p : Pat) (a : Addr), PatAt K H p a → PatAt K H' p a
  | .non, a, q => by
    unfold PatAt at q ⊢
    exact h _ _ q
  | .emp, a, q => by
    unfold PatAt at q ⊢
    exact h _ _ q
  | .one u, a, q => by
    unfold PatAt at q ⊢
    exact h _ _ q
  | .row ps, a, q => by
    unfold PatAt at q ⊢
    obtain ⟨bs, h1, h2⟩ := q
    exact ⟨bs, h _ _ h1, PatsAt.mono h ps bs h2⟩
  | .any ps, a, q => by
    unfold PatAt at q ⊢
    obtain ⟨bs, h1, h2⟩ := q
    exact ⟨bs, h _ _ h1, PatsAt.mono h ps bs h2⟩
  | .again p lo hi, a, q => by
    unfold PatAt at q ⊢
    obtain ⟨b, way, h1, h2⟩ := q
    exact ⟨b, way, h _ _ h1, PatAt.mono h p b h2⟩
  | .group p, a, q => by
    unfold PatAt at q ⊢
    obtain ⟨b, h1, h2⟩ := q
    exact ⟨b, h _ _ h1, PatAt.mono h p b h2⟩
theorem PatsAt.mono {K : PySem.W.Frag} {H H' : Hp} (h : ∀ a xs, SqT K H a xs → SqT K H' a xs) : ∀ (ps : Pats) (bs : List Addr), PatsAt K H ps bs → PatsAt K H' ps bs
  | .nil, bs, q => by
    unfold PatsAt at q ⊢
    exact q
  | .cons p ps, bs, q => by
    unfold PatsAt at q ⊢
    obtain ⟨b, r, h1, h2, h3⟩ := q
    exact ⟨b, r, h1, PatAt.mono h p b h2, PatsAt.mono h ps r h3⟩
end
theorem PatAt.same {K : PySem.W.Frag} {H H' : Hp} {p : Pat} {a : Addr} (q : PatAt K H p a) (e : Same H H') : PatAt K H' p a := q.mono fun _ _ h => Same.tup e h
/-- where a list changes -/
theorem PatAt.but {K : PySem.W.Frag} {H H' : Hp} {p : Pat} {a d : Addr} {ys : List V} (q : PatAt K H p a) (hd : H d = some (.lst ys)) (e : But d H H') : PatAt K H' p a := q.mono fun _ _ h => e.tup hd (fun _ z => nomatch z) (fun _ _ z => nomatch z) h
def Pats.toL : Pats → List Pat
  | .nil => []
  | .cons p ps => p :: ps.toL
def Pats.ofL : List Pat → Pats
  | [] => .nil
  | p :: ps => .cons p (Pats.ofL ps)
theorem Pats.toL_ofL : ∀ l, (Pats.ofL l).toL = l
  | [] => rfl
  | p :: l => by rw [Pats.ofL, Pats.toL, Pats.toL_ofL l]
theorem Pats.len_toL : ∀ ps : Pats, ps.len = ps.toL.length
  | .nil => rfl
  | .cons p ps => by rw [Pats.len, Pats.toL, List.length_cons, Pats.len_toL ps]
theorem Pats.ok_toL {k : Nat} : ∀ ps : Pats, ps.Ok k ↔ ∀ p, p ∈ ps.toL → p.Ok k
  | .nil => by simp [Pats.Ok, Pats.toL]
  | .cons p ps => by simp [Pats.Ok, Pats.toL, Pats.ok_toL ps]
theorem Pats.depth_toL {m : Nat} : ∀ ps : Pats, ps.depth ≤ m ↔ ∀ p, p ∈ ps.toL → p.depth ≤ m
  | .nil => by simp [Pats.depth, Pats.toL]
  | .cons p ps => by
    have := Pats.depth_toL (m := m) ps
    simp [Pats.depth, Pats.toL, ← this, Nat.max_le]
theorem patsAt_iff {K : PySem.W.Frag} {H : Hp} : ∀ (ps : Pats) (bs : List Addr), PatsAt K H ps bs ↔ bs.length = ps.toL.length ∧ ∀ (i : Nat) (p : Pat) (b : Addr), ps.toL[i]? = some p → bs[i]? = some b → PatAt K H p b
  | .nil, bs => by
    unfold PatsAt Pats.toL
    constructor
    · rintro rfl
      exact ⟨rfl, fun i p b h => by simp at h⟩
    · rintro ⟨h, _⟩
      exact List.length_eq_zero_iff.mp h
  | .cons p ps, bs => by
    unfold PatsAt
    constructor
    · rintro ⟨b, r, rfl, h1, h2⟩
      obtain ⟨h3, h4⟩ := (patsAt_iff ps r).mp h2
      refine ⟨by rw [Pats.toL, List.length_cons, List.length_cons, h3], fun i p' b' hp hb => ?_⟩
      cases i with
      | zero =>
        rw [Pats.toL] at hp
        obtain rfl : p = p' := by simpa using hp
        obtain rfl : b = b' := by simpa using hb
        exact h1
      | succ i =>
        rw [Pats.toL] at hp
        exact h4 i p' b' (by simpa using hp) (by simpa using hb)
    · rintro ⟨h1, h2⟩
      rw [Pats.toL] at h1
      cases bs with
      | nil => simp at h1
      | cons b r =>
        refine ⟨b, r, rfl, h2 0 p b (by rw [Pats.toL]; rfl) rfl, (patsAt_iff ps r).mpr ⟨by simpa using h1, fun i p' b' hp hb => h2 (i + 1) p' b' (by rw [Pats.toL]; simpa using hp) (by simpa using hb)⟩⟩
theorem patsAt_snoc {K : PySem.W.Frag} {H : Hp} {p : Pat} {b : Addr} (h : PatAt K H p b) : ∀ (ps : List Pat) (bs : List Addr), PatsAt K H (Pats.ofL ps) bs → PatsAt K H (Pats.ofL (ps ++ [p])) (bs ++ [b])
  | [], bs, q => by
    unfold Pats.ofL PatsAt at q
    subst q
    simp only [List.nil_append, Pats.ofL, PatsAt]
    exact ⟨b, [], rfl, h, rfl⟩
  | x :: ps, bs, q => by
    unfold Pats.ofL PatsAt at q
    obtain ⟨c, r, rfl, h1, h2⟩ := q
    simp only [List.cons_append, Pats.ofL, PatsAt]
    exact ⟨c, r ++ [b], rfl, h1, patsAt_snoc h ps r h2⟩
theorem PatsAt.same {K : PySem.W.Frag} {H H' : Hp} {ps : Pats} {bs : List Addr} (q : PatsAt K H ps bs) (e : Same H H') : PatsAt K H' ps bs := q.mono fun _ _ h => Same.tup e h
theorem PatsAt.but {K : PySem.W.Frag} {H H' : Hp} {ps : Pats} {bs : List Addr} {d : Addr} {ys : List V} (q : PatsAt K H ps bs) (hd : H d = some (.lst ys)) (e : But d H H') : PatsAt K H' ps bs := q.mono fun _ _ h => e.tup hd (fun _ z => nomatch z) (fun _ _ z => nomatch z) h
section
variable {P : Program} {w : World} {K : PySem.W.Frag} {mg : Str → Option Value} {base : Heap}
abbrev s_law_grown : Stmt := topS 38
theorem sc_law_grown : FnScope ["draw", "size", "deep", "kind", "parts", "turn"] ["draw", "size", "deep"] (defScope s_law_grown) := ⟨rfl, rfl, rfl, by decide +kernel, rfl, by decide +kernel, by decide +kernel⟩
def sp_law_grown (K : PySem.W.Frag) (m : Nat) : Sp := fun vs H Q _ => ∃ (d s : Addr) (k deep : Nat), vs = [.ref d, nV k, nV deep] ∧ deep < m ∧ 1 ≤ k ∧ k ≤ 3 ∧ DrawOk H d s ∧
  ∀ (a : Addr) (p : Pat) (H' : Hp), p.Ok k → p.depth ≤ deep → But d H H' → DrawOk H' d s → PatAt K H' p a → Q (.ref a) H'
theorem ok_law_grown1 {f : Addr} {fd : FuncData} {m : Nat} (F : Fun K "_law_grown" "_law_grown" s_law_grown f fd) (B : Bt mg) (C_law_next : Got P w K mg base CX0 3 "_law_next" ["draw", "bound"] sp_law_next) (C_law_pick : Got P w K mg base CX0 4 "_law_pick" ["draw", "things"] sp_law_pick)
    (C_law_letters : Got P w K mg base CX0 4 "_law_letters" ["draw", "size"] sp_law_letters) (C_law_many : Got P w K mg base CX0 5 "_law_many" ["draw", "part"] sp_law_many) (C_law_grown : Got P w K mg base CX0 (5 + m) "_law_grown" ["draw", "size", "deep"] (sp_law_grown K m)) :
    FnOk P w K mg base CX0 (5 + m + 1) f fd ["draw", "size", "deep"] (sp_law_grown K (m + 1)) := by
  refine F.ok sc_law_grown (fun vs H Q E h => ?_) (fun cdv A outer s0 H vs Q E hr h => ?_)
  · obtain ⟨d, s, k, deep, rfl, _⟩ := h
    rfl
  obtain ⟨d, s, k, deep, rfl, hdeep, hk1, hk3, hd, q⟩ := h
  have hr3 : Room 3 _ := hr.mono (by omega)
  have hr4 : Room 4 _ := hr.mono (by omega)
  have hr5 : Room 5 _ := hr.mono (by omega)
  refine ⟨_, (pss_cons (ps_set (i := 3) sc_law_grown.nd rfl (Or.inl rfl) (C_law_next.call hr3 (by rfl) (pa_cons (pv 0) (pa_cons pe_int pa_nil)))) (pss_cons (ps_if (pt_cmpR op_eq (pv 3) pe_int (nomark _)) (pss_one (ps_ret (C_law_pick.call hr4 (by rfl) (pa_cons (pv 0) (pa_cons (pe_lst (pa_cons (pe_tup (pa_cons pe_str pa_nil)) (pa_cons (pe_tup (pa_cons pe_str pa_nil)) (pa_cons (pe_tup (pa_cons pe_str (pa_cons pe_str pa_nil))) pa_nil)))) pa_nil))))) pss_nil) (pss_cons (ps_if (PW.pt (pw_or (pt_cmpR op_eq (pv 2) pe_int (nomark _)) (pw_or1 (pt_cmpR op_lt (pv 3) pe_int (nomark _))))) (pss_one (ps_ret (pe_tup (pa_cons pe_str (pa_cons (C_law_letters.call hr4 (by rfl) (pa_cons (pv 0) (pa_cons (pv 1) pa_nil))) pa_nil))))) pss_nil) (pss_cons (ps_if (pt_cmpR op_eq (pv 3) pe_int (nomark _)) (pss_one (ps_ret (pe_tup (pa_cons pe_str (pa_cons (C_law_grown.call hr (by rfl) (pa_cons (pv 0) (pa_cons (pv 1) (pa_cons (pe_op op_sub (pv 2) pe_int) pa_nil)))) pa_nil))))) pss_nil) (pss_cons (ps_if (pt_cmpR op_lt (pv 3) pe_int (nomark _)) (pss_one (ps_ret (C_law_many.call hr5 (by rfl) (pa_cons (pv 0) (pa_cons (C_law_grown.call hr (by rfl) (pa_cons (pv 0) (pa_cons (pv 1) (pa_cons (pe_op op_sub (pv 2) pe_int) pa_nil)))) pa_nil))))) pss_nil) (pss_cons (ps_setLc (i := 4) (own := [("turn", 5)]) rfl sc_law_grown.nd rfl rfl (sw_true rfl rfl rfl (by decide +kernel)) (pi_range1 (by rfl) B.range (pa_cons (pe_op op_add pe_int (pe_callTy call_int1 (by rfl) B.int bt_int (pa_cons (pe_cmpR op_eq (C_law_next.call hr3 (by rfl) (pa_cons (pv 0) (pa_cons pe_int pa_nil))) pe_int (nomark _)) pa_nil))) pa_nil)) (blkOk_by (by kernel_rfl)) (fun _ _ _ _ _ => (pg_name (i := 5) sc_law_grown.nd rfl (Or.inl rfl))) (fun _ _ _ _ _ => pts_nil) (fun _ _ _ _ _ => (C_law_grown.call hr (by rfl) (pa_cons (pv 0) (pa_cons (pv 1) (pa_cons (pe_op op_sub (pv 2) pe_int) pa_nil)))))) (pss_one (ps_ret (pe_op op_catT (pe_tup (pa_cons (C_law_pick.call hr4 (by rfl) (pa_cons (pv 0) (pa_cons (pe_lst (pa_cons pe_str (pa_cons pe_str (pa_cons pe_str pa_nil)))) pa_nil))) pa_nil)) (pe_callTy (c_tup K) (by rfl) B.tuple bt_tuple (pa_cons (pv 4) pa_nil))))))))))), ?_⟩
  refine ⟨_, rfl, d, s, 12, rfl, by decide, hd, fun kind H1 hkind b1 d1 => ?_⟩
  obtain ⟨⟨_, hy10⟩, ⟨_, hy11⟩, hsd⟩ := d1.some
  obtain ⟨⟨_, hyd⟩, _, _⟩ := hd.some
  have two : ∀ n, n ≤ 10 → n ≤ sizeLine := fun n h => Nat.le_of_lt (small1000 (by omega))
  refine ⟨_, rfl, rfl, _, rfl, ite2 (fun c => ?_) (fun c => ?_)⟩
  · -- kind 0
    refine ⟨_, rfl, two 1 (by decide), fun p1 np1 => ⟨two 1 (by decide), fun p2 np2 => ⟨two 2 (by decide), fun p3 np3 => ⟨two 3 (by decide), fun p4 np4 => ?_⟩⟩⟩⟩
    have s2 := same_new np1 (.tup [V.str "empty"])
    have s3 := same_new np2 (.tup [V.str "none"])
    have s4 := same_new np3 (.tup [V.str "one", V.str "a"])
    have s5 := same_new np4 (.lst [V.ref p1, V.ref p2, V.ref p3])
    have s25 := ((s2.trans s3).trans s4).trans s5
    refine ⟨d, s, p4, _, rfl, d1.same s25, upd_same, (ne_of_none (((s2.trans s3).trans s4) _ _ hy10) np4).symm, by simp, (show 3 ≤ 100 by decide), fun x H6 hx b6 d6 => ?_⟩
    have bH : But d H H6 := (b1.same s25).trans b6
    simp only [List.mem_cons, List.not_mem_nil, or_false] at hx
    rcases hx with rfl | rfl | rfl
    · refine q p1 .emp H6 (by simp [Pat.Ok]) (by simp [Pat.depth]) bH d6 ?_
      unfold PatAt
      exact .inl (.inl (b6 _ _ (ne_of_none hy10 np1).symm (s5 _ _ (s4 _ _ (s3 _ _ upd_same)))))
    · refine q p2 .non H6 (by simp [Pat.Ok]) (by simp [Pat.depth]) bH d6 ?_
      unfold PatAt
      exact .inl (.inl (b6 _ _ (ne_of_none (s2 _ _ hy10) np2).symm (s5 _ _ (s4 _ _ upd_same))))
    · refine q p3 (.one [0]) H6 (by simp [Pat.Ok]; omega) (by simp [Pat.depth]) bH d6 ?_
      unfold PatAt
      exact .inl (.inl (b6 _ _ (ne_of_none ((s2.trans s3) _ _ hy10) np3).symm (s5 _ _ upd_same)))
  -- one
  refine ⟨_, rfl, rfl, _, rfl, ?_⟩
  have one : tRet (tTup (tCons (tC (V.str (Str.ofString "one"))) (tCons (tCall sp_law_letters [] E0 (tCons (tVar 0) (tCons (tVar 1) tNil))) tNil))) { nx := fun x H' => Q V.non H', rt := Q } [some (.ref d), some (nV k), some (nV deep), some (nV kind), none, none] H1 := by
    refine ⟨_, rfl, _, rfl, d, s, k, rfl, hk1, hk3, d1, fun u H2 h1 h2 h3 b2 d2 => ⟨two 2 (by decide), fun p np => ?_⟩⟩
    have s3 := same_new np (.tup [V.str "one", V.str (tx u)])
    refine q p (.one u) _ (by simp only [Pat.Ok]; exact ⟨h1, h2, h3⟩) (by simp [Pat.depth]) ((b1.trans b2).same s3) (d2.same s3) ?_
    unfold PatAt
    exact .inl (.inl upd_same)
  refine ite2 (fun c2 => iteT one) (fun c2 => ?_)
  refine ⟨_, rfl, _, _, rfl, rfl, _, rfl, ite2 (fun _ => one) (fun c3 => ?_)⟩
  have hdp : 1 ≤ deep := Nat.one_le_iff_ne_zero.mpr fun z => by
    subst z
    exact c2 (decide_eq_true rfl)
  have edeep : V.int (((deep : Nat) : Int) - 1) = nV (deep - 1) := congrArg V.int (by omega)
  -- group
  refine ⟨_, rfl, rfl, _, rfl, ite2 (fun _ => ?_) (fun _ => ?_)⟩
  · refine ⟨_, rfl, _, rfl, _, rfl, _, _, rfl, rfl, d, s, k, deep - 1, by rw [← edeep]; rfl, by omega, hk1, hk3, d1, fun b p H2 h1 h2 b2 d2 pt => ⟨two 2 (by decide), fun a na => ?_⟩⟩
    have s3 := same_new na (.tup [V.str "group", V.ref b])
    refine q a (.group p) _ (by simp only [Pat.Ok]; exact h1) (by simp only [Pat.depth]; omega) ((b1.trans b2).same s3) (d2.same s3) ?_
    unfold PatAt
    exact ⟨b, .inl (.inl upd_same), pt.same s3⟩
  -- again
  refine ⟨_, rfl, _, _, rfl, rfl, _, rfl, ite2 (fun _ => ?_) (fun _ => ?_)⟩
  · refine ⟨_, rfl, _, rfl, _, rfl, _, rfl, _, _, rfl, rfl, d, s, k, deep - 1, by rw [← edeep]; rfl, by omega, hk1, hk3, d1, fun b p H2 h1 h2 b2 d2 pt => ?_⟩
    refine ⟨d, s, b, rfl, d2, fun a H3 lo hi way hlo hhi b3 d3 ha => ?_⟩
    obtain ⟨⟨_, hy2⟩, _, _⟩ := d2.some
    refine q a (.again p lo hi) H3 (by simp only [Pat.Ok]; exact ⟨h1, hlo, hhi⟩) (by simp only [Pat.depth]; omega) ((b1.trans b2).trans b3) d3 ?_
    unfold PatAt
    exact ⟨b, way, .inl (.inl ha), pt.but hy2 b3⟩
  -- row, any
  refine ⟨_, rfl, d, s, 4, rfl, by decide, d1, fun r4 H2 hr4' b2 d2 => ?_⟩
  obtain ⟨c, hc1, hc2, ec⟩ : ∃ c : Nat, 2 ≤ c ∧ c ≤ 3 ∧ (2 : Int) + (if decide (nV r4 = V.int 0) = true then 1 else 0) = ((c : Nat) : Int) := by
    by_cases z : decide (nV r4 = V.int 0) = true
    · exact ⟨3, by decide, by decide, by rw [if_pos z]; rfl⟩
    · exact ⟨2, by decide, by decide, by rw [if_neg z]; rfl⟩
  refine ⟨rfl, .inr ⟨_, rfl, _, _, rfl, rfl, ((c : Nat) : Int), congrArg (fun z => [V.int z]) ec, by omega, by omega, fun D nD => ?_⟩⟩
  obtain ⟨⟨_, hy20⟩, ⟨_, hy21⟩, _⟩ := d2.some
  have ndD : d ≠ D := ne_of_none hy20 nD
  have nsD : s ≠ D := ne_of_none hy21 nD
  have s3 := same_new nD (.lst [])
  have hD0 : H D = none := Classical.byContradiction fun z => by
    obtain ⟨o, ho⟩ := Option.ne_none_iff_exists'.mp z
    have hD1 : D ≠ d := ndD.symm
    have := b2 _ _ hD1 (b1 _ _ hD1 ho)
    rw [nD] at this
    cases this
  refine lc_it (walk_range (lo := 0)) (fun i H5 => ∃ (bs : List Addr) (ps : List Pat), ps.length = i ∧ (∀ p, p ∈ ps → p.Ok k ∧ p.depth ≤ deep - 1) ∧ But d H H5 ∧ DrawOk H5 d s ∧ H5 D = some (.lst (bs.map V.ref)) ∧ bs.length = i ∧ PatsAt K H5 (Pats.ofL ps) bs) ⟨[], [], rfl, fun p h => by simp at h, (b1.trans b2).same s3, d2.same s3, upd_same, rfl, by unfold Pats.ofL PatsAt; rfl⟩ (fun _ _ _ _ => trivial) (fun i x H5 H6 hi q0 y => ?_) (fun H5 q0 => ?_)
  · obtain ⟨bs, ps, hpl, hps, b5, d5, hD5, hbl, pt5⟩ := q0
    obtain ⟨rfl, rfl⟩ := y
    rw [Int.toNat_natCast] at hi
    refine ⟨rfl, tYes_if ⟨_, rfl, _, rfl, _, rfl, _, _, rfl, rfl, d, s, k, deep - 1, by rw [← edeep]; rfl, by omega, hk1, hk3, d5, fun b p H7 h1 h2 b7 d7 pt => ?_⟩⟩
    obtain ⟨⟨_, hy50⟩, _, _⟩ := d5.some
    have hD7 := b7 _ _ ndD.symm hD5
    have bD : But D H7 (upd H7 D (.lst (bs.map V.ref ++ [V.ref b]))) := fun b o hb e => by
      rw [upd_ne hb]
      exact e
    refine ⟨_, hD7, by rw [List.length_map]; exact small1000 (by omega), bs ++ [b], ps ++ [p], by rw [List.length_append, hpl]; rfl, fun p' hp' => ?_, fun b' o hb e => ?_, d7.upd ndD nsD, ?_, by rw [List.length_append, hbl]; rfl, ?_⟩
    · rcases List.mem_append.mp hp' with z | z
      · exact hps p' z
      · rw [List.mem_singleton.mp z]
        exact ⟨h1, h2⟩
    · rw [upd_ne (ne_of_none e hD0)]
      exact b7 _ _ hb (b5 _ _ hb e)
    · rw [upd_same, List.map_append]
      rfl
    · exact patsAt_snoc (pt.but hD7 bD) ps bs ((pt5.but hy50 b7).but hD7 bD)
  · obtain ⟨bs, ps, hpl, hps, b5, d5, hD5, hbl, pt5⟩ := q0
    rw [Int.toNat_natCast] at hpl hbl
    obtain ⟨⟨_, hy50⟩, _, _⟩ := d5.some
    refine ⟨_, rfl, two 3 (by decide), fun p1 np1 => ?_⟩
    have s6 := same_new np1 (.lst [V.str "row", V.str "row", V.str "any"])
    refine ⟨d, s, p1, _, rfl, d5.same s6, upd_same, (ne_of_none hy50 np1).symm, by simp, (show 3 ≤ 100 by decide), fun x H7 hx b7 d7 => ⟨two 1 (by decide), fun p2 np2 => ?_⟩⟩
    have s8 := same_new np2 (.tup [x])
    have hD8 := s8 _ _ (b7 _ _ ndD.symm (s6 _ _ hD5))
    refine ⟨_, rfl, D, _, rfl, SqL.of hD8, fun tp ntp => ?_⟩
    have s9 := same_new ntp (.tup (bs.map V.ref))
    have hx2 : (upd (upd H7 p2 (.tup [x])) tp (.tup (bs.map V.ref))) p2 = some (.tup [x]) := s9 _ _ upd_same
    have hne : (bs.map V.ref) ≠ [] := fun z => by
      have := congrArg List.length z
      rw [List.length_map, hbl] at this
      simp at this
      omega
    refine ⟨p2, tp, _, _, rfl, rfl, .inl (.inl hx2), SqT.new, by simp, ?_, fun z => absurd z hne, fun _ rp nrp => ?_⟩
    · rw [List.length_map, hbl]
      show 1 + c ≤ sizeLine
      exact two _ (by omega)
    have s10 := same_new nrp (.tup ([x] ++ bs.map V.ref))
    have s810 := (s8.trans s9).trans s10
    have ptF : PatsAt K (upd (upd (upd H7 p2 (.tup [x])) tp (.tup (bs.map V.ref))) rp (.tup ([x] ++ bs.map V.ref))) (Pats.ofL ps) bs := ((pt5.same s6).but (s6 _ _ hy50) b7).same s810
    have bF := ((b5.same s6).trans b7).same s810
    have dF := d7.same s810
    have oF : (Pats.ofL ps).Ok k := (Pats.ok_toL _).mpr fun p hp => (hps p (by rw [Pats.toL_ofL] at hp; exact hp)).1
    have lF : (Pats.ofL ps).len ≤ 4 := by
      rw [Pats.len_toL, Pats.toL_ofL]
      omega
    have eF : (Pats.ofL ps).depth ≤ deep - 1 := (Pats.depth_toL _).mpr fun p hp => (hps p (by rw [Pats.toL_ofL] at hp; exact hp)).2
    simp only [List.mem_cons, List.not_mem_nil, or_false] at hx
    have row : x = V.str "row" → Q (.ref rp) (upd (upd (upd H7 p2 (.tup [x])) tp (.tup (bs.map V.ref))) rp (.tup ([x] ++ bs.map V.ref))) := by
      rintro rfl
      refine q rp (.row (Pats.ofL ps)) _ (by simp only [Pat.Ok]; exact ⟨oF, lF⟩) (by simp only [Pat.depth]; omega) bF dF ?_
      unfold PatAt
      exact ⟨bs, .inl (.inl upd_same), ptF⟩
    rcases hx with rfl | rfl | rfl
    · exact row rfl
    · exact row rfl
    · refine q rp (.any (Pats.ofL ps)) _ (by simp only [Pat.Ok]; exact ⟨oF, lF⟩) (by simp only [Pat.depth]; omega) bF dF ?_
      unfold PatAt
      exact ⟨bs, .inl (.inl upd_same), ptF⟩
theorem ok_law_grown0 {f : Addr} {fd : FuncData} (F : Fun K "_law_grown" "_law_grown" s_law_grown f fd) : FnOk P w K mg base CX0 5 f fd ["draw", "size", "deep"] (sp_law_grown K 0) := by
  refine F.ok (k := 4) sc_law_grown (fun vs H Q E h => ?_) (fun cdv A outer s0 H vs Q E hr h => ?_)
  · obtain ⟨d, s, k, deep, rfl, hd, _⟩ := h
    omega
  · obtain ⟨d, s, k, deep, rfl, hd, _⟩ := h
    omega
theorem ok_law_grown {f : Addr} {fd : FuncData} (F : Fun K "_law_grown" "_law_grown" s_law_grown f fd) (B : Bt mg) (C_law_next : Got P w K mg base CX0 3 "_law_next" ["draw", "bound"] sp_law_next) (C_law_pick : Got P w K mg base CX0 4 "_law_pick" ["draw", "things"] sp_law_pick)
    (C_law_letters : Got P w K mg base CX0 4 "_law_letters" ["draw", "size"] sp_law_letters) (C_law_many : Got P w K mg base CX0 5 "_law_many" ["draw", "part"] sp_law_many) (got : ∀ k sp, FnOk P w K mg base CX0 k f fd ["draw", "size", "deep"] sp → Got P w K mg base CX0 k "_law_grown" ["draw", "size", "deep"] sp) :
    ∀ m, FnOk P w K mg base CX0 (5 + m) f fd ["draw", "size", "deep"] (sp_law_grown K m)
  | 0 => ok_law_grown0 F
  | m + 1 => ok_law_grown1 F B C_law_next C_law_pick C_law_letters C_law_many (got _ _ (ok_law_grown F B C_law_next C_law_pick C_law_letters C_law_many got m))
end
end Own
namespace Own
open PySem PySem.Spec PyProof.Rows L2
def Pat.nm : Pat → Str
  | .non => "none"
  | .emp => "empty"
  | .one _ => "one"
  | .row _ => "row"
  | .any _ => "any"
  | .again _ _ _ => "again"
  | .group _ => "group"
def Pat.kids : Pat → List Pat
  | .row ps => ps.toL
  | .any ps => ps.toL
  | .again p _ _ => [p]
  | .group p => [p]
  | _ => []
theorem Pats.ofL_toL : ∀ ps : Pats, Pats.ofL ps.toL = ps
  | .nil => rfl
  | .cons p ps => by rw [Pats.toL, Pats.ofL, Pats.ofL_toL ps]
theorem PatAt.head {K : PySem.W.Frag} {H : Hp} {p : Pat} {a : Addr} (h : PatAt K H p a) : ∃ tl, SqT K H a (.str p.nm :: tl) := by
  cases p <;> unfold PatAt at h
  · exact ⟨_, h⟩
  · exact ⟨_, h⟩
  · exact ⟨_, h⟩
  · obtain ⟨bs, h, _⟩ := h
    exact ⟨_, h⟩
  · obtain ⟨bs, h, _⟩ := h
    exact ⟨_, h⟩
  · obtain ⟨b, way, h, _⟩ := h
    exact ⟨_, h⟩
  · obtain ⟨b, h, _⟩ := h
    exact ⟨_, h⟩
theorem Pats.parts_toL : ∀ ps : Pats, ps.parts = (ps.toL.map Pat.parts).sum
  | .nil => rfl
  | .cons p ps => by rw [Pats.parts, Pats.toL, List.map_cons, List.sum_cons, Pats.parts_toL ps]
theorem Pats.wt_toL : ∀ ps : Pats, ps.wt = (ps.toL.map Pat.wt).sum
  | .nil => rfl
  | .cons p ps => by rw [Pats.wt, Pats.toL, List.map_cons, List.sum_cons, Pats.wt_toL ps]
theorem Pat.parts_kids (p : Pat) : p.parts = 1 + (p.kids.map Pat.parts).sum := by
  cases p <;> simp [Pat.parts, Pat.kids, Pats.parts_toL]
theorem Pat.depth_kids {p c : Pat} (h : c ∈ p.kids) : c.depth < p.depth := by
  cases p <;> simp [Pat.kids] at h
  · rename_i ps
    have := (Pats.depth_toL (m := ps.depth) ps).mp (Nat.le_refl _) c h
    simp only [Pat.depth]
    omega
  · rename_i ps
    have := (Pats.depth_toL (m := ps.depth) ps).mp (Nat.le_refl _) c h
    simp only [Pat.depth]
    omega
  · subst h
    simp only [Pat.depth]
    omega
  · subst h
    simp only [Pat.depth]
    omega
theorem at0 {x : V} {tl : List V} : atI (x :: tl) 0 = some x := atI_nat (j := 0) rfl
theorem at1 {x y : V} {tl : List V} : atI (x :: y :: tl) 1 = some y := atI_nat (j := 1) rfl
theorem at2 {x y z : V} {tl : List V} : atI (x :: y :: z :: tl) 2 = some z := atI_nat (j := 2) rfl
theorem at3 {x y z u : V} {tl : List V} : atI (x :: y :: z :: u :: tl) 3 = some u := atI_nat (j := 3) rfl
theorem cut_tail (x : V) (xs : List V) : cutV (x :: xs) (some 1) none = xs := by
  have e1 : HT.sIx (x :: xs).length 0 (some 1) = 1 := by
    rw [show (1 : Int) = ((1 : Nat) : Int) from rfl, HT.sIx_nat]
    simp
  unfold cutV
  rw [e1, HT.sIx_none]
  simp
theorem cut_ne (x : V) (xs : List V) : ¬ (HT.sIx (x :: xs).length 0 (some 1) = 0 ∧ HT.sIx (x :: xs).length (x :: xs).length none = (x :: xs).length) := by
  have e1 : HT.sIx (x :: xs).length 0 (some 1) = 1 := by
    rw [show (1 : Int) = ((1 : Nat) : Int) from rfl, HT.sIx_nat]
    simp
  rw [e1]
  omega
def Pat.isRA (p : Pat) : Bool := inV (.str p.nm) [.str "row", .str "any"]
def Pat.isAG (p : Pat) : Bool := inV (.str p.nm) [.str "again", .str "group"]
section
variable {P : Program} {w : World} {K : PySem.W.Frag} {mg : Str → Option Value} {base : Heap}
abbrev s_law_inner : Stmt := topS 39
theorem sc_law_inner : FnScope ["pattern"] ["pattern"] (defScope s_law_inner) := ⟨rfl, rfl, rfl, by decide +kernel, rfl, by decide +kernel, by decide +kernel⟩
def sp_law_inner (K : PySem.W.Frag) : Sp := fun vs H Q _ => ∃ (a : Addr) (p : Pat), vs = [.ref a] ∧ PatAt K H p a ∧ p.kids.length ≤ 100 ∧ ∀ (l : Addr) (bs : List Addr) (H' : Hp), Same H H' → H' l = some (.lst (bs.map V.ref)) → PatsAt K H' (Pats.ofL p.kids) bs → Q (.ref l) H'
theorem ok_law_inner {f : Addr} {fd : FuncData} (F : Fun K "_law_inner" "_law_inner" s_law_inner f fd) (B : Bt mg) : FnOk P w K mg base CX0 1 f fd ["pattern"] (sp_law_inner K) := by
  refine F.ok sc_law_inner (fun vs H Q E h => ?_) (fun cdv A outer s0 H vs Q E hr h => ?_)
  · obtain ⟨a, p, rfl, _⟩ := h
    rfl
  obtain ⟨a, p, rfl, pt, hlen, q⟩ := h
  have two : ∀ n, n ≤ 10 → n ≤ sizeLine := fun n h => Nat.le_of_lt (small1000 (by omega))
  refine ⟨_, (pss_cons (ps_if (t_in K (p_ixt K (pv 0) pe_int) (pe_tup (pa_cons pe_str (pa_cons pe_str pa_nil)))) (pss_one (ps_ret (pe_callTy (c_list K) (by rfl) B.list bt_list (pa_cons (pe_slice sl_tup (pv 0) (po_some pe_int) po_none) pa_nil)))) pss_nil) (pss_one (ps_ret (pe_ifExp (t_in K (p_ixt K (pv 0) pe_int) (pe_tup (pa_cons pe_str (pa_cons pe_str pa_nil)))) (pe_lst (pa_cons (p_ixt K (pv 0) pe_int) pa_nil)) (pe_lst pa_nil))))), ?_⟩
  obtain ⟨tl, hsq⟩ := pt.head
  refine ⟨_, rfl, a, _, _, _, rfl, rfl, hsq, at0, two 2 (by decide), fun p1 np1 => ?_⟩
  have s1 := same_new np1 (.tup [V.str "row", V.str "any"])
  refine ⟨p1, _, rfl, .inr SqT.new, rfl, rfl, p.isRA, rfl, ?_⟩
  have ra : ∀ (nm : Str) (ps : Pats) (bs : List Addr), SqT K H a (.str nm :: bs.map V.ref) → PatsAt K H ps bs → p.kids = ps.toL → p.isRA = true →
      tRet (tCB (rListS K) (tCons (tSl (rSlT K) (tVar 0) (tPart (tC (V.int 1))) tNoPart) tNil)) { nx := fun x H' => Q V.non H', rt := Q } [some (.ref a)] (upd H p1 (.tup [V.str "row", V.str "any"])) := by
    intro nm ps bs hs hp hk _
    refine ⟨_, rfl, 1, rfl, a, _, rfl, Same.tup s1 hs, cut_ne _ _, fun p2 np2 => ?_⟩
    rw [cut_tail]
    have s2 := same_new np2 (.tup (bs.map V.ref))
    refine ⟨p2, _, rfl, .inr SqT.new, fun l nl => ?_⟩
    have s3 := same_new nl (.lst (bs.map V.ref))
    refine q l bs _ ((s1.trans s2).trans s3) upd_same ?_
    rw [hk, Pats.ofL_toL]
    exact hp.same ((s1.trans s2).trans s3)
  have no : ∀ R : Bool, (R = p.isAG) → (R = false ∧ p.kids = [] ∨ R = true ∧ ∃ (x : V) (b : Addr) (c : Pat), (∃ tl' : List V, SqT K H a (x :: .ref b :: tl')) ∧ p.kids = [c] ∧ PatAt K H c b) →
      tRet (tIf (tTest (tOp (rIn K false) (tOp (rIxT K) (tVar 0) (tC (V.int 0))) (tTup (tCons (tC (V.str (Str.ofString "again"))) (tCons (tC (V.str (Str.ofString "group"))) tNil)))))
                  (tLst (tCons (tOp (rIxT K) (tVar 0) (tC (V.int 1))) tNil)) (tLst tNil)) { nx := fun x H' => Q V.non H', rt := Q } [some (.ref a)] (upd H p1 (.tup [V.str "row", V.str "any"])) := by
    intro R eR h
    refine ⟨_, rfl, a, _, _, _, rfl, rfl, Same.tup s1 hsq, at0, two 2 (by decide), fun p2 np2 => ?_⟩
    have s2 := same_new np2 (.tup [V.str "again", V.str "group"])
    refine ⟨p2, _, rfl, .inr SqT.new, rfl, rfl, R, by rw [eR]; rfl, ?_⟩
    rcases h with ⟨rfl, hk⟩ | ⟨rfl, x, b, c, ⟨tl', hs⟩, hk, hc⟩
    · refine iteF ⟨two 0 (by decide), fun l nl => q l [] _ ((s1.trans s2).trans (same_new nl _)) upd_same ?_⟩
      rw [hk]
      unfold Pats.ofL PatsAt
      rfl
    · refine iteT ⟨_, rfl, a, _, _, _, rfl, rfl, Same.tup (s1.trans s2) hs, at1, two 1 (by decide), fun l nl => q l [b] _ ((s1.trans s2).trans (same_new nl _)) upd_same ?_⟩
      rw [hk]
      simp only [Pats.ofL, PatsAt]
      exact ⟨b, [], rfl, hc.same ((s1.trans s2).trans (same_new nl _)), rfl⟩
  cases p with
  | non => exact iteF (no false (by decide +kernel) (.inl ⟨rfl, rfl⟩))
  | emp => exact iteF (no false (by decide +kernel) (.inl ⟨rfl, rfl⟩))
  | one u => exact iteF (no false (show false = inV (.str "one") [.str "again", .str "group"] by decide +kernel) (.inl ⟨rfl, rfl⟩))
  | row ps =>
    unfold PatAt at pt
    obtain ⟨bs, h1, h2⟩ := pt
    exact iteT (ra _ ps bs h1 h2 rfl rfl)
  | any ps =>
    unfold PatAt at pt
    obtain ⟨bs, h1, h2⟩ := pt
    exact iteT (ra _ ps bs h1 h2 rfl rfl)
  | again c lo hi =>
    unfold PatAt at pt
    obtain ⟨b, way, h1, h2⟩ := pt
    exact iteF (no true (show true = inV (.str "again") [.str "again", .str "group"] by decide +kernel) (.inr ⟨rfl, _, b, c, ⟨_, h1⟩, rfl, h2⟩))
  | group c =>
    unfold PatAt at pt
    obtain ⟨b, h1, h2⟩ := pt
    exact iteF (no true (show true = inV (.str "group") [.str "again", .str "group"] by decide +kernel) (.inr ⟨rfl, _, b, c, ⟨_, h1⟩, rfl, h2⟩))
end
end Own
namespace Own
open PySem PySem.Spec PyProof.Rows L2
theorem Pat.ok_kids {k : Nat} {p : Pat} (h : p.Ok k) : p.kids.length ≤ 4 ∧ ∀ c, c ∈ p.kids → c.Ok k := by
  cases p <;> simp only [Pat.Ok] at h
  · exact ⟨Nat.zero_le _, fun c h => by simp [Pat.kids] at h⟩
  · exact ⟨Nat.zero_le _, fun c h => by simp [Pat.kids] at h⟩
  · exact ⟨Nat.zero_le _, fun c h => by simp [Pat.kids] at h⟩
  · exact ⟨Pats.len_toL _ ▸ h.2, (Pats.ok_toL _).mp h.1⟩
  · exact ⟨Pats.len_toL _ ▸ h.2, (Pats.ok_toL _).mp h.1⟩
  · exact ⟨(show 1 ≤ 4 by decide), fun c hc => by rw [List.mem_singleton.mp hc]; exact h.1⟩
  · exact ⟨(show 1 ≤ 4 by decide), fun c hc => by rw [List.mem_singleton.mp hc]; exact h⟩
theorem str_ne {a b : Str} (h : a ≠ b) (e : V.str a = V.str b) : False := h (V.str.inj e)
theorem wt_one {p : Pat} (h : inV (.str p.nm) [.str "one", .str "empty"] = true) : p.wt = 1 := by
  cases p with
  | emp => rfl
  | one u => rfl
  | non => exact absurd h (show ¬ inV (.str "none") [.str "one", .str "empty"] = true by decide +kernel)
  | row ps => exact absurd h (show ¬ inV (.str "row") [.str "one", .str "empty"] = true by decide +kernel)
  | any ps => exact absurd h (show ¬ inV (.str "any") [.str "one", .str "empty"] = true by decide +kernel)
  | again c lo hi => exact absurd h (show ¬ inV (.str "again") [.str "one", .str "empty"] = true by decide +kernel)
  | group c => exact absurd h (show ¬ inV (.str "group") [.str "one", .str "empty"] = true by decide +kernel)
theorem nm_again {p : Pat} (h : p.nm = "again") : ∃ c lo hi, p = .again c lo hi := by
  cases p with
  | again c lo hi => exact ⟨_, _, _, rfl⟩
  | emp => exact absurd h (show ("empty" : Str) ≠ "again" by decide +kernel)
  | one u => exact absurd h (show ("one" : Str) ≠ "again" by decide +kernel)
  | non => exact absurd h (show ("none" : Str) ≠ "again" by decide +kernel)
  | row ps => exact absurd h (show ("row" : Str) ≠ "again" by decide +kernel)
  | any ps => exact absurd h (show ("any" : Str) ≠ "again" by decide +kernel)
  | group c => exact absurd h (show ("group" : Str) ≠ "again" by decide +kernel)
theorem wt_sum {p : Pat} (h : inV (.str p.nm) [.str "one", .str "empty"] = false) (h2 : p.nm ≠ "again") : p.wt = (p.kids.map Pat.wt).sum := by
  cases p with
  | again c lo hi => exact absurd rfl h2
  | emp => exact absurd h (show ¬ inV (.str "empty") [.str "one", .str "empty"] = false by decide +kernel)
  | one u => exact absurd h (show ¬ inV (.str "one") [.str "one", .str "empty"] = false by decide +kernel)
  | non => rfl
  | row ps => exact Pats.wt_toL ps
  | any ps => exact Pats.wt_toL ps
  | group c => exact (Nat.add_zero _).symm
theorem patsAt_get {K : PySem.W.Frag} {H : Hp} {ps : List Pat} {bs : List Addr} (h : PatsAt K H (Pats.ofL ps) bs) : bs.length = ps.length ∧ ∀ (i : Nat) (p : Pat) (b : Addr), ps[i]? = some p → bs[i]? = some b → PatAt K H p b := by
  have := (patsAt_iff _ _).mp h
  rwa [Pats.toL_ofL] at this
/-- one more than the sum over the parts, as an int -/
theorem sum_map_nV (L : List Nat) : ((L.map fun i => ((i : Nat) : Int))).sum = (L.sum : Nat) := by
  induction L with
  | nil => rfl
  | cons a r ih =>
    rw [List.map_cons, List.sum_cons, List.sum_cons, ih]
    omega
section
variable {P : Program} {w : World} {K : PySem.W.Frag} {mg : Str → Option Value} {base : Heap}
abbrev s_law_parts : Stmt := topS 40
theorem sc_law_parts : FnScope ["pattern", "part"] ["pattern"] (defScope s_law_parts) := ⟨rfl, rfl, rfl, by decide +kernel, rfl, by decide +kernel, by decide +kernel⟩
def sp_law_parts (K : PySem.W.Frag) (m : Nat) : Sp := fun vs H Q _ => ∃ (a : Addr) (p : Pat) (k : Nat), vs = [.ref a] ∧ PatAt K H p a ∧ p.Ok k ∧ p.depth < m ∧ ∀ H', Same H H' → Q (nV p.parts) H'
theorem ok_law_parts1 {f : Addr} {fd : FuncData} {m : Nat} (F : Fun K "_law_parts" "_law_parts" s_law_parts f fd) (B : Bt mg) (C_law_inner : Got P w K mg base CX0 1 "_law_inner" ["pattern"] (sp_law_inner K)) (C_law_parts : Got P w K mg base CX0 (1 + m) "_law_parts" ["pattern"] (sp_law_parts K m)) :
    FnOk P w K mg base CX0 (1 + m + 1) f fd ["pattern"] (sp_law_parts K (m + 1)) := by
  refine F.ok sc_law_parts (fun vs H Q E h => ?_) (fun cdv A outer s0 H vs Q E hr h => ?_)
  · obtain ⟨a, p, k, rfl, _⟩ := h
    rfl
  obtain ⟨a, p, k, rfl, pt, ok, hd, q⟩ := h
  have hr1 : Room 1 _ := hr.mono (by omega)
  obtain ⟨hk4, hko⟩ := Pat.ok_kids ok
  refine ⟨_, (pss_one (ps_ret (pe_op op_add pe_int (pe_callB (c_sum K) (by rfl) B.sum bt_sum (pa_cons (pe_lc (own := [("part", 1)]) rfl sc_law_parts.nd (p_list K (C_law_inner.call hr1 (by rfl) (pa_cons (pv 0) pa_nil))) (blkOk_by (by kernel_rfl)) (fun _ _ _ _ _ => (pg_name (i := 1) sc_law_parts.nd rfl (Or.inl rfl))) (fun _ _ _ _ _ => pts_nil) (fun _ _ _ _ _ => (C_law_parts.call hr (by rfl) (pa_cons (pv 1) pa_nil)))) pa_nil))))), ?_⟩
  refine ⟨_, rfl, a, p, rfl, pt, by omega, fun l bs H1 s1 hl pts => ?_⟩
  obtain ⟨hbl, hpt⟩ := patsAt_get pts
  refine ⟨l, rfl, ⟨_, SqL.of hl⟩, fun D nD => ?_⟩
  refine lc_map (walk_list (K := K) (a := l) (xs := bs.map V.ref)) nD (fun i => nV ((p.kids.getD i .non).parts)) (by rw [List.length_map, hbl]; exact small1000 (by omega)) (fun H2 s2 => SqL.of (s2 _ _ hl)) ?_ ?_
  · rintro i x H2 H3 hi s2 ⟨rfl, hx⟩ R hR
    rw [List.length_map] at hi
    rw [List.getElem?_map, List.getElem?_eq_getElem hi] at hx
    obtain rfl : V.ref bs[i] = x := Option.some.inj hx
    have hik : i < p.kids.length := by omega
    have eg : p.kids.getD i .non = p.kids[i] := by rw [List.getD_eq_getElem?_getD, List.getElem?_eq_getElem hik, Option.getD_some]
    rw [eg] at hR
    have hmem := List.getElem_mem hik
    have := Pat.depth_kids hmem
    refine ⟨rfl, _, rfl, bs[i], p.kids[i], k, rfl, (hpt i _ _ (List.getElem?_eq_getElem hik) (List.getElem?_eq_getElem hi)).same s2, hko _ hmem, by omega, hR⟩
  · intro H2 s2 e2
    refine ⟨D, (p.kids.map Pat.parts).map fun i => ((i : Nat) : Int), rfl, ?_, _, _, rfl, rfl, ?_⟩
    · refine SqL.of ?_
      rw [e2, List.length_map, hbl]
      congr 2
      rw [map_range_get p.kids _ (fun c => nV c.parts) (fun i x hx => by rw [List.getD_eq_getElem?_getD, hx, Option.getD_some]), List.map_map, List.map_map]
      rfl
    · have e : V.int (1 + (((p.kids.map Pat.parts).map fun i => ((i : Nat) : Int))).sum) = nV p.parts := by
        rw [sum_map_nV, Pat.parts_kids p]
        exact congrArg V.int (by omega)
      show Q (V.int (1 + (((p.kids.map Pat.parts).map fun i => ((i : Nat) : Int))).sum)) H2
      rw [e]
      exact q H2 (s1.trans s2)
theorem ok_law_parts0 {f : Addr} {fd : FuncData} (F : Fun K "_law_parts" "_law_parts" s_law_parts f fd) : FnOk P w K mg base CX0 1 f fd ["pattern"] (sp_law_parts K 0) := by
  refine F.ok (k := 0) sc_law_parts (fun vs H Q E h => ?_) (fun cdv A outer s0 H vs Q E hr h => ?_)
  · obtain ⟨a, p, k, rfl, _, _, h, _⟩ := h
    omega
  · obtain ⟨a, p, k, rfl, _, _, h, _⟩ := h
    omega
theorem ok_law_parts {f : Addr} {fd : FuncData} (F : Fun K "_law_parts" "_law_parts" s_law_parts f fd) (B : Bt mg) (C_law_inner : Got P w K mg base CX0 1 "_law_inner" ["pattern"] (sp_law_inner K)) (got : ∀ k sp, FnOk P w K mg base CX0 k f fd ["pattern"] sp → Got P w K mg base CX0 k "_law_parts" ["pattern"] sp) :
    ∀ m, FnOk P w K mg base CX0 (1 + m) f fd ["pattern"] (sp_law_parts K m)
  | 0 => ok_law_parts0 F
  | m + 1 => ok_law_parts1 F B C_law_inner (got _ _ (ok_law_parts F B C_law_inner got m))
abbrev s_law_weight : Stmt := topS 41
theorem sc_law_weight : FnScope ["pattern", "found", "part"] ["pattern"] (defScope s_law_weight) := ⟨rfl, rfl, rfl, by decide +kernel, rfl, by decide +kernel, by decide +kernel⟩
def sp_law_weight (K : PySem.W.Frag) (m : Nat) : Sp := fun vs H Q _ => ∃ (a : Addr) (p : Pat) (k : Nat), vs = [.ref a] ∧ PatAt K H p a ∧ p.Ok k ∧ p.depth < m ∧ ∀ H', Same H H' → Q (nV p.wt) H'
theorem ok_law_weight1 {f : Addr} {fd : FuncData} {m : Nat} (F : Fun K "_law_weight" "_law_weight" s_law_weight f fd) (B : Bt mg) (C_law_inner : Got P w K mg base CX0 1 "_law_inner" ["pattern"] (sp_law_inner K)) (C_law_weight : Got P w K mg base CX0 (1 + m) "_law_weight" ["pattern"] (sp_law_weight K m)) :
    FnOk P w K mg base CX0 (1 + m + 1) f fd ["pattern"] (sp_law_weight K (m + 1)) := by
  refine F.ok sc_law_weight (fun vs H Q E h => ?_) (fun cdv A outer s0 H vs Q E hr h => ?_)
  · obtain ⟨a, p, k, rfl, _⟩ := h
    rfl
  obtain ⟨a, p, k, rfl, pt, ok, hd, q⟩ := h
  have hr1 : Room 1 _ := hr.mono (by omega)
  obtain ⟨hk4, hko⟩ := Pat.ok_kids ok
  have two : ∀ n, n ≤ 10 → n ≤ sizeLine := fun n h => Nat.le_of_lt (small1000 (by omega))
  refine ⟨_, (pss_cons (ps_if (t_in K (p_ixt K (pv 0) pe_int) (pe_tup (pa_cons pe_str (pa_cons pe_str pa_nil)))) (pss_one (ps_ret pe_int)) pss_nil) (pss_cons (ps_set (i := 1) sc_law_weight.nd rfl (Or.inl rfl) (pe_callB (c_sum K) (by rfl) B.sum bt_sum (pa_cons (pe_lc (own := [("part", 2)]) rfl sc_law_weight.nd (p_list K (C_law_inner.call hr1 (by rfl) (pa_cons (pv 0) pa_nil))) (blkOk_by (by kernel_rfl)) (fun _ _ _ _ _ => (pg_name (i := 2) sc_law_weight.nd rfl (Or.inl rfl))) (fun _ _ _ _ _ => pts_nil) (fun _ _ _ _ _ => (C_law_weight.call hr (by rfl) (pa_cons (pv 2) pa_nil)))) pa_nil))) (pss_cons (ps_if (pt_cmpR op_eq (p_ixt K (pv 0) pe_int) pe_str (nomark _)) (pss_one (ps_ret (pe_op op_mul (pv 1) (pe_ifExp (pt_cmpR op_isN (p_ixt K (pv 0) pe_int) pe_non (nomark _)) (pe_op op_add (p_ixt K (pv 0) pe_int) pe_int) (p_ixt K (pv 0) pe_int))))) pss_nil) (pss_one (ps_ret (pv 1)))))), ?_⟩
  obtain ⟨tl, hsq⟩ := pt.head
  refine ⟨_, rfl, a, _, _, _, rfl, rfl, hsq, at0, two 2 (by decide), fun p1 np1 => ?_⟩
  have s1 := same_new np1 (.tup [V.str "one", V.str "empty"])
  refine ⟨p1, _, rfl, .inr SqT.new, rfl, rfl, inV (.str p.nm) [.str "one", .str "empty"], rfl, ?_⟩
  cases hb : inV (.str p.nm) [.str "one", .str "empty"] with
  | true =>
    have z := q _ s1
    rw [wt_one hb] at z
    exact iteT z
  | false =>
  refine iteF ⟨_, rfl, a, p, rfl, pt.same s1, by omega, fun l bs H1 s2 hl pts => ?_⟩
  obtain ⟨hbl, hpt⟩ := patsAt_get pts
  have s12 := s1.trans s2
  refine ⟨l, rfl, ⟨_, SqL.of hl⟩, fun D nD => ?_⟩
  refine lc_map (walk_list (K := K) (a := l) (xs := bs.map V.ref)) nD (fun i => nV ((p.kids.getD i .non).wt)) (by rw [List.length_map, hbl]; exact small1000 (by omega)) (fun H2 s2 => SqL.of (s2 _ _ hl)) ?_ ?_
  · rintro i x H2 H3 hi s2 ⟨rfl, hx⟩ R hR
    rw [List.length_map] at hi
    rw [List.getElem?_map, List.getElem?_eq_getElem hi] at hx
    obtain rfl : V.ref bs[i] = x := Option.some.inj hx
    have hik : i < p.kids.length := by omega
    have eg : p.kids.getD i .non = p.kids[i] := by rw [List.getD_eq_getElem?_getD, List.getElem?_eq_getElem hik, Option.getD_some]
    rw [eg] at hR
    have hmem := List.getElem_mem hik
    have := Pat.depth_kids hmem
    refine ⟨rfl, _, rfl, bs[i], p.kids[i], k, rfl, (hpt i _ _ (List.getElem?_eq_getElem hik) (List.getElem?_eq_getElem hi)).same s2, hko _ hmem, by omega, hR⟩
  · intro H2 s3 e2
    have s13 := s12.trans s3
    refine ⟨D, (p.kids.map Pat.wt).map fun i => ((i : Nat) : Int), rfl, ?_, ?_⟩
    · refine SqL.of ?_
      rw [e2, List.length_map, hbl]
      congr 2
      rw [map_range_get p.kids _ (fun c => nV c.wt) (fun i x hx => by rw [List.getD_eq_getElem?_getD, hx, Option.getD_some]), List.map_map, List.map_map]
      rfl
    · rw [sum_map_nV]
      refine ⟨_, rfl, a, _, _, _, rfl, rfl, Same.tup s13 hsq, at0, rfl, _, rfl, ite2 (fun c => ?_) (fun c => ?_)⟩
      · have c := V.str.inj (of_decide_eq_true c)
        obtain ⟨c1, lo, hi, rfl⟩ := nm_again c
        unfold PatAt at pt
        obtain ⟨b, way, h1, h2⟩ := pt
        have h1' := Same.tup s13 h1
        simp only [Pat.Ok] at ok
        obtain ⟨_, hlo, hhi⟩ := ok
        have ek : ((Pat.again c1 lo hi).kids.map Pat.wt).sum = c1.wt := Nat.add_zero _
        rw [ek]
        refine ⟨_, rfl, _, rfl, a, _, _, _, rfl, rfl, h1', at3, rfl, _, rfl, ?_⟩
        cases hi with
        | none =>
          refine iteT ⟨_, rfl, a, _, _, _, rfl, rfl, h1', at2, _, _, rfl, rfl, _, _, rfl, rfl, .inr ⟨by omega, by omega⟩, ?_⟩
          have e : V.int (((c1.wt : Nat) : Int) * ((lo : Int) + 1)) = nV (Pat.again c1 lo none).wt := congrArg V.int (by simp only [Pat.wt]; rw [Int.natCast_mul]; rfl)
          show Q (V.int (((c1.wt : Nat) : Int) * ((lo : Int) + 1))) H2
          rw [e]
          exact q H2 s13
        | some h =>
          have hh := hhi h rfl
          refine iteF ⟨_, rfl, a, _, _, _, rfl, rfl, h1', at3, _, _, rfl, rfl, .inr ⟨by omega, by omega⟩, ?_⟩
          have e : V.int (((c1.wt : Nat) : Int) * (h : Int)) = nV (Pat.again c1 lo (some h)).wt := congrArg V.int (by simp only [Pat.wt]; rw [Int.natCast_mul])
          show Q (V.int (((c1.wt : Nat) : Int) * (h : Int))) H2
          rw [e]
          exact q H2 s13
      · have c : p.nm ≠ "again" := fun z => c (decide_eq_true (congrArg V.str z))
        have z := q H2 s13
        rw [wt_sum hb c] at z
        exact ⟨_, rfl, z⟩
theorem ok_law_weight0 {f : Addr} {fd : FuncData} (F : Fun K "_law_weight" "_law_weight" s_law_weight f fd) : FnOk P w K mg base CX0 1 f fd ["pattern"] (sp_law_weight K 0) := by
  refine F.ok (k := 0) sc_law_weight (fun vs H Q E h => ?_) (fun cdv A outer s0 H vs Q E hr h => ?_)
  · obtain ⟨a, p, k, rfl, _, _, h, _⟩ := h
    omega
  · obtain ⟨a, p, k, rfl, _, _, h, _⟩ := h
    omega
theorem ok_law_weight {f : Addr} {fd : FuncData} (F : Fun K "_law_weight" "_law_weight" s_law_weight f fd) (B : Bt mg) (C_law_inner : Got P w K mg base CX0 1 "_law_inner" ["pattern"] (sp_law_inner K)) (got : ∀ k sp, FnOk P w K mg base CX0 k f fd ["pattern"] sp → Got P w K mg base CX0 k "_law_weight" ["pattern"] sp) :
    ∀ m, FnOk P w K mg base CX0 (1 + m) f fd ["pattern"] (sp_law_weight K m)
  | 0 => ok_law_weight0 F
  | m + 1 => ok_law_weight1 F B C_law_inner (got _ _ (ok_law_weight F B C_law_inner got m))
abbrev s_law_pattern : Stmt := topS 42
theorem sc_law_pattern : FnScope ["draw", "size", "most", "found"] ["draw", "size", "most"] (defScope s_law_pattern) := ⟨rfl, rfl, rfl, by decide +kernel, rfl, by decide +kernel, by decide +kernel⟩
def sp_law_pattern (K : PySem.W.Frag) : Sp := fun vs H Q _ => ∃ (d s : Addr) (k : Nat), vs = [.ref d, nV k, .int 4] ∧ 1 ≤ k ∧ k ≤ 3 ∧ DrawOk H d s ∧
  ∀ (a : Addr) (p : Pat) (H' : Hp), p.Ok k → p.depth ≤ 3 → p.wt ≤ 4 → But d H H' → DrawOk H' d s → PatAt K H' p a → Q (.ref a) H'
theorem ok_law_pattern {f : Addr} {fd : FuncData} (F : Fun K "_law_pattern" "_law_pattern" s_law_pattern f fd) (B : Bt mg) (C_law_grown : Got P w K mg base CX0 9 "_law_grown" ["draw", "size", "deep"] (sp_law_grown K 4)) (C_law_letters : Got P w K mg base CX0 4 "_law_letters" ["draw", "size"] sp_law_letters)
    (C_law_parts : Got P w K mg base CX0 5 "_law_parts" ["pattern"] (sp_law_parts K 4)) (C_law_weight : Got P w K mg base CX0 5 "_law_weight" ["pattern"] (sp_law_weight K 4)) : FnOk P w K mg base CX0 10 f fd ["draw", "size", "most"] (sp_law_pattern K) := by
  refine F.ok sc_law_pattern (fun vs H Q E h => ?_) (fun cdv A outer s0 H vs Q E hr h => ?_)
  · obtain ⟨d, s, k, rfl, _⟩ := h
    rfl
  obtain ⟨d, s, k, rfl, hk1, hk3, hd, q⟩ := h
  have hr4 : Room 4 _ := hr.mono (by decide)
  have hr5 : Room 5 _ := hr.mono (by decide)
  have two : ∀ n, n ≤ 10 → n ≤ sizeLine := fun n h => Nat.le_of_lt (small1000 (by omega))
  refine ⟨_, (pss_cons (ps_set (i := 3) sc_law_pattern.nd rfl (Or.inl rfl) (C_law_grown.call hr (by rfl) (pa_cons (pv 0) (pa_cons (pv 1) (pa_cons pe_int pa_nil))))) (pss_cons (ps_if (PW.pt (pw_or (pt_cmpR op_gt (C_law_parts.call hr5 (by rfl) (pa_cons (pv 3) pa_nil)) pe_int (nomark _)) (pw_or1 (pt_cmpR op_gt (C_law_weight.call hr5 (by rfl) (pa_cons (pv 3) pa_nil)) (pv 2) (nomark _))))) (pss_one (ps_set (i := 3) sc_law_pattern.nd rfl (Or.inl rfl) (C_law_grown.call hr (by rfl) (pa_cons (pv 0) (pa_cons (pv 1) (pa_cons pe_int pa_nil)))))) pss_nil) (pss_cons (ps_if (pt_cmpR op_gt (C_law_weight.call hr5 (by rfl) (pa_cons (pv 3) pa_nil)) (pv 2) (nomark _)) (pss_one (ps_set (i := 3) sc_law_pattern.nd rfl (Or.inl rfl) (pe_tup (pa_cons pe_str (pa_cons (C_law_letters.call hr4 (by rfl) (pa_cons (pv 0) (pa_cons (pv 1) pa_nil))) pa_nil))))) pss_nil) (pss_one (ps_ret (pv 3)))))), ?_⟩
  refine ⟨_, rfl, _, rfl, d, s, k, 3, rfl, by decide, hk1, hk3, hd, fun a p H1 ok dp b1 d1 pt => ?_⟩
  have fin : ∀ (a : Addr) (p : Pat) (H1 : Hp), p.Ok k → p.depth ≤ 3 → But d H H1 → DrawOk H1 d s → PatAt K H1 p a →
      tSeq (tIfS (tTest (tOp (rI0 fun i j => V.bl (decide (j < i))) (tCall (sp_law_weight K 4) [] E0 (tCons (tVar 3) tNil)) (tVar 2)))
          (tAsg (tTup (tCons (tC (V.str (Str.ofString "one"))) (tCons (tCall sp_law_letters [] E0 (tCons (tVar 0) (tCons (tVar 1) tNil))) tNil))) (gName 3)) tNext)
        (tRet (tVar 3)) { nx := fun x H' => Q V.non H', rt := Q } [some (.ref d), some (nV k), some (.int 4), some (.ref a)] H1 := by
    intro a p H1 ok dp b1 d1 pt
    refine ⟨_, rfl, a, p, k, rfl, pt, ok, by omega, fun H2 s2 => ⟨_, rfl, _, _, rfl, rfl, _, rfl, ite2 (fun c => ?_) (fun c => ?_)⟩⟩
    · refine ⟨_, rfl, _, rfl, d, s, k, rfl, hk1, hk3, d1.same s2, fun u H3 h1 h2 h3 b3 d3 => ⟨two 2 (by decide), fun a2 na => ?_⟩⟩
      have s4 := same_new na (.tup [V.str "one", V.str (tx u)])
      refine ⟨_, rfl, q a2 (.one u) _ (by simp only [Pat.Ok]; exact ⟨h1, h2, h3⟩) (by simp [Pat.depth]) (by simp [Pat.wt]) (((b1.same s2).trans b3).same s4) (d3.same s4) ?_⟩
      unfold PatAt
      exact .inl (.inl upd_same)
    · have c : ¬ ((4 : Int) < (p.wt : Nat)) := of_decide_eq_false (Bool.eq_false_iff.mpr c)
      exact ⟨_, rfl, q a p H2 ok dp (by omega) (b1.same s2) (d1.same s2) (pt.same s2)⟩
  have second : ∀ (a : Addr) (H2 : Hp), But d H H2 → DrawOk H2 d s → tAsg (tCall (sp_law_grown K 4) [] E0 (tCons (tVar 0) (tCons (tVar 1) (tCons (tC (V.int 1)) tNil)))) (gName 3)
      { nx := (tSeq (tIfS (tTest (tOp (rI0 fun i j => V.bl (decide (j < i))) (tCall (sp_law_weight K 4) [] E0 (tCons (tVar 3) tNil)) (tVar 2)))
          (tAsg (tTup (tCons (tC (V.str (Str.ofString "one"))) (tCons (tCall sp_law_letters [] E0 (tCons (tVar 0) (tCons (tVar 1) tNil))) tNil))) (gName 3)) tNext)
        (tRet (tVar 3)) { nx := fun x H' => Q V.non H', rt := Q }), rt := Q } [some (.ref d), some (nV k), some (.int 4), some (.ref a)] H2 := by
    intro a H2 b2 d2
    exact ⟨_, rfl, _, rfl, d, s, k, 1, rfl, by decide, hk1, hk3, d2, fun a2 p2 H3 ok2 dp2 b3 d3 pt2 => fin a2 p2 H3 ok2 (by omega) (b2.trans b3) d3 pt2⟩
  refine ⟨_, rfl, a, p, k, rfl, pt, ok, by omega, fun H2 s2 => ⟨_, _, rfl, rfl, _, rfl, ite2 (fun _ => iteT (second a H2 (b1.same s2) (d1.same s2))) (fun _ => ?_)⟩⟩
  refine ⟨_, rfl, a, p, k, rfl, pt.same s2, ok, by omega, fun H3 s3 => ⟨_, rfl, _, _, rfl, rfl, _, rfl, ite2 (fun _ => second a H3 ((b1.same s2).same s3) ((d1.same s2).same s3)) (fun _ => ?_)⟩⟩
  exact fin a p H3 ok dp ((b1.same s2).same s3) ((d1.same s2).same s3) ((pt.same s2).same s3)
end
end Own
namespace Own
open PySem PySem.Spec PyProof.Rows L2
theorem go_row_snoc {p : Pat} {t : Word} : ∀ (l : List Pat) (i j : Nat), i ≤ t.length → (Go (LRow (Pats.ofL (l ++ [p]))) t i j ↔ ∃ x, Go (LRow (Pats.ofL l)) t i x ∧ Go (L p) t x j)
  | [], i, j, hi => by
    simp only [List.nil_append, Pats.ofL]
    rw [go_row_cons]
    constructor
    · rintro ⟨x, h1, h2⟩
      rw [go_row_nil h1.2.1] at h2
      subst h2
      exact ⟨i, (go_row_nil hi).mpr rfl, h1⟩
    · rintro ⟨x, h1, h2⟩
      rw [go_row_nil hi] at h1
      subst h1
      exact ⟨j, h2, (go_row_nil h2.2.1).mpr rfl⟩
  | a :: l, i, j, hi => by
    simp only [List.cons_append, Pats.ofL]
    rw [go_row_cons]
    constructor
    · rintro ⟨x, h1, h2⟩
      obtain ⟨y, h3, h4⟩ := (go_row_snoc l x j h1.2.1).mp h2
      exact ⟨y, go_row_cons.mpr ⟨x, h1, h3⟩, h4⟩
    · rintro ⟨y, h1, h2⟩
      obtain ⟨x, h3, h4⟩ := go_row_cons.mp h1
      exact ⟨x, h3, (go_row_snoc l x j h3.2.1).mpr ⟨y, h4, h2⟩⟩
theorem go_any {t : Word} {i j : Nat} : ∀ ps : Pats, Go (LAny ps) t i j ↔ ∃ p, p ∈ ps.toL ∧ Go (L p) t i j
  | .nil => by
    constructor
    · intro h
      exact absurd h go_any_nil
    · rintro ⟨p, h, _⟩
      simp [Pats.toL] at h
  | .cons a ps => by
    rw [go_any_cons, go_any ps, Pats.toL]
    constructor
    · rintro (h | ⟨p, h1, h2⟩)
      · exact ⟨a, List.mem_cons_self, h⟩
      · exact ⟨p, List.mem_cons_of_mem _ h1, h2⟩
    · rintro ⟨p, h1, h2⟩
      rcases List.mem_cons.mp h1 with rfl | h1
      · exact .inl h2
      · exact .inr ⟨p, h1, h2⟩
end Own
namespace Own
open PySem PySem.Spec PyProof.Rows L2
/-! nets in the heap -/
def EdgeAt (K : PySem.W.Frag) (H : Hp) (a : Addr) (e : Edge) : Prop := SqT K H a [nV e.1, .str (tx e.2.1), nV e.2.2]
structure NetAt (K : PySem.W.Frag) (H : Hp) (a el : Addr) (c : Nat) (E : List Edge) : Prop where
  top : H a = some (.lst [nV c, .ref el])
  ne : el ≠ a
  ed : ∃ es : List Addr, H el = some (.lst (es.map V.ref)) ∧ es.length = E.length ∧ ∀ (i : Nat) (x : Addr) (e : Edge), es[i]? = some x → E[i]? = some e → EdgeAt K H x e
def But2 (a b : Addr) (H H' : Hp) : Prop := ∀ x o, x ≠ a → x ≠ b → H x = some o → H' x = some o
theorem But2.trans {a b : Addr} {H H1 H2 : Hp} (h : But2 a b H H1) (h' : But2 a b H1 H2) : But2 a b H H2 := fun x o h1 h2 e => h' x o h1 h2 (h x o h1 h2 e)
theorem But2.of {a b : Addr} {H H1 : Hp} (h : Same H H1) : But2 a b H H1 := fun x o _ _ e => h x o e
theorem But2.refl {a b : Addr} {H : Hp} : But2 a b H H := fun _ _ _ _ e => e
section
variable {K : PySem.W.Frag} {H H' : Hp} {a b x el : Addr} {xs ys zs : List V} {c : Nat} {E : List Edge}
theorem But2.tup (h : But2 a b H H') (ha : H a = some (.lst ys)) (hb : H b = some (.lst zs)) (q : SqT K H x xs) : SqT K H' x xs := by
  rcases q with (q | ⟨ob, q⟩) | q
  · exact .inl (.inl (h _ _ (ne_of q ha fun z => nomatch z) (ne_of q hb fun z => nomatch z) q))
  · exact .inl (.inr ⟨ob, h _ _ (ne_of q ha fun z => nomatch z) (ne_of q hb fun z => nomatch z) q⟩)
  · exact .inr q
theorem NetAt.tups (h : NetAt K H a el c E) (e : But2 a el H H') : ∀ x xs, SqT K H x xs → SqT K H' x xs := fun x xs q => by
  obtain ⟨es, h1, _, _⟩ := h.ed
  exact e.tup h.top h1 q
theorem NetAt.same (h : NetAt K H a el c E) (e : Same H H') : NetAt K H' a el c E := by
  obtain ⟨es, h1, h2, h3⟩ := h.ed
  exact ⟨e _ _ h.top, h.ne, es, e _ _ h1, h2, fun i x ed q1 q2 => Same.tup e (h3 i x ed q1 q2)⟩
theorem NetAt.len (h : NetAt K H a el c E) : ∃ es : List Addr, H el = some (.lst (es.map V.ref)) ∧ es.length = E.length := by
  obtain ⟨es, h1, h2, _⟩ := h.ed
  exact ⟨es, h1, h2⟩
/-- one more edge -/
theorem NetAt.app (h : NetAt K H a el c E) {es : List Addr} (hes : H el = some (.lst (es.map V.ref))) {tp : Addr} (np : H tp = none) (e : Edge) :
    NetAt K (upd (upd H tp (.tup [nV e.1, .str (tx e.2.1), nV e.2.2])) el (.lst (es.map V.ref ++ [.ref tp]))) a el c (E ++ [e]) ∧ But2 a el H (upd (upd H tp (.tup [nV e.1, .str (tx e.2.1), nV e.2.2])) el (.lst (es.map V.ref ++ [.ref tp]))) := by
  obtain ⟨es', h1, h2, h3⟩ := h.ed
  have e1 : es' = es := by
    rw [hes] at h1
    have z : es.map V.ref = es'.map V.ref := HO.lst.inj (Option.some.inj h1)
    exact ((List.map_inj_right (fun a b e => V.ref.inj e)).mp z).symm
  subst e1
  have s1 := same_new np (.tup [nV e.1, .str (tx e.2.1), nV e.2.2])
  have net : tp ≠ el := fun z => by
    rw [z, h1] at np
    cases np
  have bt : But2 a el H (upd (upd H tp (.tup [nV e.1, .str (tx e.2.1), nV e.2.2])) el (.lst (es'.map V.ref ++ [.ref tp]))) := fun x o hx1 hx2 q => by
    rw [upd_ne hx2]
    exact s1 _ _ q
  refine ⟨⟨?_, h.ne, es' ++ [tp], ?_, by rw [List.length_append, List.length_append, h2]; rfl, fun i x ed q1 q2 => ?_⟩, bt⟩
  · rw [upd_ne h.ne.symm]
    exact s1 _ _ h.top
  · rw [upd_same, List.map_append]
    rfl
  · by_cases hi : i < es'.length
    · rw [List.getElem?_append_left hi] at q1
      rw [List.getElem?_append_left (by omega)] at q2
      exact bt.tup h.top h1 (h3 i x ed q1 q2)
    · rw [List.getElem?_append_right (by omega)] at q1
      have hz : i - es'.length = 0 := by
        have := (List.getElem?_eq_some_iff.mp q1).1
        simp at this
        omega
      rw [hz] at q1
      obtain rfl : tp = x := by simpa using q1
      rw [List.getElem?_append_right (by omega)] at q2
      have hz2 : i - E.length = 0 := by omega
      rw [hz2] at q2
      obtain rfl : e = ed := by simpa using q2
      refine .inl (.inl ?_)
      rw [upd_ne net]
      exact upd_same
end
mutual
/-- how many nodes and edges at most -/
def Pat.nb : Pat → Nat
  | .non => 1
  | .emp => 1
  | .one _ => 1
  | .row ps => ps.nb
  | .any ps => 1 + ps.nb1
  | .again p lo hi => lo * p.nb + 2 + (match hi with | none => p.nb + 1 | some h => (h - lo) * (p.nb + 1))
  | .group p => p.nb
def Pats.nb : Pats → Nat
  | .nil => 0
  | .cons p ps => p.nb + ps.nb
def Pats.nb1 : Pats → Nat
  | .nil => 0
  | .cons p ps => p.nb + 1 + ps.nb1
end
theorem Pats.nb_toL : ∀ ps : Pats, ps.nb = (ps.toL.map Pat.nb).sum
  | .nil => rfl
  | .cons p ps => by rw [Pats.nb, Pats.toL, List.map_cons, List.sum_cons, Pats.nb_toL ps]
theorem Pats.nb1_toL : ∀ ps : Pats, ps.nb1 = (ps.toL.map fun p => p.nb + 1).sum
  | .nil => rfl
  | .cons p ps => by rw [Pats.nb1, Pats.toL, List.map_cons, List.sum_cons, Pats.nb1_toL ps]
section
variable {P : Program} {w : World} {K : PySem.W.Frag} {mg : Str → Option Value} {base : Heap}
abbrev s_law_node : Stmt := topS 43
theorem sc_law_node : FnScope ["net"] ["net"] (defScope s_law_node) := ⟨rfl, rfl, rfl, by decide +kernel, rfl, by decide +kernel, by decide +kernel⟩
def sp_law_node (K : PySem.W.Frag) : Sp := fun vs H Q _ => ∃ (a el : Addr) (c : Nat) (E : List Edge), vs = [.ref a] ∧ NetAt K H a el c E ∧ ∀ H', But2 a el H H' → NetAt K H' a el (c + 1) E → Q (nV c) H'
theorem ok_law_node {f : Addr} {fd : FuncData} (F : Fun K "_law_node" "_law_node" s_law_node f fd) (B : Bt mg) : FnOk P w K mg base CX0 1 f fd ["net"] (sp_law_node K) := by
  refine F.ok sc_law_node (fun vs H Q E h => ?_) (fun cdv A outer s0 H vs Q E hr h => ?_)
  · obtain ⟨a, el, c, E, rfl, _⟩ := h
    rfl
  obtain ⟨a, el, c, E, rfl, hN, q⟩ := h
  refine ⟨_, (pss_cons (ps_asg (pe_op op_add (p_ixl K (pv 0) pe_int) pe_int) (pg_sub (pv 0) pe_int set_list)) (pss_one (ps_ret (pe_op op_sub (p_ixl K (pv 0) pe_int) pe_int)))), ?_⟩
  refine ⟨_, rfl, a, _, _, _, rfl, rfl, SqL.of hN.top, at0, _, _, rfl, rfl, ?_⟩
  have ec : V.int (((c : Nat) : Int) + 1) = nV (c + 1) := congrArg V.int (by omega)
  show gSub (tVar 0) (tC (V.int 0)) L2.rSetL (V.int (((c : Nat) : Int) + 1)) _ _ _
  rw [ec]
  refine ⟨_, rfl, a, _, _, _, rfl, rfl, hN.top, rfl, ?_⟩
  have h1 : (upd H a (.lst [nV (c + 1), .ref el])) a = some (.lst [nV (c + 1), .ref el]) := upd_same
  have bt : But2 a el H (upd H a (.lst [nV (c + 1), .ref el])) := fun x o hx1 _ e => by
    rw [upd_ne hx1]
    exact e
  refine ⟨_, rfl, a, _, _, _, rfl, rfl, SqL.of h1, at0, _, _, rfl, rfl, ?_⟩
  have e2 : V.int (((c + 1 : Nat) : Int) - 1) = nV c := congrArg V.int (by omega)
  show Q (V.int (((c + 1 : Nat) : Int) - 1)) _
  rw [e2]
  obtain ⟨es, k1, k2, k3⟩ := hN.ed
  exact q _ bt ⟨h1, hN.ne, es, by rw [upd_ne hN.ne]; exact k1, k2, fun i x ed q1 q2 => bt.tup hN.top k1 (k3 i x ed q1 q2)⟩
end
end Own
namespace Own
open PySem PySem.Spec PyProof.Rows L2
section
variable {P : Program} {w : World} {K : PySem.W.Frag} {mg : Str → Option Value} {base : Heap}
abbrev s_law_wire_again : Stmt := topS 45
theorem sc_law_wire_again : FnScope ["net", "pattern", "begin", "word", "part", "low", "high", "way", "turn", "hub", "late"] ["net", "pattern", "begin"] (defScope s_law_wire_again) := ⟨rfl, rfl, rfl, by decide +kernel, rfl, by decide +kernel, by decide +kernel⟩
def sp_law_wire (K : PySem.W.Frag) (m : Nat) : Sp := fun vs H Q _ => ∃ (a el x : Addr) (c : Nat) (E : List Edge) (p : Pat) (b k : Nat), vs = [.ref a, .ref x, nV b] ∧ NetAt K H a el c E ∧ PatAt K H p x ∧ p.Ok k ∧ k ≤ 3 ∧ p.depth < m ∧ b < c ∧ E.length + p.nb ≤ 100000 ∧
  ∀ (late c' : Nat) (N : List Edge) (H' : Hp), Wired k (L p) p.wt p.nb b c late c' N → But2 a el H H' → NetAt K H' a el c' (E ++ N) → Q (nV late) H'
def sp_law_wire_again (K : PySem.W.Frag) (m : Nat) : Sp := fun vs H Q _ => ∃ (a el x : Addr) (c : Nat) (E : List Edge) (p : Pat) (lo : Nat) (hi : Option Nat) (b k : Nat), vs = [.ref a, .ref x, nV b] ∧ NetAt K H a el c E ∧ PatAt K H (.again p lo hi) x ∧ (Pat.again p lo hi).Ok k ∧ k ≤ 3 ∧ p.depth < m ∧ b < c ∧ E.length + (Pat.again p lo hi).nb ≤ 100000 ∧
  ∀ (late c' : Nat) (N : List Edge) (H' : Hp), Wired k (L (.again p lo hi)) (Pat.again p lo hi).wt (Pat.again p lo hi).nb b c late c' N → But2 a el H H' → NetAt K H' a el c' (E ++ N) → Q (nV late) H'
theorem ok_law_wire_again {f : Addr} {fd : FuncData} {m n : Nat} (F : Fun K "_law_wire_again" "_law_wire_again" s_law_wire_again f fd) (B : Bt mg) (hn : 1 ≤ n) (C_law_node : Got P w K mg base CX0 1 "_law_node" ["net"] (sp_law_node K)) (C_law_wire : Got P w K mg base CX0 n "_law_wire" ["net", "pattern", "begin"] (sp_law_wire K m)) :
    FnOk P w K mg base CX0 (n + 1) f fd ["net", "pattern", "begin"] (sp_law_wire_again K m) := by
  refine F.ok sc_law_wire_again (fun vs H Q E h => ?_) (fun cdv A outer s0 H vs Q E hr h => ?_)
  · obtain ⟨a, el, x, c, E, p, lo, hi, b, k, rfl, _⟩ := h
    rfl
  obtain ⟨a, el, x, c, E, p, lo, hi, b0, k, rfl, hN, pt, ok, hk, dp, hb, hE, q⟩ := h
  have hr1 : Room 1 _ := hr.mono hn
  have two : ∀ n, n ≤ 10 → n ≤ sizeLine := fun n h => Nat.le_of_lt (small1000 (by omega))
  refine ⟨_, (pss_cons (ps_asg (pv 1) (g_tup K 5 (pgs_cons (pg_name (i := 3) sc_law_wire_again.nd rfl (Or.inl rfl)) (pgs_cons (pg_name (i := 4) sc_law_wire_again.nd rfl (Or.inl rfl)) (pgs_cons (pg_name (i := 5) sc_law_wire_again.nd rfl (Or.inl rfl)) (pgs_cons (pg_name (i := 6) sc_law_wire_again.nd rfl (Or.inl rfl)) (pgs_cons (pg_name (i := 7) sc_law_wire_again.nd rfl (Or.inl rfl)) pgs_nil))))))) (pss_cons (ps_for PassesOwn.never rfl (pi_range1 (by rfl) B.range (pa_cons (pv 5) pa_nil)) (pg_name (i := 8) sc_law_wire_again.nd rfl (Or.inl rfl)) (pss_one (ps_set (i := 2) sc_law_wire_again.nd rfl (Or.inl rfl) (C_law_wire.call hr (by rfl) (pa_cons (pv 0) (pa_cons (pv 4) (pa_cons (pv 2) pa_nil))))))) (pss_cons (ps_par (i := 9) (j := 10) rfl sc_law_wire_again.nd rfl rfl (by decide) rfl rfl (pa_cons (C_law_node.call hr1 (by rfl) (pa_cons (pv 0) pa_nil)) (pa_cons (C_law_node.call hr1 (by rfl) (pa_cons (pv 0) pa_nil)) pa_nil)) (by rfl)) (pss_cons (ps_expr (p_app K (p_ixl K (pv 0) pe_int) (pa_cons (pe_tup (pa_cons (pv 2) (pa_cons pe_str (pa_cons (pv 9) pa_nil)))) pa_nil))) (pss_cons (ps_expr (p_app K (p_ixl K (pv 0) pe_int) (pa_cons (pe_tup (pa_cons (pv 9) (pa_cons pe_str (pa_cons (pv 10) pa_nil)))) pa_nil))) (pss_cons (ps_if (pt_cmpR op_isN (pv 6) pe_non (nomark _)) (pss_cons (ps_expr (p_app K (p_ixl K (pv 0) pe_int) (pa_cons (pe_tup (pa_cons (C_law_wire.call hr (by rfl) (pa_cons (pv 0) (pa_cons (pv 4) (pa_cons (pv 9) pa_nil)))) (pa_cons pe_str (pa_cons (pv 9) pa_nil)))) pa_nil))) (pss_one (ps_ret (pv 10)))) pss_nil) (pss_cons (ps_for PassesOwn.never rfl (pi_range1 (by rfl) B.range (pa_cons (pe_op op_sub (pv 6) (pv 5)) pa_nil)) (pg_name (i := 8) sc_law_wire_again.nd rfl (Or.inl rfl)) (pss_cons (ps_set (i := 9) sc_law_wire_again.nd rfl (Or.inl rfl) (C_law_wire.call hr (by rfl) (pa_cons (pv 0) (pa_cons (pv 4) (pa_cons (pv 9) pa_nil))))) (pss_one (ps_expr (p_app K (p_ixl K (pv 0) pe_int) (pa_cons (pe_tup (pa_cons (pv 9) (pa_cons pe_str (pa_cons (pv 10) pa_nil)))) pa_nil)))))) (pss_one (ps_ret (pv 10)))))))))), ?_⟩
  rw [empty_eq]
  unfold PatAt at pt
  obtain ⟨y, way, hsq, pb⟩ := pt
  simp only [Pat.Ok] at ok
  obtain ⟨okp, hlo, hhi⟩ := ok
  refine ⟨_, rfl, x, _, rfl, hsq, rfl, _, _, rfl, _, _, rfl, _, _, rfl, _, _, rfl, _, _, rfl, rfl, ?_⟩
  have hnb : lo * p.nb ≤ (Pat.again p lo hi).nb := by simp only [Pat.nb]; omega
  have pk : ∀ {H1 : Hp}, But2 a el H H1 → PatAt K H1 p y := fun h => pb.mono (hN.tups h)
  refine ⟨_, rfl, _, rfl, by omega, by omega, for_range (lo := 0) (n := ((lo : Nat) : Int).toNat) (fun i σ H1 => ∃ (cur ci : Nat) (N : List Edge) (v8 : Option V), i ≤ lo ∧ σ = [some (.ref a), some (.ref x), some (nV cur), some (.str "again"), some (.ref y), some (nV lo), some (Word.ofHi hi), some (.str way), v8, none, none] ∧
      But2 a el H H1 ∧ NetAt K H1 a el ci (E ++ N) ∧ Wired k (Pow (L p) i) (i * p.wt) (i * p.nb) b0 c cur ci N)
    ⟨b0, c, [], none, Nat.zero_le _, rfl, But2.refl, by rw [List.append_nil]; exact hN, (Wired.refl hb).weak (Nat.zero_le _) (Nat.zero_le _)⟩ ?_ ?_⟩
  · rintro i σ H1 hi' ⟨cur, ci, N, v8, _, rfl, b1, N1, W⟩
    rw [Int.toNat_natCast] at hi'
    have hNl := W.eb
    have hm : (i + 1) * p.nb ≤ lo * p.nb := Nat.mul_le_mul_right _ hi'
    rw [Nat.succ_mul] at hm
    refine ⟨_, rfl, _, rfl, _, rfl, a, el, y, ci, E ++ N, p, cur, k, rfl, N1, pk b1, okp, hk, dp, W.lt, by rw [List.length_append]; omega, fun l c2 N2 H2 W2 b2 N3 => ?_⟩
    rw [List.append_assoc] at N3
    exact ⟨l, c2, N ++ N2, _, hi', rfl, b1.trans b2, N3, (W.seq hb W2).weak (by rw [Nat.succ_mul]; exact Nat.le_refl _) (by rw [Nat.succ_mul]; exact Nat.le_refl _)⟩
  rintro σ H1 ⟨cur, ci, N, v8, _, rfl, b1, N1, W⟩
  rw [Int.toNat_natCast] at W
  have hNl := W.eb
  refine ⟨_, rfl, a, el, ci, _, rfl, N1, fun H2 b2 N2 => ⟨_, rfl, a, el, ci + 1, _, rfl, N2, fun H3 b3 N3 => ⟨_, _, rfl, ?_⟩⟩⟩
  have sz : ∀ {es : List Addr} {M : List Edge}, es.length = M.length → M.length ≤ 300000 → (es.map V.ref).length < sizeLine := fun h1 h2 => by
    rw [List.length_map, h1, sizeLine_eq]
    omega
  obtain ⟨es, he, hel⟩ := N3.len
  refine ⟨_, rfl, a, _, _, _, rfl, rfl, SqL.of N3.top, at1, .inl ⟨rfl, _, SqL.of he⟩, _, rfl, _, rfl, two 3 (by decide), fun tp ntp => ?_⟩
  refine ⟨el, _, _, rfl, rfl, same_new ntp _ _ _ he, sz hel (by rw [List.length_append]; omega), ?_⟩
  obtain ⟨N4, b4⟩ := N3.app he ntp (cur, [], ci)
  generalize upd (upd H3 tp (HO.tup [nV cur, V.str (tx []), nV ci])) el (HO.lst (es.map V.ref ++ [.ref tp])) = H4 at *
  obtain ⟨es4, he4, hel4⟩ := N4.len
  refine ⟨_, rfl, a, _, _, _, rfl, rfl, SqL.of N4.top, at1, .inl ⟨rfl, _, SqL.of he4⟩, _, rfl, _, rfl, two 3 (by decide), fun tp5 ntp5 => ?_⟩
  refine ⟨el, _, _, rfl, rfl, same_new ntp5 _ _ _ he4, sz hel4 (by rw [List.length_append, List.length_append]; show _ + 1 ≤ _; omega), ?_⟩
  obtain ⟨N5, b5⟩ := N4.app he4 ntp5 (ci, [], ci + 1)
  generalize upd (upd H4 tp5 (HO.tup [nV ci, V.str (tx []), nV (ci + 1)])) el (HO.lst (es4.map V.ref ++ [.ref tp5])) = H5 at *
  have bH5 : But2 a el H H5 := (((b1.trans b2).trans b3).trans b4).trans b5
  rw [List.append_assoc, List.append_assoc] at N5
  refine ⟨_, rfl, rfl, _, rfl, ?_⟩
  cases hi with
  | none =>
    have hnbE : (Pat.again p lo none).nb = lo * p.nb + 2 + (p.nb + 1) := by simp only [Pat.nb]
    rw [hnbE] at hE
    obtain ⟨es5, he5, hel5⟩ := N5.len
    refine iteT ⟨_, rfl, a, _, _, _, rfl, rfl, SqL.of N5.top, at1, .inl ⟨rfl, _, SqL.of he5⟩, _, rfl, _, rfl, _, rfl, a, el, y, ci + 2, _, p, ci, k, rfl, N5, pk bH5, okp, hk, dp, by omega, ?_, fun l c2 N2 H6 W2 b6 N6 => ?_⟩
    · simp only [List.length_append, List.length_cons, List.length_nil]
      omega
    refine ⟨_, rfl, two 3 (by decide), fun tp7 ntp7 => ?_⟩
    obtain ⟨es6, he6, hel6⟩ := N6.len
    have hN2l := W2.eb
    refine ⟨el, _, _, rfl, rfl, same_new ntp7 _ _ _ he6, sz hel6 (by simp only [List.length_append, List.length_cons, List.length_nil]; omega), ?_⟩
    obtain ⟨N7, b7⟩ := N6.app he6 ntp7 (l, [], ci)
    refine ⟨_, rfl, q (ci + 1) c2 ((N ++ ([(cur, [], ci)] ++ [(ci, [], ci + 1)])) ++ (N2 ++ [(l, [], ci)])) _ ?_ ((bH5.trans b6).trans b7) ?_⟩
    · have W := W.star hb W2
      refine (W.congr fun w => ?_).weak ?_ ?_
      · rw [L]
        constructor
        · rintro ⟨u, v, rfl, h1, n, h2⟩
          exact ⟨lo + n, ⟨by omega, fun h e => nomatch e⟩, pow_split.mpr ⟨u, v, rfl, h1, h2⟩⟩
        · rintro ⟨n, ⟨h1, _⟩, h2⟩
          obtain ⟨u, v, rfl, h3, h4⟩ := pow_split.mp (show Pow (L p) (lo + (n - lo)) w by rw [show lo + (n - lo) = n by omega]; exact h2)
          exact ⟨u, v, rfl, h3, n - lo, h4⟩
      · simp only [Pat.wt]
        rw [Nat.mul_add, Nat.mul_comm p.wt lo]
        omega
      · rw [hnbE]
        exact Nat.le_refl _
    · have e : E ++ ((N ++ ([(cur, [], ci)] ++ [(ci, [], ci + 1)])) ++ (N2 ++ [(l, [], ci)])) = E ++ (N ++ ([(cur, [], ci)] ++ [(ci, [], ci + 1)])) ++ N2 ++ [(l, [], ci)] := by simp only [List.append_assoc]
      rw [e]
      exact N7
  | some h =>
    obtain ⟨hh1, hh2, hh3⟩ := hhi h rfl
    have hnbE : (Pat.again p lo (some h)).nb = lo * p.nb + 2 + (h - lo) * (p.nb + 1) := by simp only [Pat.nb]
    rw [hnbE] at hE
    have T0 := Turns.start hb W
    refine iteF ?_
    have ed : V.int (((h : Nat) : Int) - ((lo : Nat) : Int)) = V.int ((h - lo : Nat) : Int) := congrArg V.int (by omega)
    refine ⟨_, rfl, _, rfl, _, _, rfl, rfl, ((h - lo : Nat) : Int), congrArg (fun z => [z]) ed, by omega, by omega, for_range (lo := 0) (n := ((h - lo : Nat) : Int).toNat) (fun i σ H6 => ∃ (cu c6 : Nat) (N6 : List Edge) (v8 : Option V), i ≤ h - lo ∧ σ = [some (.ref a), some (.ref x), some (nV cur), some (.str "again"), some (.ref y), some (nV lo), some (nV h), some (.str way), v8, some (nV cu), some (nV (ci + 1))] ∧
        But2 a el H H6 ∧ NetAt K H6 a el c6 (E ++ N6) ∧ Turns k (Pow (L p) (lo + i)) (fun w => ∃ n, lo ≤ n ∧ n ≤ lo + i ∧ Pow (L p) n w) ((lo + i) * p.wt) (lo * p.nb + 2 + i * (p.nb + 1)) b0 c cu (ci + 1) c6 N6)
      ⟨ci, ci + 2, _, v8, Nat.zero_le _, rfl, bH5, N5, ?_⟩ ?_ ?_⟩
    · have T1 := T0.congr (G1 := Pow (L p) (lo + 0)) (G2 := fun w => ∃ n, lo ≤ n ∧ n ≤ lo + 0 ∧ Pow (L p) n w) (fun w => Iff.rfl) fun w => ⟨fun z => ⟨lo, Nat.le_refl _, Nat.le_refl _, z⟩, fun ⟨n, h1, h2, h3⟩ => by
        have : n = lo := by omega
        rw [← this]
        exact h3⟩
      rw [Nat.zero_mul]
      exact T1
    · rintro i σ H6 hi' ⟨cu, c6, N6, v8, _, rfl, b6, N6', T⟩
      rw [Int.toNat_natCast] at hi'
      have hTl := T.eb
      have hm : (i + 1) * (p.nb + 1) ≤ (h - lo) * (p.nb + 1) := Nat.mul_le_mul_right _ hi'
      rw [Nat.succ_mul] at hm
      refine ⟨_, rfl, _, rfl, _, rfl, a, el, y, c6, E ++ N6, p, cu, k, rfl, N6', pk b6, okp, hk, dp, T.ltc, by rw [List.length_append]; omega, fun l c2 N2 H7 W2 b7 N7 => ?_⟩
      obtain ⟨es7, he7, hel7⟩ := N7.len
      have hN2l := W2.eb
      refine ⟨_, rfl, a, _, _, _, rfl, rfl, SqL.of N7.top, at1, .inl ⟨rfl, _, SqL.of he7⟩, _, rfl, _, rfl, two 3 (by decide), fun tp8 ntp8 => ?_⟩
      refine ⟨el, _, _, rfl, rfl, same_new ntp8 _ _ _ he7, sz hel7 (by simp only [List.length_append]; omega), ?_⟩
      obtain ⟨N8, b8⟩ := N7.app he7 ntp8 (l, [], ci + 1)
      rw [List.append_assoc, List.append_assoc] at N8
      refine ⟨l, c2, N6 ++ (N2 ++ [(l, [], ci + 1)]), _, hi', rfl, (b6.trans b7).trans b8, N8, ?_⟩
      have T2 := (T.more hb W2).congr (G1 := Pow (L p) (lo + (i + 1))) (G2 := fun w => ∃ n, lo ≤ n ∧ n ≤ lo + (i + 1) ∧ Pow (L p) n w) (fun w => Iff.rfl) fun w => by
        constructor
        · rintro (⟨n, h1, h2, h3⟩ | h3)
          · exact ⟨n, h1, by omega, h3⟩
          · exact ⟨lo + i + 1, by omega, by omega, h3⟩
        · rintro ⟨n, h1, h2, h3⟩
          by_cases z : n ≤ lo + i
          · exact .inl ⟨n, h1, z, h3⟩
          · have e : n = (lo + i) + 1 := by omega
            rw [e] at h3
            exact .inr h3
      have e1 : (lo + i) * p.wt + p.wt = (lo + (i + 1)) * p.wt := by
        rw [← Nat.succ_mul]
        rfl
      have e2 : lo * p.nb + 2 + i * (p.nb + 1) + (p.nb + 1) = lo * p.nb + 2 + (i + 1) * (p.nb + 1) := by
        rw [Nat.succ_mul i]
        omega
      rw [e1, e2] at T2
      exact T2
    · rintro σ H6 ⟨cu, c6, N6, v8, _, rfl, b6, N6', T⟩
      rw [Int.toNat_natCast] at T
      refine ⟨_, rfl, q (ci + 1) c6 N6 H6 ?_ b6 N6'⟩
      refine (T.wired.congr fun w => ?_).weak ?_ ?_
      · rw [L]
        constructor
        · rintro ⟨n, h1, h2, h3⟩
          exact ⟨n, ⟨h1, fun h' e => by obtain rfl := Option.some.inj e; omega⟩, h3⟩
        · rintro ⟨n, ⟨h1, h2⟩, h3⟩
          have := h2 h rfl
          exact ⟨n, h1, by omega, h3⟩
      · simp only [Pat.wt]
        rw [show lo + (h - lo) = h by omega, Nat.mul_comm]
        exact Nat.le_refl _
      · rw [hnbE]
        exact Nat.le_refl _
end
end Own
namespace Own
open PySem PySem.Spec PyProof.Rows L2
theorem LRow_nil {w : Word} : LRow .nil w ↔ w = [] := by
  unfold LRow
  exact Iff.rfl
theorem LRow_cons {p : Pat} {ps : Pats} {w : Word} : LRow (.cons p ps) w ↔ ∃ u v, w = u ++ v ∧ L p u ∧ LRow ps v := by
  rw [LRow]
theorem row_snoc {p : Pat} : ∀ (l : List Pat) (w : Word), Cat (LRow (Pats.ofL l)) (L p) w ↔ LRow (Pats.ofL (l ++ [p])) w
  | [], w => by
    show Cat (LRow .nil) (L p) w ↔ LRow (.cons p .nil) w
    rw [LRow_cons]
    constructor
    · rintro ⟨u, v, rfl, h1, h2⟩
      rw [LRow_nil] at h1
      subst h1
      exact ⟨v, [], by simp, h2, LRow_nil.mpr rfl⟩
    · rintro ⟨u, v, rfl, h1, h2⟩
      rw [LRow_nil] at h2
      subst h2
      exact ⟨[], u, by simp, LRow_nil.mpr rfl, h1⟩
  | q :: l, w => by
    show Cat (LRow (.cons q (Pats.ofL l))) (L p) w ↔ LRow (.cons q (Pats.ofL (l ++ [p]))) w
    rw [LRow_cons]
    constructor
    · rintro ⟨u, v, rfl, h1, h2⟩
      obtain ⟨u1, u2, rfl, h3, h4⟩ := LRow_cons.mp h1
      exact ⟨u1, u2 ++ v, by rw [List.append_assoc], h3, (row_snoc l _).mp ⟨u2, v, rfl, h4, h2⟩⟩
    · rintro ⟨u, v, rfl, h1, h2⟩
      obtain ⟨v1, v2, rfl, h3, h4⟩ := (row_snoc l _).mpr h2
      exact ⟨u ++ v1, v2, by rw [List.append_assoc], LRow_cons.mpr ⟨u, v1, rfl, h1, h3⟩, h4⟩
theorem any_snoc {p : Pat} : ∀ (l : List Pat) (w : Word), (LAny (Pats.ofL l) w ∨ L p w) ↔ LAny (Pats.ofL (l ++ [p])) w
  | [], w => by
    simp only [List.nil_append, Pats.ofL, LAny]
    constructor
    · rintro (h | h)
      · exact h.elim
      · exact .inl h
    · rintro (h | h)
      · exact .inr h
      · exact h.elim
  | q :: l, w => by
    simp only [List.cons_append, Pats.ofL, LAny]
    rw [← any_snoc l w]
    constructor
    · rintro ((h | h) | h)
      · exact .inl h
      · exact .inr (.inl h)
      · exact .inr (.inr h)
    · rintro (h | h | h)
      · exact .inl (.inl h)
      · exact .inl (.inr h)
      · exact .inr h
theorem sum_take_succ {α : Type} {l : List α} {f : α → Nat} {i : Nat} {x : α} (e : l[i]? = some x) : ((l.take (i + 1)).map f).sum = ((l.take i).map f).sum + f x := by
  rw [List.take_add_one, e, List.map_append, List.sum_append]
  simp
theorem sum_take_le {α : Type} (l : List α) (f : α → Nat) (i : Nat) : ((l.take i).map f).sum ≤ (l.map f).sum := by
  conv => rhs; rw [← List.take_append_drop i l, List.map_append, List.sum_append]
  omega
section
variable {P : Program} {w : World} {K : PySem.W.Frag} {mg : Str → Option Value} {base : Heap}
abbrev s_law_wire : Stmt := topS 44
theorem sc_law_wire : FnScope ["net", "pattern", "begin", "word", "part", "late"] ["net", "pattern", "begin"] (defScope s_law_wire) := ⟨rfl, rfl, rfl, by decide +kernel, rfl, by decide +kernel, by decide +kernel⟩
theorem ok_law_wire1 {f : Addr} {fd : FuncData} {m n : Nat} (F : Fun K "_law_wire" "_law_wire" s_law_wire f fd) (B : Bt mg) (hn : 1 ≤ n) (C_law_node : Got P w K mg base CX0 1 "_law_node" ["net"] (sp_law_node K)) (C_law_wire : Got P w K mg base CX0 n "_law_wire" ["net", "pattern", "begin"] (sp_law_wire K m))
    (C_law_wire_again : Got P w K mg base CX0 (n + 1) "_law_wire_again" ["net", "pattern", "begin"] (sp_law_wire_again K m)) :
    FnOk P w K mg base CX0 (n + 1 + 1) f fd ["net", "pattern", "begin"] (sp_law_wire K (m + 1)) := by
  refine F.ok sc_law_wire (fun vs H Q E h => ?_) (fun cdv A outer s0 H vs Q E hr h => ?_)
  · obtain ⟨a, el, x, c, E, p, b, k, rfl, _⟩ := h
    rfl
  obtain ⟨a, el, x, c, E, p, b, k, rfl, hN, pt, ok, hk, dp, hb, hE, q⟩ := h
  have hr1 : Room 1 _ := hr.mono (by omega)
  have hr0 : Room n _ := hr.mono (by omega)
  have two : ∀ n, n ≤ 10 → n ≤ sizeLine := fun n h => Nat.le_of_lt (small1000 (by omega))
  have sz : ∀ {es : List Addr} {M : List Edge}, es.length = M.length → M.length ≤ 300000 → (es.map V.ref).length < sizeLine := fun h1 h2 => by
    rw [List.length_map, h1, sizeLine_eq]
    omega
  refine ⟨_, (pss_cons (ps_set (i := 3) sc_law_wire.nd rfl (Or.inl rfl) (p_ixt K (pv 1) pe_int)) (pss_cons (ps_if (pt_cmpR op_eq (pv 3) pe_str (nomark _)) (pss_cons (ps_for PassesOwn.never rfl (p_tup K (pe_slice sl_tup (pv 1) (po_some pe_int) po_none)) (pg_name (i := 4) sc_law_wire.nd rfl (Or.inl rfl)) (pss_one (ps_set (i := 2) sc_law_wire.nd rfl (Or.inl rfl) (C_law_wire.call hr0 (by rfl) (pa_cons (pv 0) (pa_cons (pv 4) (pa_cons (pv 2) pa_nil))))))) (pss_one (ps_ret (pv 2)))) pss_nil) (pss_cons (ps_if (pt_cmpR op_eq (pv 3) pe_str (nomark _)) (pss_one (ps_ret (C_law_wire.call hr0 (by rfl) (pa_cons (pv 0) (pa_cons (p_ixt K (pv 1) pe_int) (pa_cons (pv 2) pa_nil)))))) pss_nil) (pss_cons (ps_if (pt_cmpR op_eq (pv 3) pe_str (nomark _)) (pss_one (ps_ret (C_law_wire_again.call hr (by rfl) (pa_cons (pv 0) (pa_cons (pv 1) (pa_cons (pv 2) pa_nil)))))) pss_nil) (pss_cons (ps_set (i := 5) sc_law_wire.nd rfl (Or.inl rfl) (C_law_node.call hr1 (by rfl) (pa_cons (pv 0) pa_nil))) (pss_cons (ps_if (t_in K (pv 3) (pe_tup (pa_cons pe_str (pa_cons pe_str pa_nil)))) (pss_one (ps_expr (p_app K (p_ixl K (pv 0) pe_int) (pa_cons (pe_tup (pa_cons (pv 2) (pa_cons (pe_ifExp (pt_cmpR op_eq (pv 3) pe_str (nomark _)) pe_str (p_ixt K (pv 1) pe_int)) (pa_cons (pv 5) pa_nil)))) pa_nil)))) pss_nil) (pss_cons (ps_if (pt_cmpR op_eq (pv 3) pe_str (nomark _)) (pss_one (ps_for PassesOwn.never rfl (p_tup K (pe_slice sl_tup (pv 1) (po_some pe_int) po_none)) (pg_name (i := 4) sc_law_wire.nd rfl (Or.inl rfl)) (pss_one (ps_expr (p_app K (p_ixl K (pv 0) pe_int) (pa_cons (pe_tup (pa_cons (C_law_wire.call hr0 (by rfl) (pa_cons (pv 0) (pa_cons (pv 4) (pa_cons (pv 2) pa_nil)))) (pa_cons pe_str (pa_cons (pv 5) pa_nil)))) pa_nil)))))) pss_nil) (pss_one (ps_ret (pv 5)))))))))), ?_⟩
  rw [empty_eq]
  obtain ⟨tl, hsq⟩ := pt.head
  refine ⟨_, rfl, x, _, _, _, rfl, rfl, hsq, at0, ?_⟩
  obtain ⟨hk4, hko⟩ := Pat.ok_kids ok
  refine ⟨_, rfl, rfl, _, rfl, ?_⟩
  generalize hnm : p.nm = nm
  rw [hnm] at hsq
  cases p with
  | row ps =>
    obtain rfl : ("row" : Str) = nm := hnm
    unfold PatAt at pt
    obtain ⟨bs, hsq2, pbs⟩ := pt
    obtain ⟨hbl, hpt⟩ := (patsAt_iff _ _).mp pbs
    simp only [Pat.depth] at dp
    simp only [Pat.nb] at hE
    rw [Pats.nb_toL] at hE
    refine yes_str ?_
    refine ⟨_, rfl, 1, rfl, x, _, rfl, hsq2, cut_ne _ _, fun p1 np1 => ?_⟩
    rw [cut_tail]
    have s1 := same_new np1 (.tup (bs.map V.ref))
    have N1 := hN.same s1
    refine ⟨p1, rfl, ⟨_, SqT.new⟩, for_tup (K := K) (a := p1) (xs := bs.map V.ref) (fun i σ H2 => ∃ (cur ci : Nat) (N : List Edge) (v4 : Option V), σ = [some (.ref a), some (.ref x), some (nV cur), some (.str "row"), v4, none] ∧ But2 a el (upd H p1 (.tup (bs.map V.ref))) H2 ∧ NetAt K H2 a el ci (E ++ N) ∧
        Wired k (LRow (Pats.ofL (ps.toL.take i))) (((ps.toL.take i).map Pat.wt).sum) (((ps.toL.take i).map Pat.nb).sum) b c cur ci N)
      ⟨b, c, [], none, rfl, But2.refl, by rw [List.append_nil]; exact N1, (Wired.refl hb).congr fun w => by show w = [] ↔ LRow .nil w; unfold LRow; exact Iff.rfl⟩ (fun i σ H2 _ h => ?_) ?_ ?_⟩
    · obtain ⟨_, _, _, _, _, b2, _⟩ := h
      exact N1.tups b2 _ _ SqT.new
    · rintro i v σ H2 hx ⟨cur, ci, N, v4, rfl, b2, N2, W⟩
      rw [List.getElem?_map] at hx
      cases e : bs[i]? with
      | none =>
        rw [e] at hx
        cases hx
      | some y =>
      rw [e] at hx
      obtain rfl : V.ref y = v := Option.some.inj hx
      have hxl : i < ps.toL.length := by
        have := (List.getElem?_eq_some_iff.mp e).1
        omega
      have ek : ps.toL[i]? = some ps.toL[i] := List.getElem?_eq_getElem hxl
      have hmem := List.getElem_mem hxl
      have hdep := (Pats.depth_toL (m := ps.depth) ps).mp (Nat.le_refl _) _ hmem
      have hNl := W.eb
      have hs := sum_take_le ps.toL Pat.nb (i + 1)
      rw [sum_take_succ ek] at hs
      refine ⟨_, rfl, _, rfl, _, rfl, a, el, y, ci, E ++ N, ps.toL[i], cur, k, rfl, N2, ((hpt i _ _ ek e).same s1).mono (N1.tups b2), hko _ hmem, hk, by omega, W.lt, by rw [List.length_append]; omega, fun l c2 M H3 W2 b3 N3 => ?_⟩
      rw [List.append_assoc] at N3
      refine ⟨l, c2, N ++ M, _, rfl, b2.trans b3, N3, ?_⟩
      rw [sum_take_succ ek, sum_take_succ ek, List.take_add_one, ek]
      exact (W.seq hb W2).congr fun w => row_snoc _ w
    · rintro σ H2 ⟨cur, ci, N, v4, rfl, b2, N2, W⟩
      rw [List.length_map, hbl, List.take_length, Pats.ofL_toL] at W
      refine ⟨_, rfl, q cur ci N H2 ?_ ((But2.of s1).trans b2) N2⟩
      rw [L_row]
      simp only [Pat.wt, Pat.nb]
      rw [Pats.wt_toL, Pats.nb_toL]
      exact W
  | group p =>
    obtain rfl : ("group" : Str) = nm := hnm
    unfold PatAt at pt
    obtain ⟨y, hsq2, pb⟩ := pt
    simp only [Pat.Ok] at ok
    simp only [Pat.depth] at dp
    simp only [Pat.nb] at hE
    refine no_str ⟨_, rfl, rfl, _, rfl, yes_str ⟨_, rfl, _, rfl, x, _, _, _, rfl, rfl, hsq2, at1, _, rfl, a, el, y, c, E, p, b, k, rfl, hN, pb, ok, hk, by omega, hb, hE, fun l c' N H' W b1 N1 => q l c' N H' ?_ b1 N1⟩⟩
    rw [L_group]
    exact W
  | again p lo hi =>
    obtain rfl : ("again" : Str) = nm := hnm
    simp only [Pat.depth] at dp
    exact no_str ⟨_, rfl, rfl, _, rfl, no_str ⟨_, rfl, rfl, _, rfl, yes_str ⟨_, rfl, _, rfl, _, rfl, a, el, x, c, E, p, lo, hi, b, k, rfl, hN, pt, ok, hk, by omega, hb, hE, q⟩⟩⟩
  | non =>
    obtain rfl : ("none" : Str) = nm := hnm
    refine no_str ⟨_, rfl, rfl, _, rfl, no_str ⟨_, rfl, rfl, _, rfl, no_str ⟨_, rfl, a, el, c, E, rfl, hN, fun H1 b1 N1 => ?_⟩⟩⟩
    refine ⟨_, rfl, two 2 (by decide), fun p1 np1 => ⟨p1, _, rfl, .inr SqT.new, rfl, rfl, false, congrArg V.bl (show inV (.str "none") [.str "empty", .str "one"] = false by decide +kernel), iteF ?_⟩⟩
    have s2 := same_new np1 (.tup [V.str "empty", V.str "one"])
    refine ⟨_, rfl, rfl, _, rfl, no_str ⟨_, rfl, q c (c + 1) [] _ Wired.non (b1.trans (But2.of s2)) ?_⟩⟩
    rw [List.append_nil]
    exact N1.same s2
  | emp =>
    obtain rfl : ("empty" : Str) = nm := hnm
    simp only [Pat.nb] at hE
    refine no_str ⟨_, rfl, rfl, _, rfl, no_str ⟨_, rfl, rfl, _, rfl, no_str ⟨_, rfl, a, el, c, E, rfl, hN, fun H1 b1 N1 => ?_⟩⟩⟩
    refine ⟨_, rfl, two 2 (by decide), fun p1 np1 => ⟨p1, _, rfl, .inr SqT.new, rfl, rfl, true, congrArg V.bl (show inV (.str "empty") [.str "empty", .str "one"] = true by decide +kernel), iteT ?_⟩⟩
    have s2 := same_new np1 (.tup [V.str "empty", V.str "one"])
    have N2 := N1.same s2
    obtain ⟨es, he, hel⟩ := N2.len
    refine ⟨_, rfl, a, _, _, _, rfl, rfl, SqL.of N2.top, at1, .inl ⟨rfl, _, SqL.of he⟩, _, rfl, _, rfl, rfl, _, rfl, yes_str ⟨_, rfl, two 3 (by decide), fun tp ntp => ?_⟩⟩
    refine ⟨el, _, _, rfl, rfl, same_new ntp _ _ _ he, sz hel (by omega), ?_⟩
    obtain ⟨N3, b3⟩ := N2.app he ntp (b, [], c)
    exact ⟨_, rfl, rfl, _, rfl, no_str ⟨_, rfl, q c (c + 1) _ _ (Wired.emp hb) ((b1.trans (But2.of s2)).trans b3) N3⟩⟩
  | one u =>
    obtain rfl : ("one" : Str) = nm := hnm
    simp only [Pat.nb] at hE
    unfold PatAt at pt
    simp only [Pat.Ok] at ok
    obtain ⟨o1, o2, o3⟩ := ok
    refine no_str ⟨_, rfl, rfl, _, rfl, no_str ⟨_, rfl, rfl, _, rfl, no_str ⟨_, rfl, a, el, c, E, rfl, hN, fun H1 b1 N1 => ?_⟩⟩⟩
    refine ⟨_, rfl, two 2 (by decide), fun p1 np1 => ⟨p1, _, rfl, .inr SqT.new, rfl, rfl, true, congrArg V.bl (show inV (.str "one") [.str "empty", .str "one"] = true by decide +kernel), iteT ?_⟩⟩
    have s2 := same_new np1 (.tup [V.str "empty", V.str "one"])
    have N2 := N1.same s2
    have pt2 := Same.tup s2 (hN.tups b1 _ _ pt)
    obtain ⟨es, he, hel⟩ := N2.len
    refine ⟨_, rfl, a, _, _, _, rfl, rfl, SqL.of N2.top, at1, .inl ⟨rfl, _, SqL.of he⟩, _, rfl, _, rfl, rfl, _, rfl, no_str ⟨_, rfl, x, _, _, _, rfl, rfl, pt2, at1, _, rfl, two 3 (by decide), fun tp ntp => ?_⟩⟩
    refine ⟨el, _, _, rfl, rfl, same_new ntp _ _ _ he, sz hel (by omega), ?_⟩
    obtain ⟨N3, b3⟩ := N2.app he ntp (b, u, c)
    exact ⟨_, rfl, rfl, _, rfl, no_str ⟨_, rfl, q c (c + 1) _ _ (Wired.oneL hb o3 o2 o1) ((b1.trans (But2.of s2)).trans b3) N3⟩⟩
  | any ps =>
    obtain rfl : ("any" : Str) = nm := hnm
    unfold PatAt at pt
    obtain ⟨bs, hsq2, pbs⟩ := pt
    obtain ⟨hbl, hpt⟩ := (patsAt_iff _ _).mp pbs
    simp only [Pat.depth] at dp
    simp only [Pat.nb] at hE
    rw [Pats.nb1_toL] at hE
    refine no_str ⟨_, rfl, rfl, _, rfl, no_str ⟨_, rfl, rfl, _, rfl, no_str ⟨_, rfl, a, el, c, E, rfl, hN, fun H1 b1 N1 => ?_⟩⟩⟩
    refine ⟨_, rfl, two 2 (by decide), fun p1 np1 => ⟨p1, _, rfl, .inr SqT.new, rfl, rfl, false, congrArg V.bl (show inV (.str "any") [.str "empty", .str "one"] = false by decide +kernel), iteF ?_⟩⟩
    have s2 := same_new np1 (.tup [V.str "empty", V.str "one"])
    refine ⟨_, rfl, rfl, _, rfl, yes_str ?_⟩
    refine ⟨_, rfl, 1, rfl, x, _, rfl, Same.tup s2 (hN.tups b1 _ _ hsq2), cut_ne _ _, fun p2 np2 => ?_⟩
    rw [cut_tail]
    have s3 := s2.trans (same_new np2 (.tup (bs.map V.ref)))
    have N2 := N1.same s3
    have b2 : But2 a el H _ := b1.trans (But2.of s3)
    refine ⟨p2, rfl, ⟨_, SqT.new⟩, for_tup (K := K) (a := p2) (xs := bs.map V.ref) (fun i σ H3 => ∃ (ci : Nat) (N : List Edge) (v4 : Option V), σ = [some (.ref a), some (.ref x), some (nV b), some (.str "any"), v4, some (nV c)] ∧ But2 a el H H3 ∧ SqT K H3 p2 (bs.map V.ref) ∧ NetAt K H3 a el ci (E ++ N) ∧
        Wired k (LAny (Pats.ofL (ps.toL.take i))) (((ps.toL.take i).map Pat.wt).sum) (1 + ((ps.toL.take i).map fun p => p.nb + 1).sum) b c c ci N ∧ ∀ e, e ∈ N → e.1 ≠ c)
      ⟨c + 1, [], none, rfl, b2, SqT.new, by rw [List.append_nil]; exact N2, Wired.non.congr fun w => by show L .non w ↔ LAny .nil w; unfold L LAny; exact Iff.rfl, fun e h => by simp at h⟩ (fun i σ H2 _ h => ?_) ?_ ?_⟩
    · obtain ⟨_, _, _, _, _, h, _⟩ := h
      exact h
    · rintro i v σ H3 hx ⟨ci, N, v4, rfl, b3, hp2, N3, W, hno⟩
      rw [List.getElem?_map] at hx
      cases e : bs[i]? with
      | none =>
        rw [e] at hx
        cases hx
      | some y =>
      rw [e] at hx
      obtain rfl : V.ref y = v := Option.some.inj hx
      have hxl : i < ps.toL.length := by
        have := (List.getElem?_eq_some_iff.mp e).1
        omega
      have ek : ps.toL[i]? = some ps.toL[i] := List.getElem?_eq_getElem hxl
      have hmem := List.getElem_mem hxl
      have hdep := (Pats.depth_toL (m := ps.depth) ps).mp (Nat.le_refl _) _ hmem
      have hNl := W.eb
      have hle := W.le
      have hlt := W.lt
      have hs := sum_take_le ps.toL (fun p => p.nb + 1) (i + 1)
      rw [sum_take_succ ek] at hs
      obtain ⟨es, he, hel⟩ := N3.len
      refine ⟨_, rfl, a, _, _, _, rfl, rfl, SqL.of N3.top, at1, .inl ⟨rfl, _, SqL.of he⟩, _, rfl, _, rfl, _, rfl, a, el, y, ci, E ++ N, ps.toL[i], b, k, rfl, N3, (hpt i _ _ ek e).mono (hN.tups b3), hko _ hmem, hk, by omega, by omega, by rw [List.length_append]; omega, fun l c2 M H4 W2 b4 N4 => ?_⟩
      refine ⟨_, rfl, two 3 (by decide), fun tp ntp => ?_⟩
      obtain ⟨es4, he4, hel4⟩ := N4.len
      have hMl := W2.eb
      refine ⟨el, _, _, rfl, rfl, same_new ntp _ _ _ he4, sz hel4 (by simp only [List.length_append]; omega), ?_⟩
      obtain ⟨N5, b5⟩ := N4.app he4 ntp (l, [], c)
      rw [List.append_assoc, List.append_assoc] at N5
      obtain ⟨W3, hno3⟩ := Wired.more hb W hno W2
      refine ⟨c2, N ++ (M ++ [(l, [], c)]), _, rfl, (b3.trans b4).trans b5, N3.tups (b4.trans b5) _ _ hp2, N5, ?_, hno3⟩
      rw [sum_take_succ ek, sum_take_succ ek, List.take_add_one, ek]
      refine (W3.congr fun w => any_snoc _ w).weak (Nat.le_refl _) ?_
      omega
    · rintro σ H3 ⟨ci, N, v4, rfl, b3, hp2, N3, W, hno⟩
      rw [List.length_map, hbl, List.take_length, Pats.ofL_toL] at W
      refine ⟨_, rfl, q c ci N H3 ?_ b3 N3⟩
      rw [L_any]
      simp only [Pat.wt, Pat.nb]
      rw [Pats.wt_toL, Pats.nb1_toL]
      exact W
theorem ok_law_wire0 {f : Addr} {fd : FuncData} (F : Fun K "_law_wire" "_law_wire" s_law_wire f fd) : FnOk P w K mg base CX0 1 f fd ["net", "pattern", "begin"] (sp_law_wire K 0) := by
  refine F.ok (k := 0) sc_law_wire (fun vs H Q E h => ?_) (fun cdv A outer s0 H vs Q E hr h => ?_)
  · obtain ⟨a, el, x, c, E, p, b, k, rfl, _, _, _, _, h, _⟩ := h
    omega
  · obtain ⟨a, el, x, c, E, p, b, k, rfl, _, _, _, _, h, _⟩ := h
    omega
theorem ok_law_wire {f f2 : Addr} {fd fd2 : FuncData} (F : Fun K "_law_wire" "_law_wire" s_law_wire f fd) (F2 : Fun K "_law_wire_again" "_law_wire_again" s_law_wire_again f2 fd2) (B : Bt mg) (C_law_node : Got P w K mg base CX0 1 "_law_node" ["net"] (sp_law_node K))
    (got : ∀ k sp, FnOk P w K mg base CX0 k f fd ["net", "pattern", "begin"] sp → Got P w K mg base CX0 k "_law_wire" ["net", "pattern", "begin"] sp)
    (got2 : ∀ k sp, FnOk P w K mg base CX0 k f2 fd2 ["net", "pattern", "begin"] sp → Got P w K mg base CX0 k "_law_wire_again" ["net", "pattern", "begin"] sp) :
    ∀ m, FnOk P w K mg base CX0 (1 + 2 * m) f fd ["net", "pattern", "begin"] (sp_law_wire K m)
  | 0 => ok_law_wire0 F
  | m + 1 => by
    have g1 := got _ _ (ok_law_wire F F2 B C_law_node got got2 m)
    have g2 := got2 _ _ (ok_law_wire_again F2 B (by omega) C_law_node g1)
    have g3 := ok_law_wire1 F B (by omega) C_law_node g1 g2
    have e : 1 + 2 * m + 1 + 1 = 1 + 2 * (m + 1) := by omega
    rw [e] at g3
    exact g3
end
end Own
namespace Own
open PySem PySem.Spec PyProof.Rows L2
/-- what is come to by nothing -/
inductive Cl (E : List Edge) (A : Nat → Prop) : Nat → Prop
  | base {j : Nat} : A j → Cl E A j
  | eps {b l : Nat} : (b, [], l) ∈ E → Cl E A b → Cl E A l
theorem filt_gen {α : Type} (d : α) (g : α → V) : ∀ (S : List α) (P : α → Bool), ((List.range S.length).filter fun i => P (S.getD i d)).map (fun i => g (S.getD i d)) = (S.filter P).map g
  | [], P => rfl
  | a :: r, P => by
    have ih := filt_gen d g r P
    rw [List.length_cons, List.range_succ_eq_map, List.filter_cons, List.filter_map, List.filter_cons]
    have e0 : ∀ i, (a :: r).getD (i + 1) d = r.getD i d := fun i => by simp [List.getD_eq_getElem?_getD]
    have e1 : (a :: r).getD 0 d = a := rfl
    have e2 : ((fun i => P ((a :: r).getD i d)) ∘ Nat.succ) = fun i => P (r.getD i d) := by
      funext i
      show P ((a :: r).getD (i + 1) d) = _
      rw [e0]
    have e3 : ((fun i => g ((a :: r).getD i d)) ∘ Nat.succ) = fun i => g (r.getD i d) := by
      funext i
      show g ((a :: r).getD (i + 1) d) = _
      rw [e0]
    rw [e1, e2]
    by_cases h : P a = true
    · rw [if_pos h, if_pos h, List.map_cons, List.map_cons, List.map_map, e3, ih, e1]
    · rw [if_neg h, if_neg h, List.map_map, e3, ih]
section
variable {P : Program} {w : World} {K : PySem.W.Frag} {mg : Str → Option Value} {base : Heap}
theorem srt_raw {H : Hp} {Q : VK} {a : Addr} {F : List Nat} (ha : SqL K H a (F.map nV)) (hl : F.length ≤ 4000)
    (q : ∀ (S : List Nat) (l : Addr) (H' : Hp), Srt S (· ∈ F) → Same H H' → H l = none → H' l = some (.lst (S.map nV)) → Q (.ref l) H') :
    rSet1 w K [.ref a] H fun v H1 => rSorted1 w [v] H1 Q := by
  refine ⟨a, F.map fun i => ((i : Nat) : Int), rfl, by rw [List.map_map]; exact ha, by rw [List.length_map]; omega, fun p c np => ?_⟩
  have s1 := same_new np (SetO w p (fun j => decide (j ∈ F.map fun i => ((i : Nat) : Int))) c)
  refine ⟨p, _, c, rfl, upd_same, fun ns l h1 h2 nl => ?_⟩
  obtain ⟨S, e, hS⟩ := ints_nat h1 fun k => (h2 k).trans (by rw [decide_eq_true_iff])
  refine q S l _ hS (s1.trans (same_new nl _)) (s1.free nl) ?_
  rw [upd_same, e]
abbrev s_law_still : Stmt := topS 46
theorem sc_law_still : FnScope ["net", "nodes", "found", "more", "node", "begin", "letters", "late"] ["net", "nodes"] (defScope s_law_still) := ⟨rfl, rfl, rfl, by decide +kernel, rfl, by decide +kernel, by decide +kernel⟩
def sp_law_still (K : PySem.W.Frag) : Sp := fun vs H Q _ => ∃ (a el b : Addr) (c : Nat) (E : List Edge) (A : List Nat), vs = [.ref a, .ref b] ∧ NetAt K H a el c E ∧ E.length ≤ 4000 ∧ c ≤ 4000 ∧ (∀ e, e ∈ E → e.2.2 < c) ∧ SqL K H b (A.map nV) ∧ A.length ≤ 4000 ∧ (∀ j, j ∈ A → j < c) ∧
  ∀ (S : List Nat) (t : Addr) (H' : Hp), Srt S (Cl E (· ∈ A)) → Same H H' → H t = none → H' t = some (.tup (S.map nV)) → Q (.ref t) H'
theorem ok_law_still {f : Addr} {fd : FuncData} (F : Fun K "_law_still" "_law_still" s_law_still f fd) (B : Bt mg) : FnOk P w K mg base CX0 1 f fd ["net", "nodes"] (sp_law_still K) := by
  refine F.ok sc_law_still (fun vs H Q E h => ?_) (fun cdv A outer s0 H vs Q E hr h => ?_)
  · obtain ⟨a, el, b, c, E, A, rfl, _⟩ := h
    rfl
  obtain ⟨a, el, b, c, E, A, rfl, hN, hEl, hc, hE, hb, hA, hAc, q⟩ := h
  have two : ∀ n, n ≤ 10 → n ≤ sizeLine := fun n h => Nat.le_of_lt (small1000 (by omega))
  refine ⟨_, (pss_cons (ps_set (i := 2) sc_law_still.nd rfl (Or.inr rfl) (pe_callB (call_sorted1 rfl) (by rfl) B.sorted bt_sorted (pa_cons (pe_callTy (c_set K) (by rfl) B.set bt_set (pa_cons (pv 1) pa_nil)) pa_nil))) (pss_one (ps_while PassesOwn.never (pt_val pe_bl) (pss_cons (ps_set (i := 3) sc_law_still.nd rfl (Or.inl rfl) (pe_callB (call_sorted1 rfl) (by rfl) B.sorted bt_sorted (pa_cons (pe_callTy (c_set K) (by rfl) B.set bt_set (pa_cons (pe_lc (own := [("begin", 5), ("letters", 6), ("late", 7)]) rfl sc_law_still.nd (p_list K (p_ixl K (pv 0) pe_int)) (blkOk_by (by kernel_rfl)) (fun _ _ _ _ _ => (g_tup K 3 (pgs_cons (pg_name (i := 5) sc_law_still.nd rfl (Or.inl rfl)) (pgs_cons (pg_name (i := 6) sc_law_still.nd rfl (Or.inl rfl)) (pgs_cons (pg_name (i := 7) sc_law_still.nd rfl (Or.inl rfl)) pgs_nil))))) (fun _ _ _ _ _ => (pts_one (PW.pt (pw_and (pt_cmpR op_eq (pv 6) pe_str (nomark _)) (pw_and1 (t_in K (pv 5) (pv 2))))))) (fun _ _ _ _ _ => (pv 7))) pa_nil)) pa_nil))) (pss_cons (ps_setLc (i := 3) (own := [("node", 4)]) rfl sc_law_still.nd rfl rfl (sw_true rfl rfl rfl (by decide +kernel)) (p_list K (pv 3)) (blkOk_by (by kernel_rfl)) (fun _ _ _ _ _ => (pg_name (i := 4) sc_law_still.nd rfl (Or.inl rfl))) (fun _ _ _ _ _ => (pts_one (t_nin K (pv 4) (pv 2)))) (fun _ _ _ _ _ => (pv 4))) (pss_cons (ps_if (pt_cmpR (op_eqD hr.units) (pv 3) (pe_lst pa_nil) (nomark _)) (pss_one (ps_ret (pe_callTy (c_tup K) (by rfl) B.tuple bt_tuple (pa_cons (pv 2) pa_nil)))) pss_nil) (pss_one (ps_set (i := 2) sc_law_still.nd rfl (Or.inr rfl) (pe_callB cr_sortedI (by rfl) B.sorted bt_sorted (pa_cons (pe_op op_cat (pv 2) (pv 3)) pa_nil)))))))))), ?_⟩
  refine srt_set (i := 1) rfl hb hA fun S0 l0 H1 hS0 s1 nl0 hl0 => ?_
  have clt : ∀ j, Cl E (· ∈ A) j → j < c := fun j h => by
    induction h with
    | base h => exact hAc _ h
    | eps h _ _ => exact hE _ h
  refine ⟨fun m σ H2 => ∃ (l : Addr) (S : List Nat) (v3 : Option V), m = c - S.length ∧ σ = [some (.ref a), some (.ref b), some (.ref l), v3, none, none, none, none] ∧ Same H H2 ∧ H2 l = some (.lst (S.map nV)) ∧ S.Pairwise (· < ·) ∧ (∀ j, j ∈ A → j ∈ S) ∧ ∀ j, j ∈ S → Cl E (· ∈ A) j,
    ⟨_, l0, S0, none, rfl, rfl, s1, hl0, hS0.pw, fun j h => (hS0.iff j).mpr h, fun j h => .base ((hS0.iff j).mp h)⟩, ?_⟩
  rintro m σ H2 ⟨l, S, v3, hm, rfl, s2, hl, hpw, hAS, hScl⟩
  have hSl : S.length ≤ c := nodup_lt_length c (hpw.imp fun h e => by omega) fun x hx => clt x (hScl x hx)
  refine ⟨true, rfl, iteT ⟨_, fun _ _ h => h, ?_⟩⟩
  have N2 := hN.same s2
  obtain ⟨es, he, hel, hed⟩ := N2.ed
  refine ⟨_, rfl, a, _, _, _, rfl, rfl, SqL.of N2.top, at1, el, rfl, ⟨_, SqL.of he⟩, fun D nD => ?_⟩
  have eg : ∀ i (h : i < E.length), E.getD i (0, [], 0) = E[i] := fun i h => by rw [List.getD_eq_getElem?_getD, List.getElem?_eq_getElem h, Option.getD_some]
  refine lc_fm (walk_list (K := K) (a := el) (xs := es.map V.ref)) nD (fun i => nV (E.getD i (0, [], 0)).2.2) (fun i => decide ((E.getD i (0, [], 0)).2.1 = []) && decide ((E.getD i (0, [], 0)).1 ∈ S)) (by rw [List.length_map, hel]; rw [sizeLine_eq]; omega) (fun H3 s3 => SqL.of (s3 _ _ he)) ?_ ?_
  · rintro i x H3 H4 hi s3 ⟨rfl, hx⟩ R R0 hR hR0
    rw [List.length_map] at hi
    rw [List.getElem?_map, List.getElem?_eq_getElem hi] at hx
    obtain rfl : V.ref es[i] = x := Option.some.inj hx
    have hik : i < E.length := by omega
    rw [eg i hik] at hR hR0
    have hsq := Same.tup s3 (hed i _ _ (List.getElem?_eq_getElem hi) (List.getElem?_eq_getElem hik))
    refine ⟨es[i], _, rfl, hsq, rfl, _, _, rfl, _, _, rfl, _, _, rfl, rfl, rfl, ?_⟩
    have ed : decide (V.str (tx E[i].2.1) = V.str (Str.ofString "")) = decide (E[i].2.1 = []) := by
      rw [Bool.eq_iff_iff, decide_eq_true_iff, decide_eq_true_iff]
      constructor
      · intro h
        exact tx_inj ((V.str.inj h).trans empty_eq)
      · intro h
        rw [h]
        exact congrArg V.str empty_eq.symm
    refine ⟨_, rfl, rfl, _, rfl, ?_⟩
    rw [ed]
    cases h1 : decide (E[i].2.1 = []) with
    | false =>
      rw [h1] at hR0
      exact iteF (iteF (hR0 rfl _ (Same.refl _)))
    | true =>
      rw [h1] at hR hR0
      refine iteT ⟨_, rfl, _, rfl, l, _, rfl, .inl (SqL.of (s3 _ _ hl)), rfl, flat_nV S, decide (E[i].1 ∈ S), congrArg V.bl (inV_nV S _), ?_⟩
      cases h2 : decide (E[i].1 ∈ S) with
      | false =>
        rw [h2] at hR0
        exact iteF (hR0 rfl _ (Same.refl _))
      | true =>
        rw [h2] at hR
        exact iteT ⟨_, rfl, hR rfl _ (Same.refl _)⟩
  intro H3 s3 hD
  rw [List.length_map, hel, filt_gen (0, [], 0) (fun e : Edge => nV e.2.2) E (fun e => decide (e.2.1 = []) && decide (e.1 ∈ S))] at hD
  have hFl := List.length_filter_le (fun e : Edge => decide (e.2.1 = []) && decide (e.1 ∈ S)) E
  show rSet1 w K [.ref D] H3 fun v H1 => rSorted1 w [v] H1 fun x H2 => gName 3 x _ H2 _
  refine srt_raw (F := (E.filter fun e => decide (e.2.1 = []) && decide (e.1 ∈ S)).map (·.2.2)) (SqL.of (by rw [hD, List.map_map]; rfl)) (by rw [List.length_map]; omega) fun S1 l1 H4 hS1 s4 nl1 hl1 => ?_
  have hS1i : ∀ j, j ∈ S1 ↔ ∃ b, (b, [], j) ∈ E ∧ b ∈ S := fun j => by
    rw [hS1.iff]
    constructor
    · intro h
      obtain ⟨⟨b', s', l'⟩, he, rfl⟩ := List.mem_map.mp h
      obtain ⟨h1, h2⟩ := List.mem_filter.mp he
      rw [Bool.and_eq_true, decide_eq_true_iff, decide_eq_true_iff] at h2
      obtain ⟨h3, h4⟩ := h2
      have h3 : s' = [] := h3
      subst h3
      exact ⟨b', h1, h4⟩
    · rintro ⟨b', h1, h2⟩
      exact List.mem_map.mpr ⟨_, List.mem_filter.mpr ⟨h1, by rw [Bool.and_eq_true, decide_eq_true_iff, decide_eq_true_iff]; exact ⟨rfl, h2⟩⟩, rfl⟩
  have hS1c : ∀ j, j ∈ S1 → j < c := fun j h => by
    obtain ⟨b', h1, _⟩ := (hS1i j).mp h
    exact hE _ h1
  have hS1l : S1.length ≤ c := nodup_lt_length c (hS1.pw.imp fun h e => by omega) hS1c
  have s14 := (s2.trans s3).trans s4
  have hl4 := s4 _ _ (s3 _ _ hl)
  -- more = [node for node in more if node not in found]
  refine ⟨_, rfl, l1, rfl, ⟨_, SqL.of hl1⟩, fun D2 nD2 => ?_⟩
  refine lc_fm (walk_list (K := K) (a := l1) (xs := S1.map nV)) nD2 (fun x => nV (S1.getD x 0)) (fun x => !decide (S1.getD x 0 ∈ S)) (by rw [List.length_map, sizeLine_eq]; omega) (fun H5 s5 => SqL.of (s5 _ _ hl1)) ?_ ?_
  · rintro x v H5 H6 hx s5 ⟨rfl, hv⟩ R R0 hR hR0
    rw [List.length_map] at hx
    rw [List.getElem?_map, List.getElem?_eq_getElem hx] at hv
    obtain rfl : nV S1[x] = v := Option.some.inj hv
    have eg : S1.getD x 0 = S1[x] := by rw [List.getD_eq_getElem?_getD, List.getElem?_eq_getElem hx, Option.getD_some]
    rw [eg] at hR hR0
    refine ⟨rfl, _, rfl, _, rfl, l, _, rfl, .inl (SqL.of (s5 _ _ hl4)), rfl, flat_nV S, !decide (S1[x] ∈ S), congrArg (fun z => V.bl (!z)) (inV_nV S _), ?_⟩
    cases hb : decide (S1[x] ∈ S) with
    | true => exact iteF (hR0 (by rw [hb]; rfl) _ (Same.refl _))
    | false => exact iteT ⟨_, rfl, hR (by rw [hb]; rfl) _ (Same.refl _)⟩
  intro H5 s5 hD2
  rw [List.length_map, filt_get S1 (fun y => !decide (y ∈ S))] at hD2
  have hl5 := s5 _ _ hl4
  refine ⟨_, rfl, two 0 (by decide), fun p np => ?_⟩
  have s6 := same_new np (.lst [])
  have s16 := (s14.trans s5).trans s6
  have hD6 := s6 _ _ hD2
  have hl6 := s6 _ _ hl5
  refine ⟨dIs (S1.filter fun y => !decide (y ∈ S)), dIs [], dp_dIs (SqL.of hD6), dp_dIs (L := []) (SqL.of upd_same), shaped_dIs _, shaped_dIs _, _, rfl, ?_⟩
  rw [eqv_dIs]
  by_cases hn : (S1.filter fun y => !decide (y ∈ S)) = []
  · rw [decide_eq_true hn]
    have hclosed : ∀ j, Cl E (· ∈ A) j → j ∈ S := fun j h => by
      induction h with
      | base h => exact hAS _ h
      | @eps b' l' h _ ih =>
        refine Classical.byContradiction fun z => ?_
        have h1 : l' ∈ S1.filter fun y => !decide (y ∈ S) := List.mem_filter.mpr ⟨(hS1i l').mpr ⟨b', h, ih⟩, by rw [decide_eq_false z]; rfl⟩
        rw [hn] at h1
        simp at h1
    refine iteT ⟨_, rfl, l, _, rfl, SqL.of hl6, fun t nt => ?_⟩
    have s7 := same_new nt (.tup (S.map nV))
    exact q S t _ ⟨hpw, fun j => ⟨hScl j, hclosed j⟩⟩ (s16.trans s7) (s16.free nt) upd_same
  · rw [decide_eq_false hn]
    have hnl : (S1.filter fun y => !decide (y ∈ S)).length ≤ c := Nat.le_trans (List.length_filter_le _ _) hS1l
    have hnd : (S ++ S1.filter fun y => !decide (y ∈ S)).Nodup := by
      refine List.nodup_append.mpr ⟨hpw.imp fun h e => by omega, (hS1.pw.imp fun h e => by omega).filter _, ?_⟩
      intro x hx y hy e
      subst e
      have := (List.mem_filter.mp hy).2
      rw [decide_eq_true hx] at this
      cases this
    refine iteF ⟨_, rfl, _, rfl, l, D2, _, _, rfl, rfl, hl6, hD6, ?_, fun l3 n3 => ?_⟩
    · rw [List.length_map, List.length_map, sizeLine_eq]
      omega
    have s7 := same_new n3 (.lst (S.map nV ++ (S1.filter fun y => !decide (y ∈ S)).map nV))
    refine ⟨l3, (S ++ S1.filter fun y => !decide (y ∈ S)).map fun i => ((i : Nat) : Int), rfl, SqL.of (by rw [upd_same, List.map_map, List.map_append]; rfl), fun ns' l4 hp hpw' n4 => ?_⟩
    obtain ⟨S2, e, hS2, hS2l⟩ := ints_perm hnd hp hpw'
    have s8 := same_new n4 (.lst (ns'.map V.int))
    rw [List.length_append] at hS2l
    have hpos := List.length_pos_iff.mpr hn
    have hin : ∀ j, j ∈ S2 → Cl E (· ∈ A) j := fun j h => by
      rcases List.mem_append.mp ((hS2.iff j).mp h) with h | h
      · exact hScl j h
      · obtain ⟨b', h1, h2⟩ := (hS1i j).mp (List.mem_filter.mp h).1
        exact .eps h1 (hScl b' h2)
    have hS2c : S2.length ≤ c := nodup_lt_length c (hS2.pw.imp fun h e => by omega) fun x hx => clt x (hin x hx)
    refine ⟨c - S2.length, by omega, l4, S2, _, rfl, rfl, (s16.trans s7).trans s8, by rw [upd_same, e], hS2.pw, fun j h => (hS2.iff j).mpr (List.mem_append_left _ (hAS j h)), hin⟩
end
end Own
namespace Own
open PySem PySem.Spec PyProof.Rows L2
theorem Cl.congr {E : List Edge} {A B : Nat → Prop} (h : ∀ j, A j ↔ B j) {j : Nat} : Cl E A j ↔ Cl E B j := by
  have e : A = B := funext fun j => propext (h j)
  rw [e]
theorem mem_sg (x : Nat) (s : Word) : decide (x + 97 ∈ (tx s).cps.toList) = decide (x ∈ s) := by
  rw [Bool.eq_iff_iff, decide_eq_true_iff, decide_eq_true_iff, tx_cps]
  constructor
  · intro h
    obtain ⟨y, hy, e⟩ := List.mem_map.mp h
    have : y = x := by omega
    rw [← this]
    exact hy
  · intro h
    exact List.mem_map.mpr ⟨_, h, rfl⟩
theorem dec_empty (s : Word) : decide (V.str (tx s) = V.str (Str.ofString "")) = decide (s = []) := by
  rw [Bool.eq_iff_iff, decide_eq_true_iff, decide_eq_true_iff]
  constructor
  · intro h
    exact tx_inj ((V.str.inj h).trans empty_eq)
  · intro h
    rw [h]
    exact congrArg V.str empty_eq.symm
/-- a step by a letter -/
def StepTo (E : List Edge) (S : List Nat) (x j : Nat) : Prop := ∃ b s, (b, s, j) ∈ E ∧ x ∈ s ∧ b ∈ S
section
variable {P : Program} {w : World} {K : PySem.W.Frag} {mg : Str → Option Value} {base : Heap}
abbrev s_law_step : Stmt := topS 47
theorem sc_law_step : FnScope ["net", "nodes", "letter", "some", "edge", "begin", "letters", "late"] ["net", "nodes", "letter"] (defScope s_law_step) := ⟨rfl, rfl, rfl, by decide +kernel, rfl, by decide +kernel, by decide +kernel⟩
def sp_law_step (K : PySem.W.Frag) : Sp := fun vs H Q _ => ∃ (a el b : Addr) (c : Nat) (E : List Edge) (S : List Nat) (x : Nat), vs = [.ref a, .ref b, .str (sg x)] ∧ NetAt K H a el c E ∧ E.length ≤ 4000 ∧ c ≤ 4000 ∧ (∀ e, e ∈ E → e.2.2 < c) ∧ SqT K H b (S.map nV) ∧
  ∀ (S' : List Nat) (t : Addr) (H' : Hp), Srt S' (Cl E (StepTo E S x)) → Same H H' → H t = none → H' t = some (.tup (S'.map nV)) → Q (.ref t) H'
theorem ok_law_step {f : Addr} {fd : FuncData} (F : Fun K "_law_step" "_law_step" s_law_step f fd) (B : Bt mg) (C_law_still : Got P w K mg base CX0 1 "_law_still" ["net", "nodes"] (sp_law_still K)) : FnOk P w K mg base CX0 2 f fd ["net", "nodes", "letter"] (sp_law_step K) := by
  refine F.ok sc_law_step (fun vs H Q E h => ?_) (fun cdv A outer s0 H vs Q E hr h => ?_)
  · obtain ⟨a, el, b, c, E, S, x, rfl, _⟩ := h
    rfl
  obtain ⟨a, el, b, c, E, S, x, rfl, hN, hEl, hc, hE, hb, q⟩ := h
  have hr1 : Room 1 _ := hr.mono (by decide)
  refine ⟨_, (pss_cons (ps_setLc (i := 3) (own := [("edge", 4)]) rfl sc_law_step.nd rfl rfl (sw_true rfl rfl rfl (by decide +kernel)) (p_list K (p_ixl K (pv 0) pe_int)) (blkOk_by (by kernel_rfl)) (fun _ _ _ _ _ => (pg_name (i := 4) sc_law_step.nd rfl (Or.inl rfl))) (fun _ _ _ _ _ => (pts_one (PW.pt (pw_and (pt_cmpR op_ne (p_ixt K (pv 4) pe_int) pe_str (nomark _)) (pw_and1 (t_ins (pv 2) (p_ixt K (pv 4) pe_int))))))) (fun _ _ _ _ _ => (pv 4))) (pss_one (ps_ret (C_law_still.call hr1 (by rfl) (pa_cons (pv 0) (pa_cons (pe_lc (own := [("begin", 5), ("letters", 6), ("late", 7)]) rfl sc_law_step.nd (p_list K (pv 3)) (blkOk_by (by kernel_rfl)) (fun _ _ _ _ _ => (g_tup K 3 (pgs_cons (pg_name (i := 5) sc_law_step.nd rfl (Or.inl rfl)) (pgs_cons (pg_name (i := 6) sc_law_step.nd rfl (Or.inl rfl)) (pgs_cons (pg_name (i := 7) sc_law_step.nd rfl (Or.inl rfl)) pgs_nil))))) (fun _ _ _ _ _ => (pts_one (t_in K (pv 5) (pv 1)))) (fun _ _ _ _ _ => (pv 7))) pa_nil)))))), ?_⟩
  obtain ⟨es, he, hel, hed⟩ := hN.ed
  have eg : ∀ i (h : i < E.length), E.getD i (0, [], 0) = E[i] := fun i h => by rw [List.getD_eq_getElem?_getD, List.getElem?_eq_getElem h, Option.getD_some]
  have eg2 : ∀ i (h : i < es.length), es.getD i 0 = es[i] := fun i h => by rw [List.getD_eq_getElem?_getD, List.getElem?_eq_getElem h, Option.getD_some]
  refine ⟨_, rfl, a, _, _, _, rfl, rfl, SqL.of hN.top, at1, el, rfl, ⟨_, SqL.of he⟩, fun D nD => ?_⟩
  refine lc_fm (walk_list (K := K) (a := el) (xs := es.map V.ref)) nD (fun i => V.ref (es.getD i 0)) (fun i => !decide ((E.getD i (0, [], 0)).2.1 = []) && decide (x ∈ (E.getD i (0, [], 0)).2.1)) (by rw [List.length_map, hel]; rw [sizeLine_eq]; omega) (fun H3 s3 => SqL.of (s3 _ _ he)) ?_ ?_
  · rintro i y H3 H4 hi s3 ⟨rfl, hx⟩ R R0 hR hR0
    rw [List.length_map] at hi
    rw [List.getElem?_map, List.getElem?_eq_getElem hi] at hx
    obtain rfl : V.ref es[i] = y := Option.some.inj hx
    have hik : i < E.length := by omega
    rw [eg i hik] at hR hR0
    rw [eg2 i hi] at hR
    have hsq := Same.tup s3 (hed i _ _ (List.getElem?_eq_getElem hi) (List.getElem?_eq_getElem hik))
    refine ⟨rfl, _, rfl, es[i], _, _, _, rfl, rfl, hsq, at1, rfl, _, rfl, ?_⟩
    rw [dec_empty]
    cases h1 : decide (E[i].2.1 = []) with
    | true =>
      rw [h1] at hR0
      exact iteF (iteF (hR0 rfl _ (Same.refl _)))
    | false =>
      rw [h1] at hR hR0
      refine iteT ⟨_, rfl, _, rfl, es[i], _, _, _, rfl, rfl, hsq, at1, x + 97, tx E[i].2.1, rfl, rfl, _, rfl, ?_⟩
      rw [mem_sg]
      cases h2 : decide (x ∈ E[i].2.1) with
      | false =>
        rw [h2] at hR0
        exact iteF (hR0 rfl _ (Same.refl _))
      | true =>
        rw [h2] at hR
        exact iteT ⟨_, rfl, hR rfl _ (Same.refl _)⟩
  intro H3 s3 hD
  rw [List.length_map, hel] at hD
  generalize hI : (List.range E.length).filter (fun i => !decide ((E.getD i (0, [], 0)).2.1 = []) && decide (x ∈ (E.getD i (0, [], 0)).2.1)) = I at hD
  have hIlt : ∀ i, i ∈ I → i < E.length := fun i h => by
    rw [← hI] at h
    exact List.mem_range.mp (List.mem_filter.mp h).1
  have hIl : I.length ≤ E.length := by
    rw [← hI]
    have := List.length_filter_le (fun i => !decide ((E.getD i (0, [], 0)).2.1 = []) && decide (x ∈ (E.getD i (0, [], 0)).2.1)) (List.range E.length)
    rwa [List.length_range] at this
  refine ⟨_, rfl, _, rfl, D, rfl, ⟨_, SqL.of hD⟩, fun D2 nD2 => ?_⟩
  refine lc_fm (walk_list (K := K) (a := D) (xs := I.map fun i => V.ref (es.getD i 0))) nD2 (fun i => nV (E.getD (I.getD i 0) (0, [], 0)).2.2) (fun i => decide ((E.getD (I.getD i 0) (0, [], 0)).1 ∈ S)) (by rw [List.length_map, sizeLine_eq]; omega) (fun H4 s4 => SqL.of (s4 _ _ hD)) ?_ ?_
  · rintro i y H4 H5 hi s4 ⟨rfl, hx⟩ R R0 hR hR0
    rw [List.length_map] at hi
    rw [List.getElem?_map, List.getElem?_eq_getElem hi] at hx
    obtain rfl : V.ref (es.getD I[i] 0) = y := Option.some.inj hx
    have egI : I.getD i 0 = I[i] := by rw [List.getD_eq_getElem?_getD, List.getElem?_eq_getElem hi, Option.getD_some]
    have hik := hIlt _ (List.getElem_mem hi)
    have hik2 : I[i] < es.length := by omega
    rw [egI, eg _ hik] at hR hR0
    have hsq := Same.tup (s3.trans s4) (hed I[i] _ _ (List.getElem?_eq_getElem hik2) (List.getElem?_eq_getElem hik))
    rw [eg2 _ hik2]
    refine ⟨es[I[i]], _, rfl, hsq, rfl, _, _, rfl, _, _, rfl, _, _, rfl, rfl, rfl, ?_⟩
    refine ⟨_, rfl, _, rfl, b, _, rfl, .inr (Same.tup (s3.trans s4) hb), rfl, flat_nV S, decide (E[I[i]].1 ∈ S), congrArg V.bl (inV_nV S _), ?_⟩
    cases h2 : decide (E[I[i]].1 ∈ S) with
    | false =>
      rw [h2] at hR0
      exact iteF (hR0 rfl _ (Same.refl _))
    | true =>
      rw [h2] at hR
      exact iteT ⟨_, rfl, hR rfl _ (Same.refl _)⟩
  intro H4 s4 hD2
  rw [List.length_map, filt_gen 0 (fun i => nV (E.getD i (0, [], 0)).2.2) I (fun i => decide ((E.getD i (0, [], 0)).1 ∈ S))] at hD2
  have hFl := List.length_filter_le (fun i => decide ((E.getD i (0, [], 0)).1 ∈ S)) I
  have hF : ∀ j, j ∈ ((I.filter fun i => decide ((E.getD i (0, [], 0)).1 ∈ S)).map fun i => (E.getD i (0, [], 0)).2.2) ↔ StepTo E S x j := fun j => by
    constructor
    · intro h
      obtain ⟨i, hi, rfl⟩ := List.mem_map.mp h
      obtain ⟨h1, h2⟩ := List.mem_filter.mp hi
      have hik := hIlt i h1
      rw [← hI] at h1
      have h3 := (List.mem_filter.mp h1).2
      rw [Bool.and_eq_true, decide_eq_true_iff] at h3
      rw [eg i hik] at h2 h3 ⊢
      exact ⟨E[i].1, E[i].2.1, List.getElem_mem hik, h3.2, of_decide_eq_true h2⟩
    · rintro ⟨b', s', h1, h2, h3⟩
      obtain ⟨i, hik, e⟩ := List.getElem_of_mem h1
      refine List.mem_map.mpr ⟨i, List.mem_filter.mpr ⟨?_, ?_⟩, by rw [eg i hik, e]⟩
      · rw [← hI]
        refine List.mem_filter.mpr ⟨List.mem_range.mpr hik, ?_⟩
        rw [eg i hik, e, Bool.and_eq_true]
        refine ⟨?_, decide_eq_true h2⟩
        have : s' ≠ [] := fun z => by
          rw [z] at h2
          simp at h2
        rw [decide_eq_false this]
        rfl
      · rw [eg i hik, e]
        exact decide_eq_true h3
  refine ⟨a, el, D2, c, E, (I.filter fun i => decide ((E.getD i (0, [], 0)).1 ∈ S)).map fun i => (E.getD i (0, [], 0)).2.2, rfl, (hN.same s3).same s4, hEl, hc, hE, SqL.of (by rw [hD2, List.map_map]; rfl), by rw [List.length_map]; omega, fun j h => ?_, fun S' t H5 hS' s5 nt ht => ?_⟩
  · obtain ⟨b', s', h1, _⟩ := (hF j).mp h
    exact hE _ h1
  · exact q S' t H5 (hS'.ext fun j => Cl.congr hF) ((s3.trans s4).trans s5) ((s3.trans s4).free nt) ht
end
end Own
namespace Own
open PySem PySem.Spec PyProof.Rows L2
theorem hu65_of {A : Around} {k : Nat} (hr : Room k A) : A.units + 65 < cLine := by
  have := hr.un
  omega
theorem depth_mem {α : Type} (f : α → PyData) (b : Nat) : ∀ xs : List α, (∀ x, x ∈ xs → (f x).depth ≤ b) → PyData.depthAll (xs.map f) ≤ b
  | [], _ => by simp [PyData.depthAll]
  | x :: xs, h => by
    have h1 := h x List.mem_cons_self
    have h2 := depth_mem f b xs fun y hy => h y (List.mem_cons_of_mem _ hy)
    simp only [List.map_cons, PyData.depthAll]
    omega
/-- data that are small enough -/
def SmD (d : PyData) : Prop := d.canLay0 = true ∧ d.depth ≤ 60
theorem SmD.sh {d : PyData} (h : SmD d) : SeqAt.shaped d = true := by
  unfold SeqAt.shaped
  rw [h.1, decide_eq_true (show d.depth ≤ 64 by have := h.2; omega)]
  rfl
theorem shaped_list {α : Type} (f : α → PyData) (xs : List α) (h : ∀ x, x ∈ xs → SmD (f x)) : SeqAt.shaped (.list (xs.map f)) = true := by
  have h1 : (PyData.list (xs.map f)).canLay0 = true := by
    rw [PyData.canLay0]
    exact canLay_mem f xs fun x hx => (h x hx).1
  have h2 : (PyData.list (xs.map f)).depth ≤ 64 := by
    have := depth_mem f 60 xs fun x hx => (h x hx).2
    simp only [PyData.depth]
    omega
  unfold SeqAt.shaped
  rw [h1, decide_eq_true h2]
  rfl
theorem any_dec {α : Type} [DecidableEq α] (f : α → PyData) (h : ∀ x y, PyData.eqv (f x) (f y) = decide (x = y)) (t : α) : ∀ xs : List α, ((xs.map f).any fun z => PyData.eqv z (f t)) = decide (t ∈ xs)
  | [] => rfl
  | x :: xs => by
    rw [List.map_cons, List.any_cons, any_dec f h t xs, h, Bool.eq_iff_iff, Bool.or_eq_true, decide_eq_true_iff, decide_eq_true_iff, decide_eq_true_iff, List.mem_cons]
    constructor
    · rintro (h | h)
      · exact .inl h.symm
      · exact .inr h
    · rintro (h | h)
      · exact .inl h.symm
      · exact .inr h
theorem dpAll_of {α : Type} {K : PySem.W.Frag} {H : Hp} (f : α → PyData) : ∀ (vs : List V) (ts : List α), vs.length = ts.length → (∀ (i : Nat) (v : V) (t : α), vs[i]? = some v → ts[i]? = some t → Dp K H v (f t)) → DpAll K H vs (ts.map f)
  | [], [], _, _ => .nil
  | [], _ :: _, h, _ => by simp at h
  | _ :: _, [], h, _ => by simp at h
  | v :: vs, t :: ts, h, q => .cons (q 0 v t rfl rfl) (dpAll_of f vs ts (by simpa using h) fun i v' t' h1 h2 => q (i + 1) v' t' (by simpa using h1) (by simpa using h2))
section
variable {P : Program} {w : World} {K : PySem.W.Frag} {mg : Str → Option Value} {base : Heap}
abbrev s_law_classes : Stmt := topS 49
theorem sc_law_classes : FnScope ["things", "found", "thing"] ["things"] (defScope s_law_classes) := ⟨rfl, rfl, rfl, by decide +kernel, rfl, by decide +kernel, by decide +kernel⟩
def sp_law_classes (K : PySem.W.Frag) : Sp := fun vs H Q _ => ∃ (α : Type) (_ : DecidableEq α) (dv : α → PyData) (a : Addr) (xs : List V) (Ts : List α), vs = [.ref a] ∧ H a = some (.lst xs) ∧ xs.length = Ts.length ∧ Ts.length ≤ 1000 ∧
  (∀ x y, PyData.eqv (dv x) (dv y) = decide (x = y)) ∧ (∀ t, t ∈ Ts → SmD (dv t)) ∧ (∀ H', Same H H' → ∀ (i : Nat) (v : V) (t : α), xs[i]? = some v → Ts[i]? = some t → Dp K H' v (dv t)) ∧
  ∀ (l : Addr) (H' : Hp), Same H H' → H l = none → H' l = some (.lst ((clsOf Ts).map nV)) → Q (.ref l) H'
theorem ok_law_classes {f : Addr} {fd : FuncData} (F : Fun K "_law_classes" "_law_classes" s_law_classes f fd) (B : Bt mg) : FnOk P w K mg base CX0 1 f fd ["things"] (sp_law_classes K) := by
  refine F.ok sc_law_classes (fun vs H Q E h => ?_) (fun cdv A outer s0 H vs Q E hr h => ?_)
  · obtain ⟨α, _, dv, a, xs, Ts, rfl, _⟩ := h
    rfl
  obtain ⟨α, dec, dv, a, xs, Ts, rfl, ha, hxl, hTl, eqv, sm, dp, q⟩ := h
  have hu65 := hu65_of hr
  refine ⟨_, (pss_cons (ps_set (i := 1) sc_law_classes.nd rfl (Or.inr rfl) (pe_lst pa_nil)) (pss_cons (ps_for PassesOwn.never rfl (p_list K (pv 0)) (pg_name (i := 2) sc_law_classes.nd rfl (Or.inl rfl)) (pss_one (ps_if (t_ninD K hu65 (pv 2) (pv 1)) (pss_one (ps_expr (p_app K (pv 1) (pa_cons (pv 2) pa_nil)))) pss_nil))) (pss_one (ps_ret (pe_lc (own := [("thing", 2)]) rfl sc_law_classes.nd (p_list K (pv 0)) (blkOk_by (by kernel_rfl)) (fun _ _ _ _ _ => (pg_name (i := 2) sc_law_classes.nd rfl (Or.inl rfl))) (fun _ _ _ _ _ => pts_nil) (fun _ _ _ _ _ => (p_lixD K hu65 (pv 1) (pa_cons (pv 2) pa_nil)))))))), ?_⟩
  refine ⟨by decide, fun l nl => ?_⟩
  have s1 := same_new nl (.lst [])
  have nla : a ≠ l := ne_of_none ha nl
  refine ⟨_, rfl, a, rfl, ⟨_, SqL.of (s1 _ _ ha)⟩, for_list (K := K) (a := a) (xs := xs) (fun i σ H1 => ∃ (v2 : Option V) (ys : List V), i ≤ Ts.length ∧ σ = [some (.ref a), some (.ref l), v2] ∧ Same H H1 ∧ H1 l = some (.lst ys) ∧ ys.length = (firsts (Ts.take i)).length ∧
      ∀ (j : Nat) (v : V) (t : α), ys[j]? = some v → (firsts (Ts.take i))[j]? = some t → ∃ k : Nat, xs[k]? = some v ∧ Ts[k]? = some t)
    ⟨none, [], Nat.zero_le _, rfl, s1, upd_same, rfl, fun j v t h => by simp at h⟩ (fun i σ H1 _ h => ?_) ?_ ?_⟩
  · obtain ⟨_, _, _, _, h, _⟩ := h
    exact SqL.of (h _ _ ha)
  · rintro i x σ H1 hx ⟨v2, ys, hi, rfl, s2, hl, hyl, hy⟩
    have hil : i < Ts.length := by
      have := (List.getElem?_eq_some_iff.mp hx).1
      omega
    have hT : Ts[i]? = some Ts[i] := List.getElem?_eq_getElem hil
    have etk : Ts.take (i + 1) = Ts.take i ++ [Ts[i]] := by rw [List.take_add_one, hT]; rfl
    have smF : ∀ t, t ∈ firsts (Ts.take i) → SmD (dv t) := fun t ht => sm t (List.mem_of_mem_take (mem_firsts.mp ht))
    have dpF : Dp K H1 (.ref l) (.list ((firsts (Ts.take i)).map dv)) := .lst (SqL.of hl) (dpAll_of dv ys _ hyl fun j v t h1 h2 => by
      obtain ⟨k, h3, h4⟩ := hy j v t h1 h2
      exact dp H1 s2 k v t h3 h4)
    refine ⟨_, rfl, _, rfl, dv Ts[i], _, dp H1 s2 i x _ hx hT, dpF, (sm _ (List.getElem_mem hil)).sh, shaped_list dv _ smF, _, rfl, ?_⟩
    rw [any_dec dv eqv]
    have hfl : (firsts (Ts.take i)).length ≤ Ts.length := by
      refine Nat.le_trans (subset_length (firsts_nodup _) fun x hx => mem_firsts.mp hx) ?_
      rw [List.length_take]
      omega
    by_cases hin : Ts[i] ∈ firsts (Ts.take i)
    · rw [decide_eq_true hin]
      refine iteF ⟨_, ys, by omega, rfl, s2, hl, ?_, ?_⟩
      · rw [etk, firsts_snoc, addF, if_pos hin]
        exact hyl
      · rw [etk, firsts_snoc, addF, if_pos hin]
        exact hy
    · rw [decide_eq_false hin]
      refine iteT ⟨_, rfl, .inl ⟨rfl, _, SqL.of hl⟩, _, rfl, l, _, _, rfl, rfl, hl, small1000 (by omega), ?_⟩
      refine ⟨_, ys ++ [x], by omega, rfl, fun b o e => ?_, upd_same, ?_, fun j v t h1 h2 => ?_⟩
      · rw [upd_ne (ne_of_none e nl)]
        exact s2 _ _ e
      · rw [etk, firsts_snoc, addF, if_neg hin, List.length_append, List.length_append, hyl]
        rfl
      · rw [etk, firsts_snoc, addF, if_neg hin] at h2
        by_cases hj : j < ys.length
        · rw [List.getElem?_append_left hj] at h1
          rw [List.getElem?_append_left (by omega)] at h2
          exact hy j v t h1 h2
        · rw [List.getElem?_append_right (by omega)] at h1 h2
          have hz : j - ys.length = 0 := by
            have := (List.getElem?_eq_some_iff.mp h1).1
            simp at this
            omega
          rw [hz] at h1
          have hz2 : j - (firsts (Ts.take i)).length = 0 := by omega
          rw [hz2] at h2
          obtain rfl : x = v := by simpa using h1
          obtain rfl : Ts[i] = t := by simpa using h2
          exact ⟨i, hx, hT⟩
  rintro σ H1 ⟨v2, ys, hi, rfl, s2, hl, hyl, hy⟩
  rw [hxl, List.take_length] at hyl hy
  have hfl : (firsts Ts).length ≤ Ts.length := subset_length (firsts_nodup _) fun x hx => mem_firsts.mp hx
  have hl1 := s2 _ _ ha
  refine ⟨_, rfl, a, rfl, ⟨_, SqL.of hl1⟩, fun D nD => ?_⟩
  refine lc_map (walk_list (K := K) (a := a) (xs := xs)) nD (fun i => nV ((clsOf Ts).getD i 0)) (by rw [hxl]; exact small1000 (by omega)) (fun H2 s3 => SqL.of (s3 _ _ hl1)) ?_ ?_
  · rintro i x H2 H3 hi s3 ⟨rfl, hx⟩ R hR
    rw [hxl] at hi
    have hT : Ts[i]? = some Ts[i] := List.getElem?_eq_getElem hi
    have hm : Ts[i] ∈ firsts Ts := mem_firsts.mpr (List.getElem_mem hi)
    have hix := List.idxOf_lt_length_of_mem hm
    have eg : (clsOf Ts).getD i 0 = (firsts Ts).idxOf Ts[i] := by
      unfold clsOf
      rw [List.getD_eq_getElem?_getD, List.getElem?_map, hT]
      rfl
    rw [eg] at hR
    have s23 := s2.trans s3
    have dpF : Dp K H3 (.ref l) (.list ((firsts Ts).map dv)) := .lst (SqL.of (s3 _ _ hl)) (dpAll_of dv ys _ hyl fun j v t h1 h2 => by
      obtain ⟨k, h3, h4⟩ := hy j v t h1 h2
      exact dp H3 s23 k v t h3 h4)
    refine ⟨rfl, _, rfl, .inl ⟨rfl, _, SqL.of (s3 _ _ hl)⟩, _, rfl, l, x, dv Ts[i], (firsts Ts).map dv, (firsts Ts).idxOf Ts[i], dv Ts[i], rfl, rfl, dpF, dp H3 s23 i x _ hx hT, shaped_list dv _ fun t ht => sm t (mem_firsts.mp ht), (sm _ (List.getElem_mem hi)).sh, ?_, ?_, fun m z hm' hz => ?_, hR H3 (Same.refl _)⟩
    · rw [List.getElem?_map, List.getElem?_eq_getElem hix, List.getElem_idxOf hix]
      rfl
    · rw [eqv]
      exact decide_eq_true rfl
    · rw [List.getElem?_map] at hz
      have hml : m < (firsts Ts).length := by omega
      rw [List.getElem?_eq_getElem hml] at hz
      obtain rfl := Option.some.inj hz
      rw [eqv]
      refine decide_eq_false fun e => ?_
      have e2 := (firsts_nodup Ts).idxOf_getElem m hml
      rw [e] at e2
      omega
  · intro H2 s3 e2
    refine q D H2 (s2.trans s3) (s2.free nD) ?_
    rw [e2, hxl]
    congr 2
    have hcl : (clsOf Ts).length = Ts.length := (clsOf_ok Ts).len
    rw [← hcl]
    exact map_range_get (clsOf Ts) _ nV fun i x hx => by rw [List.getD_eq_getElem?_getD, hx, Option.getD_some]
end
end Own
namespace Own
open PySem PySem.Spec PyProof.Rows L2
/-- data: pairs of a number and a list of numbers -/
def dPr (z : Nat × List Nat) : PyData := .tuple [.int (z.1 : Nat), dIs z.2]
theorem eqv_dPr (x y : Nat × List Nat) : PyData.eqv (dPr x) (dPr y) = decide (x = y) := by
  unfold dPr
  rw [PyData.eqv, PyData.eqvAll, PyData.eqvAll, PyData.eqvAll, eqv_dI, eqv_dIs]
  obtain ⟨a, b⟩ := x
  obtain ⟨c, d⟩ := y
  rw [Bool.and_true, Bool.eq_iff_iff, Bool.and_eq_true, decide_eq_true_iff, decide_eq_true_iff, decide_eq_true_iff, Prod.mk.injEq]
theorem smD_dPr (x : Nat × List Nat) : SmD (dPr x) := by
  unfold dPr
  refine ⟨?_, ?_⟩
  · simp only [PyData.canLay0, PyData.canLayAll0, canLay_dIs, Bool.and_true]
  · have := depth_dIs x.2
    simp only [PyData.depth, PyData.depthAll]
    omega
theorem eqv_bool (x y : Bool) : PyData.eqv (.bool x) (.bool y) = decide (x = y) := by cases x <;> cases y <;> rfl
theorem smD_bool (x : Bool) : SmD (.bool x) := ⟨by simp [PyData.canLay0], by simp [PyData.depth]⟩
theorem max_some {R : List Nat} (h : 0 < R.length) {m : Int} (h1 : m ∈ R.map fun i => ((i : Nat) : Int)) (h2 : ∀ y, y ∈ R.map (fun i => ((i : Nat) : Int)) → y ≤ m) : ∃ M : Nat, m = (M : Int) ∧ M ∈ R ∧ ∀ x, x ∈ R → x ≤ M := by
  obtain ⟨M, hM, rfl⟩ := List.mem_map.mp h1
  refine ⟨M, rfl, hM, fun x hx => ?_⟩
  have := h2 _ (List.mem_map.mpr ⟨x, hx, rfl⟩)
  omega
theorem max_ex : ∀ R : List Nat, 0 < R.length → ∃ M, M ∈ R ∧ ∀ x, x ∈ R → x ≤ M
  | [], h => by simp at h
  | [a], _ => ⟨a, by simp, fun x hx => by rw [List.mem_singleton.mp hx]; exact Nat.le_refl _⟩
  | a :: b :: r, _ => by
    obtain ⟨M, h1, h2⟩ := max_ex (b :: r) (by simp)
    by_cases h : a ≤ M
    · exact ⟨M, List.mem_cons_of_mem _ h1, fun x hx => by
        rcases List.mem_cons.mp hx with rfl | hx
        · exact h
        · exact h2 x hx⟩
    · exact ⟨a, List.mem_cons_self, fun x hx => by
        rcases List.mem_cons.mp hx with rfl | hx
        · exact Nat.le_refl _
        · have := h2 x hx
          omega⟩
theorem Kinds.max_lt {B : Tab} {N : Nat} {R : List Nat} (h : Kinds B N R) {M : Nat} (m1 : M ∈ R) : M < N := by
  obtain ⟨α, Ts, h1, C⟩ := h.cl
  have := subset_length (l := List.range (M + 1)) List.nodup_range fun x hx => C.onto x M m1 (by have := List.mem_range.mp hx; omega)
  rw [List.length_range, h.len] at this
  omega
/-- lists of rows in the heap -/
def RowsL (H : Hp) (r : Addr) (rows : List (List Nat)) : Prop := ∃ rs : List Addr, H r = some (.lst (rs.map V.ref)) ∧ rs.length = rows.length ∧ ∀ (i : Nat) (a : Addr) (row : List Nat), rs[i]? = some a → rows[i]? = some row → H a = some (.lst (row.map nV))
theorem RowsL.same {H H' : Hp} {r : Addr} {rows : List (List Nat)} (h : RowsL H r rows) (e : Same H H') : RowsL H' r rows := by
  obtain ⟨rs, h1, h2, h3⟩ := h
  exact ⟨rs, e _ _ h1, h2, fun i a row k1 k2 => e _ _ (h3 i a row k1 k2)⟩
theorem RowsL.get {H : Hp} {r : Addr} {B : Tab} {k N s : Nat} (h : RowsL H r B.rows) (O : BOk B k N) (hs : s < N) : ∃ (rs : List Addr) (a : Addr), H r = some (.lst (rs.map V.ref)) ∧ rs.length = N ∧ (rs.map V.ref)[s]? = some (.ref a) ∧ H a = some (.lst ((B.rows.getD s []).map nV)) := by
  obtain ⟨rs, h1, h2, h3⟩ := h
  have hl : rs.length = N := by rw [h2, O.rl]
  have hsl : s < rs.length := by omega
  refine ⟨rs, rs[s], h1, hl, by rw [List.getElem?_map, List.getElem?_eq_getElem hsl]; rfl, h3 s _ _ (List.getElem?_eq_getElem hsl) (O.rowget hs).2⟩
theorem at_kd {R : List Nat} {s : Nat} (h : s < R.length) : atI (R.map nV) ((s : Nat) : Int) = some (nV (kd R s)) := by
  refine atI_nat ?_
  rw [List.getElem?_map, kd_get h]
  rfl
theorem at_fin0 {B : Tab} {k N s : Nat} (O : BOk B k N) (hs : s < N) : atI (B.ends.map V.bl) ((s : Nat) : Int) = some (.bl (B.fin s)) := by
  have h2 : s < B.ends.length := by
    rw [O.el]
    exact hs
  refine atI_nat ?_
  rw [List.getElem?_map, List.getElem?_eq_getElem h2]
  unfold Tab.fin
  rw [List.getD_eq_getElem?_getD, List.getElem?_eq_getElem h2]
  rfl
section
variable {P : Program} {w : World} {K : PySem.W.Frag} {mg : Str → Option Value} {base : Heap}
abbrev s_law_least : Stmt := topS 50
theorem sc_law_least : FnScope ["rows", "marks", "kinds", "finer", "order", "at", "there", "names", "late", "one", "row"] ["rows", "marks"] (defScope s_law_least) := ⟨rfl, rfl, rfl, by decide +kernel, rfl, by decide +kernel, by decide +kernel⟩
def sp_law_least (K : PySem.W.Frag) : Sp := fun vs H Q _ => ∃ (r mk : Addr) (B : Tab) (k N : Nat), vs = [.ref r, .ref mk] ∧ RowsL H r B.rows ∧ H mk = some (.lst (B.ends.map V.bl)) ∧ BOk B k N ∧
  ∀ (t r' e' : Addr) (T : Tab) (n : Nat) (H' : Hp), Same H H' → Canon T k n → n ≤ N → (∀ w, Wd k w → T.acc 0 w = B.acc 0 w) → TabAt K H' t r' e' T → Q (.ref t) H'
theorem ok_law_least {f : Addr} {fd : FuncData} (F : Fun K "_law_least" "_law_least" s_law_least f fd) (B0 : Bt mg) (C_law_classes : Got P w K mg base CX0 1 "_law_classes" ["things"] (sp_law_classes K)) : FnOk P w K mg base CX0 2 f fd ["rows", "marks"] (sp_law_least K) := by
  refine F.ok sc_law_least (fun vs H Q E h => ?_) (fun cdv A outer s0 H vs Q E hr h => ?_)
  · obtain ⟨r, mk, B, k, N, rfl, _⟩ := h
    rfl
  obtain ⟨r, mk, B, k, N, rfl, hR, hM, O, q⟩ := h
  have hn40 := O.n40
  have hn1 := O.n1
  have hk3 := O.k3
  have two : ∀ n, n ≤ 10 → n ≤ sizeLine := fun n h => Nat.le_of_lt (small1000 (by omega))
  refine ⟨_, (pss_cons (ps_set (i := 2) sc_law_least.nd rfl (Or.inr rfl) (C_law_classes.call hr (by rfl) (pa_cons (pv 1) pa_nil))) (pss_cons (ps_while PassesOwn.never (pt_val pe_bl) (pss_cons (ps_set (i := 3) sc_law_least.nd rfl (Or.inl rfl) (C_law_classes.call hr (by rfl) (pa_cons (pe_lc (own := [("at", 5), ("row", 10)]) rfl sc_law_least.nd (pi_enum (by rfl) B0.enumerate (pa_cons (pv 0) pa_nil)) (blkOk_by (by kernel_rfl)) (fun _ _ _ _ _ => (g_tup K 2 (pgs_cons (pg_name (i := 5) sc_law_least.nd rfl (Or.inl rfl)) (pgs_cons (pg_name (i := 10) sc_law_least.nd rfl (Or.inl rfl)) pgs_nil)))) (fun _ _ _ _ _ => pts_nil) (fun _ _ _ _ _ => (pe_tup (pa_cons (p_ixl K (pv 2) (pv 5)) (pa_cons (pe_lc (own := [("there", 6)]) rfl sc_law_least.nd (p_list K (pv 10)) (blkOk_by (by kernel_rfl)) (fun _ _ _ _ _ => (pg_name (i := 6) sc_law_least.nd rfl (Or.inl rfl))) (fun _ _ _ _ _ => pts_nil) (fun _ _ _ _ _ => (p_ixl K (pv 2) (pv 6)))) pa_nil))))) pa_nil))) (pss_cons (ps_if (pt_cmpR op_eq (pe_callB (c_max K) (by rfl) B0.max bt_max (pa_cons (pv 3) pa_nil)) (pe_callB (c_max K) (by rfl) B0.max bt_max (pa_cons (pv 2) pa_nil)) (nomark _)) (pss_one ps_break) pss_nil) (pss_one (ps_set (i := 2) sc_law_least.nd rfl (Or.inr rfl) (pv 3)))))) (pss_cons (ps_par (i := 4) (j := 5) rfl sc_law_least.nd rfl rfl (by decide) rfl rfl (pa_cons (pe_lst (pa_cons pe_int pa_nil)) (pa_cons pe_int pa_nil)) (by rfl)) (pss_cons (ps_while PassesOwn.never (pt_cmpR op_lt (pv 5) (pe_callB (c_len K) (by rfl) B0.len bt_len (pa_cons (pv 4) pa_nil)) (nomark _)) (pss_cons (ps_for PassesOwn.never rfl (p_list K (p_ixl K (pv 0) (p_ixl K (pv 4) (pv 5)))) (pg_name (i := 6) sc_law_least.nd rfl (Or.inl rfl)) (pss_one (ps_if (t_nin K (p_ixl K (pv 2) (pv 6)) (pe_lc (own := [("one", 9)]) rfl sc_law_least.nd (p_list K (pv 4)) (blkOk_by (by kernel_rfl)) (fun _ _ _ _ _ => (pg_name (i := 9) sc_law_least.nd rfl (Or.inl rfl))) (fun _ _ _ _ _ => pts_nil) (fun _ _ _ _ _ => (p_ixl K (pv 2) (pv 9))))) (pss_one (ps_expr (p_app K (pv 4) (pa_cons (pv 6) pa_nil)))) pss_nil))) (pss_one (ps_set (i := 5) sc_law_least.nd rfl (Or.inl rfl) (pe_op op_add (pv 5) pe_int))))) (pss_cons (ps_set (i := 7) sc_law_least.nd rfl (Or.inr rfl) (pe_lc (own := [("one", 9)]) rfl sc_law_least.nd (p_list K (pv 4)) (blkOk_by (by kernel_rfl)) (fun _ _ _ _ _ => (pg_name (i := 9) sc_law_least.nd rfl (Or.inl rfl))) (fun _ _ _ _ _ => pts_nil) (fun _ _ _ _ _ => (p_ixl K (pv 2) (pv 9))))) (pss_cons (ps_set (i := 8) sc_law_least.nd rfl (Or.inl rfl) (pe_callTy (c_tup K) (by rfl) B0.tuple bt_tuple (pa_cons (pe_lc (own := [("one", 9)]) rfl sc_law_least.nd (p_list K (pv 4)) (blkOk_by (by kernel_rfl)) (fun _ _ _ _ _ => (pg_name (i := 9) sc_law_least.nd rfl (Or.inl rfl))) (fun _ _ _ _ _ => pts_nil) (fun _ _ _ _ _ => (pe_callTy (c_tup K) (by rfl) B0.tuple bt_tuple (pa_cons (pe_lc (own := [("there", 6)]) rfl sc_law_least.nd (p_list K (p_ixl K (pv 0) (pv 9))) (blkOk_by (by kernel_rfl)) (fun _ _ _ _ _ => (pg_name (i := 6) sc_law_least.nd rfl (Or.inl rfl))) (fun _ _ _ _ _ => pts_nil) (fun _ _ _ _ _ => (p_lix K (pv 7) (pa_cons (p_ixl K (pv 2) (pv 6)) pa_nil)))) pa_nil)))) pa_nil))) (pss_one (ps_ret (pe_tup (pa_cons (pv 8) (pa_cons (pe_callTy (c_tup K) (by rfl) B0.tuple bt_tuple (pa_cons (pe_lc (own := [("one", 9)]) rfl sc_law_least.nd (p_list K (pv 4)) (blkOk_by (by kernel_rfl)) (fun _ _ _ _ _ => (pg_name (i := 9) sc_law_least.nd rfl (Or.inl rfl))) (fun _ _ _ _ _ => pts_nil) (fun _ _ _ _ _ => (p_ixl K (pv 1) (pv 9)))) pa_nil)) pa_nil))))))))))), ?_⟩
  refine ⟨_, rfl, Bool, inferInstance, PyData.bool, mk, B.ends.map V.bl, B.ends, rfl, hM, List.length_map _, by rw [O.el]; omega, eqv_bool, fun t _ => smD_bool t, fun H' _ i v t h1 h2 => ?_, fun l1 H1 s1 nl1 hl1 => ?_⟩
  · rw [List.getElem?_map, h2] at h1
    obtain rfl := Option.some.inj h1
    exact .bl t
  have K0 := Kinds.first O
  generalize clsOf B.ends = R1 at hl1 K0
  obtain ⟨M0, hM01, hM02⟩ := max_ex R1 (by rw [K0.len]; omega)
  refine ⟨fun m σ H2 => ∃ (l2 : Addr) (R : List Nat) (v3 : Option V) (M : Nat), m = N - M ∧ σ = [some (.ref r), some (.ref mk), some (.ref l2), v3, none, none, none, none, none, none, none] ∧ Same H H2 ∧ H2 l2 = some (.lst (R.map nV)) ∧ Kinds B N R ∧ M ∈ R ∧ ∀ x, x ∈ R → x ≤ M,
    ⟨_, l1, R1, none, M0, rfl, rfl, s1, hl1, K0, hM01, hM02⟩, ?_⟩
  rintro m σ H2 ⟨l2, R, v3, M, hm, rfl, s2, hl2, hK, hM1, hM2⟩
  refine ⟨true, rfl, iteT ⟨_, fun _ _ h => h, ?_⟩⟩
  obtain ⟨rs, hrs, hrsl, hrow⟩ := hR.same s2
  have hrsN : rs.length = N := by rw [hrsl, O.rl]
  have hRl : R.length = N := hK.len
  have hML := hK.max_lt hM1
  refine ⟨_, rfl, r, rs.map V.ref, rfl, SqL.of hrs, fun D nD => ?_⟩
  refine lc_it (walk_enum (K := K) (a := r) (xs := rs.map V.ref)) (fun i H3 => ∃ ts : List Addr, ts.length = i ∧ Same H2 H3 ∧ H3 D = some (.lst (ts.map V.ref)) ∧ ∀ (j : Nat) (t : Addr), ts[j]? = some t → ∃ y, y ≠ D ∧ H3 t = some (.tup [nV (kd R j), .ref y]) ∧ H3 y = some (.lst (((B.rows.getD j []).map (kd R)).map nV)))
    ⟨[], rfl, same_new nD _, upd_same, fun j t h => by simp at h⟩ (fun i H3 _ h => ?_) (fun i x H3 H4 hi q0 yl => ?_) (fun H3 q0 => ?_)
  · obtain ⟨_, _, h, _⟩ := h
    exact SqL.of (h _ _ hrs)
  · obtain ⟨ts, htl, s3, hD, hts⟩ := q0
    obtain ⟨Tp, x1, x2, rfl, nT, rfl, f1, f2⟩ := yl
    rw [List.length_map] at hi
    have hiN : i < N := by omega
    obtain rfl : V.int (i : Nat) = x1 := Option.some.inj f1
    have f2 : (rs.map V.ref)[i]? = some x2 := f2
    rw [List.getElem?_map, List.getElem?_eq_getElem hi] at f2
    obtain rfl : V.ref rs[i] = x2 := Option.some.inj f2
    have hrowi := hrow i rs[i] _ (List.getElem?_eq_getElem hi) (O.rowget hiN).2
    have s4 := same_new nT (.tup [V.int (i : Nat), V.ref rs[i]])
    have s34 := s3.trans s4
    have hri := s34 _ _ hrowi
    have hrl := (O.rowget hiN).1
    refine ⟨Tp, _, rfl, SqT.new, rfl, _, _, rfl, _, _, rfl, rfl, rfl, tYes_if ⟨_, rfl, _, rfl, l2, _, _, _, rfl, rfl, SqL.of (s34 _ _ hl2), at_kd (by omega), _, rfl, rs[i], rfl, ⟨_, SqL.of hri⟩, fun D2 nD2 => ?_⟩⟩
    refine lc_map (walk_list (K := K) (a := rs[i]) (xs := (B.rows.getD i []).map nV)) nD2 (fun x => nV (kd R ((B.rows.getD i []).getD x 0))) (by rw [List.length_map]; exact small1000 (by omega)) (fun H5 s5 => SqL.of (s5 _ _ hri)) ?_ ?_
    · rintro x v H5 H6 hx s5 ⟨rfl, hv⟩ Rr hRr
      rw [List.length_map] at hx
      have hxk : x < k := by omega
      rw [List.getElem?_map, O.stget hiN hxk] at hv
      obtain rfl : nV (B.st i x) = v := Option.some.inj hv
      have eg : (B.rows.getD i []).getD x 0 = B.st i x := rfl
      rw [eg] at hRr
      have := O.st_lt hiN hxk
      exact ⟨rfl, _, rfl, _, rfl, l2, _, _, _, rfl, rfl, SqL.of (s5 _ _ (s34 _ _ hl2)), at_kd (by omega), hRr _ (Same.refl _)⟩
    · intro H5 s5 e5
      rw [List.length_map, map_range_get (B.rows.getD i []) _ (fun t => nV (kd R t)) (fun i x hx => by rw [List.getD_eq_getElem?_getD, hx, Option.getD_some])] at e5
      refine ⟨two 2 (by decide), fun tp ntp => ?_⟩
      have hD4 := s4 _ _ hD
      have hD5 := s5 _ _ hD4
      have s6 := same_new ntp (.tup [nV (kd R i), V.ref D2])
      have hD6 := s6 _ _ hD5
      have nDD : D2 ≠ D := (ne_of_none hD4 nD2).symm
      have ntD : tp ≠ D := (ne_of_none hD5 ntp).symm
      refine ⟨_, hD6, by rw [List.length_map]; exact small1000 (by omega), ts ++ [tp], by rw [List.length_append, htl]; rfl, fun b o e => ?_, by rw [upd_same, List.map_append]; rfl, fun j t hj => ?_⟩
      · rw [upd_ne (ne_of_none e nD)]
        exact s6 _ _ (s5 _ _ (s34 _ _ e))
      · by_cases hlt : j < ts.length
        · rw [List.getElem?_append_left hlt] at hj
          obtain ⟨y, k1, k2, k3⟩ := hts j t hj
          refine ⟨y, k1, ?_, ?_⟩
          · rw [upd_ne (ne_of k2 hD fun z => nomatch z)]
            exact s6 _ _ (s5 _ _ (s4 _ _ k2))
          · rw [upd_ne k1]
            exact s6 _ _ (s5 _ _ (s4 _ _ k3))
        · rw [List.getElem?_append_right (by omega)] at hj
          have hz : j - ts.length = 0 := by
            have := (List.getElem?_eq_some_iff.mp hj).1
            simp at this
            omega
          rw [hz] at hj
          obtain rfl : tp = t := by simpa using hj
          have hji : j = i := by omega
          subst hji
          refine ⟨D2, nDD, ?_, ?_⟩
          · rw [upd_ne ntD]
            exact upd_same
          · rw [upd_ne nDD, s6 _ _ e5, List.map_map]
            rfl
  obtain ⟨ts, htl, s3, hD, hts⟩ := q0
  rw [List.length_map] at htl
  have hpl : (pairsOf B N R).length = N := by unfold pairsOf; rw [List.length_map, List.length_range]
  refine ⟨Nat × List Nat, inferInstance, dPr, D, ts.map V.ref, pairsOf B N R, rfl, hD, by rw [List.length_map, hpl]; omega, by omega, eqv_dPr, fun t _ => smD_dPr t, fun H4 s4 i v t h1 h2 => ?_, fun l3 H4 s4 nl3 hl3 => ?_⟩
  · have hil : i < N := by
      have := (List.getElem?_eq_some_iff.mp h2).1
      omega
    unfold pairsOf at h2
    rw [List.getElem?_map, List.getElem?_range hil] at h2
    obtain rfl := Option.some.inj h2
    rw [List.getElem?_map] at h1
    cases e : ts[i]? with
    | none =>
      rw [e] at h1
      cases h1
    | some t =>
      rw [e] at h1
      obtain rfl : V.ref t = v := Option.some.inj h1
      obtain ⟨y, _, k2, k3⟩ := hts i t e
      exact .tup (.inl (.inl (s4 _ _ k2))) (.cons (.int _) (.cons (dp_dIs (SqL.of (s4 _ _ k3))) .nil))
  have s24 := s2.trans (s3.trans s4)
  have hl24 := s4 _ _ (s3 _ _ hl2)
  have K2 := hK.next O
  have hSl : (clsOf (pairsOf B N R)).length = N := K2.len
  refine ⟨_, rfl, l3, (clsOf (pairsOf B N R)).map fun i => ((i : Nat) : Int), rfl, SqL.of (by rw [hl3, List.map_map]; rfl), by rw [List.length_map]; omega, fun m3 h3 h3x => ?_⟩
  refine ⟨_, rfl, l2, R.map fun i => ((i : Nat) : Int), rfl, SqL.of (by rw [hl24, List.map_map]; rfl), by rw [List.length_map]; omega, fun m2 h2 h2x => ?_⟩
  obtain ⟨M3, rfl, hM31, hM32⟩ := max_some (by omega) h3 h3x
  obtain ⟨M2, rfl, hM21, hM22⟩ := max_some (by omega) h2 h2x
  have hMM : M2 = M := Nat.le_antisymm (hM2 _ hM21) (hM22 _ hM1)
  subst hMM
  refine ⟨rfl, _, rfl, ite2 (fun c => ?_) (fun c => ?_)⟩
  rotate_left
  · have c : M3 ≠ M2 := fun z => c (decide_eq_true (by rw [z]))
    have := Kinds.grow O hK hM1 hM2 hM31 hM32
    exact ⟨_, rfl, N - M3, by omega, l3, _, _, M3, rfl, rfl, s24, hl3, K2, hM31, hM32⟩
  have c := V.int.inj (of_decide_eq_true c)
  have hM3 : M3 = M2 := by omega
  subst hM3
  have cong := Kinds.stop O hK hM1 hM2 hM31 hM32
  clear hts hD htl hM31 hM32 hM21 hM22 h2 h2x h3 h3x K2 hSl
  -- order, at = [0], 0
  obtain ⟨rs4, hrs4, hrsl4, hrow4⟩ := hR.same s24
  have hm4 := s24 _ _ hM
  refine ⟨two 1 (by decide), fun lo nlo => ⟨_, _, rfl, ?_⟩⟩
  have s5 := same_new nlo (.lst [nV 0])
  have s25 := s24.trans s5
  have hO0 : OrderF B k N R [0] (fun i l => i < 0 ∧ l < k) := ⟨⟨rfl, fun x hx => by rw [List.mem_singleton.mp hx]; omega, by simp, fun i x h0 hi => by
    have := (List.getElem?_eq_some_iff.mp hi).1
    simp at this
    omega, fun i x l h => by omega⟩, fun m s2 h0 hm => by
    have := (List.getElem?_eq_some_iff.mp hm).1
    simp at this
    omega, fun m i l s s1 h => by omega⟩
  have nlo0 : H lo = none := s24.free nlo
  refine ⟨fun m σ H5 => ∃ (at' : Nat) (Od : List Nat) (v6 : Option V), m = N - at' ∧ at' ≤ Od.length ∧ σ = [some (.ref r), some (.ref mk), some (.ref l2), some (.ref l3), some (.ref lo), some (nV at'), v6, none, none, none, none] ∧ Same H H5 ∧ H5 l2 = some (.lst (R.map nV)) ∧ H5 lo = some (.lst (Od.map nV)) ∧ OrderF B k N R Od fun i l => i < at' ∧ l < k,
    ⟨_, 0, [0], none, rfl, Nat.zero_le _, rfl, s25, s5 _ _ hl24, upd_same, hO0⟩, ?_⟩
  rintro m5 σ H5 ⟨at', Od, v6, hm5, hat, rfl, s50, hl5, hlo, hO⟩
  have hOl := hO.len
  -- a helper: [kinds[one] for one in order]
  have kl : ∀ (H6 : Hp) (D : Addr) (Od : List Nat) (Qd : Hp → Prop) (s3 s4 s5 s6 s7 s8 s9 s10 : Option V), H6 l2 = some (.lst (R.map nV)) → H6 lo = some (.lst (Od.map nV)) → Od.length ≤ N → (∀ s, s ∈ Od → s < N) → H6 D = none → (∀ H7, Same H6 H7 → H7 D = some (.lst ((Od.map (kd R)).map nV)) → Qd H7) →
      ∃ W : Nat → Nat → Hp → Prop, (∃ m, W 0 m (upd H6 D (.lst []))) ∧ ∀ i m H, W i m H → ((Itl K lo).stop i H ∧ Qd H) ∨ ((Itl K lo).go i H ∧ ∃ Nx : Hp → Prop, (∀ H', Nx H' → ∃ m', m' < m ∧ W (i + 1) m' H') ∧ ∀ x H', (Itl K lo).yld i H x H' →
        gName 9 x (wipe [some (.ref r), some (.ref mk), some (.ref l2), s3, s4, s5, s6, s7, s8, s9, s10] [9]) H' fun σ2 H2 => wipe σ2 [9] = wipe [some (.ref r), some (.ref mk), some (.ref l2), s3, s4, s5, s6, s7, s8, s9, s10] [9] ∧ tYes σ2 H2 fun b H3 =>
          if b = true then tOp (rIxL K) (tVar 2) (tVar 9) σ2 H3 fun y H4 => ∃ acc, H4 D = some (.lst acc) ∧ acc.length < sizeLine ∧ Nx (upd H4 D (.lst (acc ++ [y]))) else Nx H3) := by
    intro H6 D Od Qd s3 s4 s5 s6 s7 s8 s9 s10 h1 h2 h3 h4 nD qd
    refine lc_map (walk_list (K := K) (a := lo) (xs := Od.map nV)) nD (fun x => nV (kd R (Od.getD x 0))) (by rw [List.length_map]; exact small1000 (by omega)) (fun H7 s7 => SqL.of (s7 _ _ h2)) ?_ ?_
    · rintro x v H7 H8 hx s7 ⟨rfl, hv⟩ Rr hRr
      rw [List.length_map] at hx
      rw [List.getElem?_map, List.getElem?_eq_getElem hx] at hv
      obtain rfl : nV Od[x] = v := Option.some.inj hv
      have eg : Od.getD x 0 = Od[x] := by rw [List.getD_eq_getElem?_getD, List.getElem?_eq_getElem hx, Option.getD_some]
      rw [eg] at hRr
      have := h4 _ (List.getElem_mem hx)
      exact ⟨rfl, _, rfl, _, rfl, l2, _, _, _, rfl, rfl, SqL.of (s7 _ _ h1), at_kd (by omega), hRr _ (Same.refl _)⟩
    · intro H7 s7 e7
      refine qd H7 s7 ?_
      rw [e7, List.length_map, map_range_get Od _ (fun t => nV (kd R t)) (fun i x hx => by rw [List.getD_eq_getElem?_getD, hx, Option.getD_some]), List.map_map]
      rfl
  refine ⟨_, rfl, _, rfl, lo, _, rfl, .inl (SqL.of hlo), _, _, rfl, rfl, _, rfl, ite2 (fun c => ?_) (fun c => ?_)⟩
  · have c := of_decide_eq_true c
    rw [List.length_map] at c
    have hatl : at' < Od.length := by omega
    have hOat : Od[at']? = some Od[at'] := List.getElem?_eq_getElem hatl
    have hsN := hO.lt _ (List.getElem_mem hatl)
    obtain ⟨rs5, a5, hrs5, hrsl5, hra5, ha5⟩ := (hR.same s50).get O hsN
    have hOatV : atI (Od.map nV) ((at' : Nat) : Int) = some (nV Od[at']) := atI_nat (by rw [List.getElem?_map, hOat]; rfl)
    have nlr : a5 ≠ lo := by
      rintro rfl
      obtain ⟨rsH, aH, hrsH, hrslH, hraH, haH⟩ := hR.get O hsN
      have e1 := s50 _ _ hrsH
      rw [hrs5] at e1
      have e2 : rs5.map V.ref = rsH.map V.ref := HO.lst.inj (Option.some.inj e1)
      rw [e2, hraH] at hra5
      have e3 : aH = a5 := V.ref.inj (Option.some.inj hra5)
      rw [e3, nlo0] at haH
      cases haH
    have hrl := (O.rowget hsN).1
    refine ⟨_, fun _ _ h => h, ?_⟩
    refine ⟨_, rfl, _, rfl, _, rfl, lo, _, _, _, rfl, rfl, SqL.of hlo, hOatV, r, _, _, _, rfl, rfl, SqL.of hrs5, atI_nat hra5, a5, rfl, ⟨_, SqL.of ha5⟩, ?_⟩
    refine for_list (K := K) (a := a5) (xs := (B.rows.getD Od[at'] []).map nV) (fun l σ H6 => ∃ (Od' : List Nat) (v6 : Option V), l ≤ k ∧ at' < Od'.length ∧ Od'[at']? = some Od[at'] ∧ σ = [some (.ref r), some (.ref mk), some (.ref l2), some (.ref l3), some (.ref lo), some (nV at'), v6, none, none, none, none] ∧ But lo H5 H6 ∧ H6 lo = some (.lst (Od'.map nV)) ∧
        OrderF B k N R Od' fun i l' => (i < at' ∧ l' < k) ∨ (i = at' ∧ l' < l))
      ⟨Od, v6, Nat.zero_le _, hatl, hOat, rfl, But.refl, hlo, hO.mono (fun i l => by omega)⟩ (fun l σ H6 _ h => ?_) ?_ ?_
    · obtain ⟨_, _, _, _, _, _, b6, _⟩ := h
      exact SqL.of (b6 _ _ nlr ha5)
    · rintro l x σ H6 hx ⟨Od', v6, hlk, hat', hOat', rfl, b6, hlo6, hO'⟩
      have hlk' : l < k := by
        have := (List.getElem?_eq_some_iff.mp hx).1
        rw [List.length_map] at this
        omega
      rw [List.getElem?_map, O.stget hsN hlk'] at hx
      obtain rfl : nV (B.st Od[at'] l) = x := Option.some.inj hx
      have hstN := O.st_lt hsN hlk'
      have nl2 : l2 ≠ lo := ne_of_none hl24 nlo
      have hl26 := b6 _ _ nl2 hl5
      refine ⟨_, rfl, _, rfl, l2, _, _, _, rfl, rfl, SqL.of hl26, at_kd (by omega), _, rfl, lo, rfl, ⟨_, SqL.of hlo6⟩, fun D nD => ?_⟩
      refine kl H6 D Od' _ _ _ _ _ _ _ _ _ hl26 hlo6 hO'.len hO'.lt nD fun H7 s7 e7 => ?_
      refine ⟨D, _, rfl, .inl (SqL.of e7), rfl, flat_nV _, !decide (kd R (B.st Od[at'] l) ∈ Od'.map (kd R)), congrArg (fun z => V.bl (!z)) (inV_nV _ _), ?_⟩
      have hcl : ∀ i l', ((i < at' ∧ l' < k) ∨ (i = at' ∧ l' < l)) → i < Od'.length := fun i l' h => by omega
      have b7 := b6.same s7
      have hlo7 := s7 _ _ hlo6
      by_cases hin : kd R (B.st Od[at'] l) ∈ Od'.map (kd R)
      · rw [decide_eq_true hin]
        exact iteF ⟨Od', _, hlk', hat', hOat', rfl, b7, hlo7, hO'.ext hOat' hin (fun i l' => by omega) (fun i l' h => by omega)⟩
      · rw [decide_eq_false hin]
        have hOl' := hO'.len
        refine iteT ⟨_, rfl, .inl ⟨rfl, _, SqL.of hlo7⟩, _, rfl, lo, _, _, rfl, rfl, hlo7, by rw [List.length_map]; exact small1000 (by omega), ?_⟩
        refine ⟨Od' ++ [B.st Od[at'] l], _, hlk', by rw [List.length_append]; omega, by rw [List.getElem?_append_left hat']; exact hOat', rfl, fun b o hb e => ?_, by rw [upd_same, List.map_append]; rfl, ?_⟩
        · rw [upd_ne hb]
          exact b7 _ _ hb e
        · exact hO'.add hcl hOat' hlk' rfl hstN hin (fun i l' => by omega) (fun i l' h => by omega)
    · rintro σ H6 ⟨Od', v6, _, hat', hOat', rfl, b6, hlo6, hO'⟩
      rw [List.length_map, hrl] at hO'
      have ea : V.int (((at' : Nat) : Int) + 1) = nV (at' + 1) := congrArg V.int (by omega)
      have hO2 := hO'.len
      refine ⟨_, rfl, _, _, rfl, rfl, N - (at' + 1), by omega, at' + 1, Od', v6, rfl, hat', by rw [← ea]; rfl, fun b o e => b6 _ _ (ne_of_none e nlo0) (s50 _ _ e), b6 _ _ (ne_of_none hl24 nlo) hl5, hlo6, hO'.mono fun i l => by omega⟩
  · have c : ¬ ((at' : Nat) : Int) < ((Od.map nV).length : Nat) := of_decide_eq_false (Bool.eq_false_iff.mpr c)
    rw [List.length_map] at c
    have hatE : at' = Od.length := by omega
    subst hatE
    refine ⟨_, rfl, lo, rfl, ⟨_, SqL.of hlo⟩, fun D7 nD7 => ?_⟩
    refine kl H5 D7 Od _ _ _ _ _ _ _ _ _ hl5 hlo hOl hO.lt nD7 fun H6 s6 e6 => ?_
    have hlo6 := s6 _ _ hlo
    refine ⟨_, rfl, lo, rfl, ⟨_, SqL.of hlo6⟩, fun D8 nD8 => ?_⟩
    refine lc_it (walk_list (K := K) (a := lo) (xs := Od.map nV)) (fun i H7 => ∃ ts : List Addr, ts.length = i ∧ Same H6 H7 ∧ H7 D8 = some (.lst (ts.map V.ref)) ∧ ∀ (j : Nat) (t : Addr) (s : Nat), ts[j]? = some t → Od[j]? = some s → H7 t = some (.tup (((B.rows.getD s []).map fun x => (Od.map (kd R)).idxOf (kd R x)).map nV)))
      ⟨[], rfl, same_new nD8 _, upd_same, fun j t s h => by simp at h⟩ (fun i H7 _ h => ?_) (fun i x H7 H8 hi q0 yl => ?_) (fun H7 q0 => ?_)
    · obtain ⟨_, _, h, _⟩ := h
      exact SqL.of (h _ _ hlo6)
    · obtain ⟨ts, htl, s7, hD8, hts⟩ := q0
      obtain ⟨rfl, hv⟩ := yl
      rw [List.length_map] at hi
      rw [List.getElem?_map, List.getElem?_eq_getElem hi] at hv
      obtain rfl : nV Od[i] = x := Option.some.inj hv
      have hsN := hO.lt _ (List.getElem_mem hi)
      have s07 := (s50.trans s6).trans s7
      obtain ⟨rs5, a5, hrs5, hrsl5, hra5, ha5⟩ := (hR.same s07).get O hsN
      have hrl := (O.rowget hsN).1
      refine ⟨rfl, tYes_if ⟨_, rfl, _, rfl, r, _, _, _, rfl, rfl, SqL.of hrs5, atI_nat hra5, a5, rfl, ⟨_, SqL.of ha5⟩, fun D9 nD9 => ?_⟩⟩
      refine lc_map (walk_list (K := K) (a := a5) (xs := (B.rows.getD Od[i] []).map nV)) nD9 (fun x => nV ((Od.map (kd R)).idxOf (kd R ((B.rows.getD Od[i] []).getD x 0)))) (by rw [List.length_map]; exact small1000 (by omega)) (fun H9 s9 => SqL.of (s9 _ _ ha5)) ?_ ?_
      · rintro x v H9 H10 hx s9 ⟨rfl, hv⟩ Rr hRr
        rw [List.length_map] at hx
        have hxk : x < k := by omega
        rw [List.getElem?_map, O.stget hsN hxk] at hv
        obtain rfl : nV (B.st Od[i] x) = v := Option.some.inj hv
        have eg : (B.rows.getD Od[i] []).getD x 0 = B.st Od[i] x := rfl
        rw [eg] at hRr
        have hstN := O.st_lt hsN hxk
        have hm := hO.clo i _ x ⟨hi, hxk⟩ (List.getElem?_eq_getElem hi)
        have s79 := s7.trans s9
        refine ⟨rfl, _, rfl, .inl ⟨rfl, _, SqL.of (s79 _ _ e6)⟩, _, rfl, _, rfl, l2, _, _, _, rfl, rfl, SqL.of (s79 _ _ (s6 _ _ hl5)), at_kd (by omega), ?_⟩
        refine ⟨D7, (Od.map (kd R)).map nV, nV (kd R (B.st Od[i] x)), (Od.map (kd R)).idxOf (kd R (B.st Od[i] x)), nV (kd R (B.st Od[i] x)), rfl, rfl, SqL.of (s79 _ _ e6), rfl, flat_nV _, at_idx _ nV hm, by simp [eqV, nV], fun m z' hm' hz => ?_, hRr _ (Same.refl _)⟩
        have hix := List.idxOf_lt_length_of_mem hm
        have hml : m < (Od.map (kd R)).length := by omega
        rw [List.getElem?_map, List.getElem?_eq_getElem hml] at hz
        obtain rfl := Option.some.inj hz
        have hne : (Od.map (kd R))[m] ≠ kd R (B.st Od[i] x) := fun e => by
          have e2 := hO.nd.idxOf_getElem m hml
          rw [e] at e2
          omega
        show ((((Od.map (kd R))[m] : Nat) : Int) == ((kd R (B.st Od[i] x) : Nat) : Int)) = false
        exact beq_eq_false_iff_ne.mpr (by omega)
      · intro H9 s9 e9
        rw [List.length_map, map_range_get (B.rows.getD Od[i] []) _ (fun t => nV ((Od.map (kd R)).idxOf (kd R t))) (fun i x hx => by rw [List.getD_eq_getElem?_getD, hx, Option.getD_some])] at e9
        refine ⟨D9, _, rfl, SqL.of e9, fun tp ntp => ?_⟩
        have s10 := same_new ntp (.tup ((B.rows.getD Od[i] []).map fun t => nV ((Od.map (kd R)).idxOf (kd R t))))
        have hD9 := s9 _ _ hD8
        have ntD : tp ≠ D8 := (ne_of_none hD9 ntp).symm
        refine ⟨_, s10 _ _ hD9, by rw [List.length_map]; exact small1000 (by omega), ts ++ [tp], by rw [List.length_append, htl]; rfl, fun b o e => ?_, by rw [upd_same, List.map_append]; rfl, fun j t s hj hs => ?_⟩
        · rw [upd_ne (ne_of_none e nD8)]
          exact s10 _ _ (s9 _ _ (s7 _ _ e))
        · by_cases hlt : j < ts.length
          · rw [List.getElem?_append_left hlt] at hj
            have k2 := hts j t s hj hs
            rw [upd_ne (ne_of k2 hD8 fun z => nomatch z)]
            exact s10 _ _ (s9 _ _ k2)
          · rw [List.getElem?_append_right (by omega)] at hj
            have hz : j - ts.length = 0 := by
              have := (List.getElem?_eq_some_iff.mp hj).1
              simp at this
              omega
            rw [hz] at hj
            obtain rfl : tp = t := by simpa using hj
            have hji : j = i := by omega
            subst hji
            rw [List.getElem?_eq_getElem hi] at hs
            obtain rfl := Option.some.inj hs
            rw [upd_ne ntD, upd_same, List.map_map]
            rfl
    obtain ⟨ts, htl, s7, hD8, hts⟩ := q0
    rw [List.length_map] at htl
    refine ⟨D8, _, rfl, SqL.of hD8, fun t8 nt8 => ?_⟩
    have s8 := same_new nt8 (.tup (ts.map V.ref))
    have s08 := ((s50.trans s6).trans s7).trans s8
    have hlo8 := s8 _ _ (s7 _ _ hlo6)
    refine ⟨_, rfl, _, rfl, lo, rfl, ⟨_, SqL.of hlo8⟩, fun D10 nD10 => ?_⟩
    refine lc_map (walk_list (K := K) (a := lo) (xs := Od.map nV)) nD10 (fun x => .bl (B.fin (Od.getD x 0))) (by rw [List.length_map]; exact small1000 (by omega)) (fun H9 s9 => SqL.of (s9 _ _ hlo8)) ?_ ?_
    · rintro x v H9 H10 hx s9 ⟨rfl, hv⟩ Rr hRr
      rw [List.length_map] at hx
      rw [List.getElem?_map, List.getElem?_eq_getElem hx] at hv
      obtain rfl : nV Od[x] = v := Option.some.inj hv
      have eg : Od.getD x 0 = Od[x] := by rw [List.getD_eq_getElem?_getD, List.getElem?_eq_getElem hx, Option.getD_some]
      rw [eg] at hRr
      have := hO.lt _ (List.getElem_mem hx)
      exact ⟨rfl, _, rfl, _, rfl, mk, _, _, _, rfl, rfl, SqL.of (s9 _ _ (s08 _ _ hM)), at_fin0 O this, hRr _ (Same.refl _)⟩
    intro H9 s9 e9
    rw [List.length_map, map_range_get Od _ (fun t => V.bl (B.fin t)) (fun i x hx => by rw [List.getD_eq_getElem?_getD, hx, Option.getD_some])] at e9
    refine ⟨D10, _, rfl, SqL.of e9, fun t10 nt10 => ⟨two 2 (by decide), fun tt ntt => ?_⟩⟩
    have s10 := same_new nt10 (.tup (Od.map fun t => V.bl (B.fin t)))
    have s11 := same_new ntt (.tup [V.ref t8, V.ref t10])
    have s9b := (s9.trans s10).trans s11
    refine q tt t8 t10 (lessT B R Od) Od.length _ (s08.trans s9b) ⟨lessT_ok O hO.toOrder, lessT_rg O hO, lessT_min O hK cong hO.toOrder⟩ hO.len (fun w hw => lessT_acc O hK cong hO.toOrder w 0 0 0 hw O.n1 hO.z rfl) ⟨SqT.new, ⟨ts, .inl (.inl (s9b _ _ upd_same)), ?_, fun i a row h1 h2 => ?_⟩, .inl (.inl ?_)⟩
    · rw [htl]
      exact (List.length_map _).symm
    · have h2 : (Od.map fun s => (B.rows.getD s []).map fun t => (Od.map (kd R)).idxOf (kd R t))[i]? = some row := h2
      rw [List.getElem?_map] at h2
      cases e : Od[i]? with
      | none =>
        rw [e] at h2
        cases h2
      | some s =>
        rw [e] at h2
        obtain rfl := Option.some.inj h2
        exact .inl (.inl (s9b _ _ (s8 _ _ (hts i a s h1 e))))
    · rw [s11 _ _ upd_same]
      show _ = some (HO.tup ((Od.map B.fin).map V.bl))
      rw [List.map_map]
      rfl
end
end Own
namespace Own
theorem Srt.uniq {S S' : List Nat} {A : Nat → Prop} (h : Srt S A) (h' : Srt S' A) : S = S' := by
  have key : ∀ (S S' : List Nat), S.Pairwise (· < ·) → S'.Pairwise (· < ·) → (∀ x, x ∈ S ↔ x ∈ S') → S = S' := by
    intro S
    induction S with
    | nil =>
      intro S' _ _ h
      cases S' with
      | nil => rfl
      | cons b r => exact absurd ((h b).mpr List.mem_cons_self) (by simp)
    | cons a r ih =>
      intro S' h1 h2 h
      cases S' with
      | nil => exact absurd ((h a).mp List.mem_cons_self) (by simp)
      | cons b t =>
        obtain ⟨p1, p2⟩ := List.pairwise_cons.mp h1
        obtain ⟨q1, q2⟩ := List.pairwise_cons.mp h2
        have hab : a = b := by
          rcases List.mem_cons.mp ((h a).mp List.mem_cons_self) with e | e
          · exact e
          · rcases List.mem_cons.mp ((h b).mpr List.mem_cons_self) with e' | e'
            · exact e'.symm
            · have := q1 a e
              have := p1 b e'
              omega
        subst hab
        rw [ih t p2 q2 fun x => ?_]
        constructor
        · intro hx
          rcases List.mem_cons.mp ((h x).mp (List.mem_cons_of_mem _ hx)) with e | e
          · have := p1 x hx
            omega
          · exact e
        · intro hx
          rcases List.mem_cons.mp ((h x).mpr (List.mem_cons_of_mem _ hx)) with e | e
          · have := q1 x hx
            omega
          · exact e
  exact key S S' h.pw h'.pw fun x => (h.iff x).trans (h'.iff x).symm
def subs {α : Type} : List α → List (List α)
  | [] => [[]]
  | a :: r => subs r ++ (subs r).map (a :: ·)
theorem subs_length {α : Type} : ∀ l : List α, (subs l).length = 2 ^ l.length
  | [] => rfl
  | a :: r => by
    rw [subs, List.length_append, List.length_map, subs_length r, List.length_cons, Nat.pow_succ]
    omega
theorem filter_subs {α : Type} (p : α → Bool) : ∀ l : List α, l.filter p ∈ subs l
  | [] => by simp [subs]
  | a :: r => by
    rw [List.filter_cons, subs]
    split
    · exact List.mem_append_right _ (List.mem_map.mpr ⟨_, filter_subs p r, rfl⟩)
    · exact List.mem_append_left _ (filter_subs p r)
/-- a lot that is come to by some of the edges F -/
def ByMask (E F : List Edge) (S : List Nat) : Prop := ∃ m, m ∈ subs F ∧ Srt S (Cl E fun j => ∃ e, e ∈ m ∧ e.2.2 = j)
theorem lots_le {E F : List Edge} (hF : F.length ≤ 5) {Ls : List (List Nat)} (nd : Ls.Nodup) (h : ∀ S, S ∈ Ls → ByMask E F S) : Ls.length ≤ 32 := by
  classical
  let f : List Nat → List Edge := fun S => if hS : ByMask E F S then Classical.choose hS else []
  have hf : ∀ S, S ∈ Ls → f S ∈ subs F ∧ Srt S (Cl E fun j => ∃ e, e ∈ f S ∧ e.2.2 = j) := fun S hS => by
    have hb := h S hS
    have e : f S = Classical.choose hb := dif_pos hb
    rw [e]
    exact Classical.choose_spec hb
  have hnd : (Ls.map f).Nodup := by
    refine List.pairwise_map.mpr ((List.Pairwise.and_mem.mp nd).imp fun {a b} hab e => ?_)
    obtain ⟨ha, hb, hne⟩ := hab
    have h1 := (hf a ha).2
    have h2 := (hf b hb).2
    rw [e] at h1
    exact hne (h1.uniq h2)
  have := subset_length hnd fun m hm => by
    obtain ⟨S, hS, rfl⟩ := List.mem_map.mp hm
    exact (hf S hS).1
  rw [List.length_map, subs_length] at this
  have h5 : 2 ^ F.length ≤ 2 ^ 5 := Nat.pow_le_pow_right (by decide) hF
  omega
theorem step_mask {E : List Edge} {S S' : List Nat} {x : Nat} (h : Srt S' (Cl E (StepTo E S x))) : ByMask E (E.filter fun e => !e.2.1.isEmpty) S' := by
  refine ⟨_, filter_subs (fun e => decide (e.1 ∈ S) && decide (x ∈ e.2.1)) _, h.ext fun j => Cl.congr fun j => ?_⟩
  constructor
  · rintro ⟨b, s, h1, h2, h3⟩
    refine ⟨(b, s, j), List.mem_filter.mpr ⟨List.mem_filter.mpr ⟨h1, ?_⟩, ?_⟩, rfl⟩
    · cases s with
      | nil => simp at h2
      | cons a r => rfl
    · rw [Bool.and_eq_true, decide_eq_true_iff, decide_eq_true_iff]
      exact ⟨h3, h2⟩
  · rintro ⟨⟨b, s, j'⟩, h1, rfl⟩
    obtain ⟨h2, h3⟩ := List.mem_filter.mp h1
    rw [Bool.and_eq_true, decide_eq_true_iff, decide_eq_true_iff] at h3
    exact ⟨b, s, (List.mem_filter.mp h2).1, h3.2, h3.1⟩
theorem reach_nil {E : List Edge} {j : Nat} : Reach E j [] ↔ Cl E (· ∈ [0]) j := by
  constructor
  · intro h
    generalize hw : ([] : Word) = w at h
    induction h with
    | start => exact .base (List.mem_singleton.mpr rfl)
    | eps he _ ih => exact .eps he (ih hw)
    | step he ha _ _ => simp at hw
  · intro h
    induction h with
    | base h =>
      rw [List.mem_singleton.mp h]
      exact .start
    | eps he _ ih => exact .eps he ih
theorem reach_snoc {E : List Edge} {j x : Nat} {w : Word} : Reach E j (w ++ [x]) ↔ Cl E (fun j => ∃ b s, (b, s, j) ∈ E ∧ x ∈ s ∧ Reach E b w) j := by
  constructor
  · intro h
    generalize hw : w ++ [x] = u at h
    induction h with
    | start => simp at hw
    | eps he _ ih => exact .eps he (ih hw)
    | @step b l a s v he ha hr _ =>
      obtain ⟨e1, e2⟩ := List.append_inj' hw rfl
      obtain rfl : x = a := by simpa using e2
      subst e1
      exact .base ⟨b, s, he, ha, hr⟩
  · intro h
    induction h with
    | base h =>
      obtain ⟨b, s, h1, h2, h3⟩ := h
      exact .step h1 h2 h3
    | eps he _ ih => exact .eps he ih
/-- the lots and their rows -/
structure LotsOk (E : List Edge) (k : Nat) (Ls : List (List Nat)) (rows : List (List Nat)) : Prop where
  nd : Ls.Nodup
  first : ∃ S, Ls[0]? = some S ∧ Srt S (Cl E (· ∈ [0]))
  by' : ∀ (i : Nat) (S : List Nat), 0 < i → Ls[i]? = some S → ByMask E (E.filter fun e => !e.2.1.isEmpty) S
  row : ∀ (i : Nat) (r S : List Nat), rows[i]? = some r → Ls[i]? = some S → r.length = k ∧ ∀ (l x : Nat), r[l]? = some x → ∃ S', Ls[x]? = some S' ∧ Srt S' (Cl E (StepTo E S l))
theorem LotsOk.le {E : List Edge} {k : Nat} {Ls rows : List (List Nat)} (h : LotsOk E k Ls rows) (h5 : ones E ≤ 5) : Ls.length ≤ 33 := by
  cases Ls with
  | nil => simp
  | cons S r =>
    have := lots_le (E := E) (F := E.filter fun e => !e.2.1.isEmpty) h5 (List.nodup_cons.mp h.nd).2 fun S' hS' => by
      obtain ⟨i, hi⟩ := List.getElem?_of_mem hS'
      exact h.by' (i + 1) S' (Nat.succ_pos _) (by simpa using hi)
    rw [List.length_cons]
    omega
theorem LotsOk.add {E : List Edge} {k : Nat} {Ls rows : List (List Nat)} (h : LotsOk E k Ls rows) (hl : rows.length ≤ Ls.length) {S' : List Nat} (hn : S' ∉ Ls) (hb : ByMask E (E.filter fun e => !e.2.1.isEmpty) S') : LotsOk E k (Ls ++ [S']) rows := by
  have up : ∀ (i : Nat) (S : List Nat), Ls[i]? = some S → (Ls ++ [S'])[i]? = some S := fun i S e => by
    rw [List.getElem?_append_left (List.getElem?_eq_some_iff.mp e).1]
    exact e
  refine ⟨nodup_snoc h.nd hn, ?_, fun i S h0 hi => ?_, fun i r S hr hi => ?_⟩
  · obtain ⟨S, h1, h2⟩ := h.first
    exact ⟨S, up _ _ h1, h2⟩
  · by_cases hil : i < Ls.length
    · rw [List.getElem?_append_left hil] at hi
      exact h.by' i S h0 hi
    · rw [List.getElem?_append_right (by omega)] at hi
      have hz : i - Ls.length = 0 := by
        have := (List.getElem?_eq_some_iff.mp hi).1
        simp at this
        omega
      rw [hz] at hi
      obtain rfl : S' = S := by simpa using hi
      exact hb
  · have hir : i < rows.length := (List.getElem?_eq_some_iff.mp hr).1
    rw [List.getElem?_append_left (by omega)] at hi
    obtain ⟨h1, h2⟩ := h.row i r S hr hi
    refine ⟨h1, fun l x hx => ?_⟩
    obtain ⟨T, h3, h4⟩ := h2 l x hx
    exact ⟨T, up _ _ h3, h4⟩
theorem LotsOk.addRow {E : List Edge} {k : Nat} {Ls rows : List (List Nat)} (h : LotsOk E k Ls rows) {S r : List Nat} (hS : Ls[rows.length]? = some S) (hr : r.length = k) (hx : ∀ (l x : Nat), r[l]? = some x → ∃ S', Ls[x]? = some S' ∧ Srt S' (Cl E (StepTo E S l))) : LotsOk E k Ls (rows ++ [r]) := by
  refine ⟨h.nd, h.first, h.by', fun i r' T hi hT => ?_⟩
  by_cases hil : i < rows.length
  · rw [List.getElem?_append_left hil] at hi
    exact h.row i r' T hi hT
  · rw [List.getElem?_append_right (by omega)] at hi
    have hz : i - rows.length = 0 := by
      have := (List.getElem?_eq_some_iff.mp hi).1
      simp at this
      omega
    rw [hz] at hi
    obtain rfl : r = r' := by simpa using hi
    have : i = rows.length := by omega
    rw [this, hS] at hT
    obtain rfl := Option.some.inj hT
    exact ⟨hr, hx⟩
/-- the lot behind a word holds the nodes to which the word leads -/
theorem LotsOk.run {E : List Edge} {k : Nat} {Ls rows : List (List Nat)} {ends : List Bool} (h : LotsOk E k Ls rows) (hr : rows.length = Ls.length) : ∀ (n : Nat) (w : Word), w.length = n → Wd k w → ∃ S, Ls[(Tab.mk rows ends).run 0 w]? = some S ∧ Srt S (fun j => Reach E j w)
  | 0, w, hn, _ => by
    obtain rfl := List.length_eq_zero_iff.mp hn
    obtain ⟨S, h1, h2⟩ := h.first
    exact ⟨S, h1, h2.ext fun j => reach_nil.symm⟩
  | n + 1, w, hn, hw => by
    have hne : w ≠ [] := fun e => by
      rw [e] at hn
      simp at hn
    obtain ⟨v, x, rfl⟩ : ∃ v x, w = v ++ [x] := ⟨w.dropLast, w.getLast hne, (List.dropLast_concat_getLast hne).symm⟩
    obtain ⟨S, h1, h2⟩ := h.run hr (ends := ends) n v (by rw [List.length_append] at hn; simpa using hn) fun y hy => hw y (List.mem_append_left _ hy)
    have hx : x < k := hw x (List.mem_append_right _ (List.mem_singleton.mpr rfl))
    have hlt := (List.getElem?_eq_some_iff.mp h1).1
    have hrg : rows[(Tab.mk rows ends).run 0 v]? = some rows[(Tab.mk rows ends).run 0 v] := List.getElem?_eq_getElem (by omega)
    obtain ⟨hl, h3⟩ := h.row _ _ S hrg h1
    have hxl : x < rows[(Tab.mk rows ends).run 0 v].length := by omega
    obtain ⟨S', h4, h5⟩ := h3 x _ (List.getElem?_eq_getElem hxl)
    rw [Tab.run_append]
    have e : (Tab.mk rows ends).run ((Tab.mk rows ends).run 0 v) [x] = rows[(Tab.mk rows ends).run 0 v][x] := by
      show (Tab.mk rows ends).st _ x = _
      unfold Tab.st
      show ((rows.getD _ []).getD x 0) = _
      rw [List.getD_eq_getElem?_getD (l := rows), hrg, Option.getD_some, List.getD_eq_getElem?_getD, List.getElem?_eq_getElem hxl, Option.getD_some]
    rw [e]
    refine ⟨S', h4, h5.ext fun j => ?_⟩
    rw [reach_snoc]
    refine Cl.congr fun j => ?_
    constructor
    · rintro ⟨b, s, k1, k2, k3⟩
      exact ⟨b, s, k1, k2, (h2.iff b).mp k3⟩
    · rintro ⟨b, s, k1, k2, k3⟩
      exact ⟨b, s, k1, k2, (h2.iff b).mpr k3⟩
end Own
namespace Own
open PySem PySem.Spec PyProof.Rows L2
theorem Reach.sem {k : Nat} {G : Word → Prop} {wt nb late c' : Nat} {N : List Edge} (W : Wired k G wt nb 1 2 late c' N) (w : Word) : Reach ((0, [], 1) :: N) late w ↔ G w := by
  constructor
  · intro h
    obtain ⟨A', e, clo, g⟩ := W.snd fun _ w => w = []
    have z := Reach.sound (A := A') (by rw [e 0 (by omega)]) (fun x hx => by
      rcases List.mem_cons.mp hx with rfl | hx
      · refine ⟨fun _ w hw => ?_, fun a ha => by simp at ha⟩
        show A' 1 w
        have hw : A' 0 w := hw
        rw [e 0 (by omega)] at hw
        rw [e 1 (by omega)]
        exact hw
      · exact clo x hx) h
    obtain ⟨u, v, rfl, hu, hv⟩ := g w z
    rw [hu]
    exact hv
  · intro h
    exact W.cmp _ (fun e he => List.mem_cons_of_mem _ he) [] w (.eps List.mem_cons_self .start) h
/-- data: a lot -/
def dLt (S : List Nat) : PyData := .tuple [.bool false, .tuple (S.map fun i => .int (i : Nat))]
theorem eqv_dLt (S T : List Nat) : PyData.eqv (dLt S) (dLt T) = decide (S = T) := by
  unfold dLt
  rw [PyData.eqv, PyData.eqvAll, PyData.eqvAll, PyData.eqvAll]
  have h1 : PyData.eqv (.bool false) (.bool false) = true := rfl
  have h2 : PyData.eqv (.tuple (S.map fun i => .int (i : Nat))) (.tuple (T.map fun i => .int (i : Nat))) = decide (S = T) := by
    rw [PyData.eqv]
    exact eqvAll_map _ eqv_dI S T
  rw [h1, h2, Bool.and_true, Bool.true_and]
theorem smD_dLt (S : List Nat) : SmD (dLt S) := by
  unfold dLt
  have h1 := canLay_dIs S
  unfold dIs at h1
  rw [PyData.canLay0] at h1
  have h2 := depth_map (fun i : Nat => PyData.int (i : Nat)) 0 (fun x => by simp [PyData.depth]) S
  refine ⟨?_, ?_⟩
  · simp only [PyData.canLay0, PyData.canLayAll0, h1, Bool.and_true]
  · simp only [PyData.depth, PyData.depthAll]
    omega
/-- lots in the heap -/
def LotAt (H : Hp) (a : Addr) (S : List Nat) : Prop := ∃ st : Addr, H a = some (.tup [.bl false, .ref st]) ∧ H st = some (.tup (S.map nV))
theorem LotAt.same {H H' : Hp} {a : Addr} {S : List Nat} (h : LotAt H a S) (s : Same H H') : LotAt H' a S := by
  obtain ⟨st, h1, h2⟩ := h
  exact ⟨st, s _ _ h1, s _ _ h2⟩
/-- a list changes -/
theorem LotAt.upd {H : Hp} {a l : Addr} {S : List Nat} {xs : List V} {o : HO} (h : LotAt H a S) (hl : H l = some (.lst xs)) : LotAt (upd H l o) a S := by
  obtain ⟨st, h1, h2⟩ := h
  exact ⟨st, by rw [upd_ne (ne_of h1 hl fun z => nomatch z)]; exact h1, by rw [upd_ne (ne_of h2 hl fun z => nomatch z)]; exact h2⟩
theorem LotAt.dp {K : PySem.W.Frag} {H : Hp} {a : Addr} {S : List Nat} (h : LotAt H a S) : Dp K H (.ref a) (dLt S) := by
  obtain ⟨st, h1, h2⟩ := h
  exact .tup (.inl (.inl h1)) (.cons (.bl _) (.cons (.tup (.inl (.inl h2)) (dpAll_map nV (fun i => .int (i : Nat)) S fun x _ => .int _)) .nil))
/-- all that the table's loop keeps -/
structure TbS (K : PySem.W.Frag) (na el ea lo ra ma : Addr) (c late : Nat) (E : List Edge) (H : Hp) (Ls : List (List Nat)) (lt rs : List Addr) (rowsL : List (List Nat)) (ms : List Bool) : Prop where
  net : NetAt K H na el c E
  hea : H ea = some (.lst [nV late])
  hlo : H lo = some (.lst (lt.map V.ref))
  ltl : lt.length = Ls.length
  lot : ∀ (i : Nat) (a : Addr) (S : List Nat), lt[i]? = some a → Ls[i]? = some S → LotAt H a S
  hra : H ra = some (.lst (rs.map V.ref))
  rsl : rs.length = rowsL.length
  row : ∀ (i : Nat) (a : Addr) (r : List Nat), rs[i]? = some a → rowsL[i]? = some r → H a = some (.lst (r.map nV))
  rne : ∀ a, a ∈ rs → a ≠ lo ∧ a ≠ ra ∧ a ≠ ma
  hma : H ma = some (.lst (ms.map V.bl))
  ne : (na ≠ lo ∧ na ≠ ra ∧ na ≠ ma) ∧ (el ≠ lo ∧ el ≠ ra ∧ el ≠ ma) ∧ (ea ≠ lo ∧ ea ≠ ra ∧ ea ≠ ma) ∧ lo ≠ ra ∧ lo ≠ ma ∧ ra ≠ ma
section
variable {K : PySem.W.Frag} {na el ea lo ra ma : Addr} {c late : Nat} {E : List Edge} {H H' : Hp} {Ls : List (List Nat)} {lt rs : List Addr} {rowsL : List (List Nat)} {ms : List Bool}
theorem NetAt.other {x : Addr} {xs : List V} {o : HO} (h : NetAt K H na el c E) (hx : H x = some (.lst xs)) (n1 : na ≠ x) (n2 : el ≠ x) : NetAt K (upd H x o) na el c E := by
  obtain ⟨es, h1, h2, h3⟩ := h.ed
  refine ⟨by rw [upd_ne n1]; exact h.top, h.ne, es, by rw [upd_ne n2]; exact h1, h2, fun i y e q1 q2 => ?_⟩
  have bt : But x H (upd H x o) := fun b u hb e => by
    rw [upd_ne hb]
    exact e
  exact bt.tup hx (fun _ z => nomatch z) (fun _ _ z => nomatch z) (h3 i y e q1 q2)
theorem TbS.same (t : TbS K na el ea lo ra ma c late E H Ls lt rs rowsL ms) (s : Same H H') : TbS K na el ea lo ra ma c late E H' Ls lt rs rowsL ms :=
  ⟨t.net.same s, s _ _ t.hea, s _ _ t.hlo, t.ltl, fun i a S h1 h2 => (t.lot i a S h1 h2).same s, s _ _ t.hra, t.rsl, fun i a r h1 h2 => s _ _ (t.row i a r h1 h2), t.rne, s _ _ t.hma, t.ne⟩
theorem TbS.addLot (t : TbS K na el ea lo ra ma c late E H Ls lt rs rowsL ms) {a : Addr} {S : List Nat} (ha : LotAt H a S) : TbS K na el ea lo ra ma c late E (upd H lo (.lst (lt.map V.ref ++ [.ref a]))) (Ls ++ [S]) (lt ++ [a]) rs rowsL ms := by
  obtain ⟨⟨n1, n2, n3⟩, ⟨m1, m2, m3⟩, ⟨p1, p2, p3⟩, q1, q2, q3⟩ := t.ne
  refine ⟨t.net.other t.hlo n1 m1, by rw [upd_ne p1]; exact t.hea, by rw [upd_same, List.map_append]; rfl, by rw [List.length_append, List.length_append, t.ltl]; rfl, fun i b S' h1 h2 => ?_, by rw [upd_ne q1.symm]; exact t.hra, t.rsl, fun i b r h1 h2 => ?_, t.rne, by rw [upd_ne q2.symm]; exact t.hma, t.ne⟩
  · by_cases hi : i < lt.length
    · rw [List.getElem?_append_left hi] at h1
      rw [List.getElem?_append_left (by rw [← t.ltl]; exact hi)] at h2
      exact (t.lot i b S' h1 h2).upd t.hlo
    · rw [List.getElem?_append_right (by omega)] at h1
      have hz : i - lt.length = 0 := by
        have := (List.getElem?_eq_some_iff.mp h1).1
        simp at this
        omega
      rw [hz] at h1
      rw [List.getElem?_append_right (by rw [← t.ltl]; omega), ← t.ltl, hz] at h2
      obtain rfl : a = b := by simpa using h1
      obtain rfl : S = S' := by simpa using h2
      exact ha.upd t.hlo
  · rw [upd_ne (t.rne b (List.mem_of_getElem? h1)).1]
    exact t.row i b r h1 h2
theorem TbS.addMark (t : TbS K na el ea lo ra ma c late E H Ls lt rs rowsL ms) (b : Bool) : TbS K na el ea lo ra ma c late E (upd H ma (.lst (ms.map V.bl ++ [.bl b]))) Ls lt rs rowsL (ms ++ [b]) := by
  obtain ⟨⟨n1, n2, n3⟩, ⟨m1, m2, m3⟩, ⟨p1, p2, p3⟩, q1, q2, q3⟩ := t.ne
  exact ⟨t.net.other t.hma n3 m3, by rw [upd_ne p3]; exact t.hea, by rw [upd_ne q2]; exact t.hlo, t.ltl, fun i a S h1 h2 => (t.lot i a S h1 h2).upd t.hma, by rw [upd_ne q3]; exact t.hra, t.rsl, fun i a r h1 h2 => by
    rw [upd_ne (t.rne a (List.mem_of_getElem? h1)).2.2]
    exact t.row i a r h1 h2, t.rne, by rw [upd_same, List.map_append]; rfl, t.ne⟩
theorem TbS.addRow (t : TbS K na el ea lo ra ma c late E H Ls lt rs rowsL ms) {a : Addr} {r : List Nat} (ha : H a = some (.lst (r.map nV))) (hn : a ≠ lo ∧ a ≠ ra ∧ a ≠ ma) : TbS K na el ea lo ra ma c late E (upd H ra (.lst (rs.map V.ref ++ [.ref a]))) Ls lt (rs ++ [a]) (rowsL ++ [r]) ms := by
  obtain ⟨⟨n1, n2, n3⟩, ⟨m1, m2, m3⟩, ⟨p1, p2, p3⟩, q1, q2, q3⟩ := t.ne
  refine ⟨t.net.other t.hra n2 m2, by rw [upd_ne p2]; exact t.hea, by rw [upd_ne q1]; exact t.hlo, t.ltl, fun i b S h1 h2 => (t.lot i b S h1 h2).upd t.hra, by rw [upd_same, List.map_append]; rfl, by rw [List.length_append, List.length_append, t.rsl]; rfl, fun i b r' h1 h2 => ?_, fun b hb => ?_, by rw [upd_ne q3.symm]; exact t.hma, t.ne⟩
  · by_cases hi : i < rs.length
    · rw [List.getElem?_append_left hi] at h1
      rw [List.getElem?_append_left (by rw [← t.rsl]; exact hi)] at h2
      rw [upd_ne (t.rne b (List.mem_of_getElem? h1)).2.1]
      exact t.row i b r' h1 h2
    · rw [List.getElem?_append_right (by omega)] at h1
      have hz : i - rs.length = 0 := by
        have := (List.getElem?_eq_some_iff.mp h1).1
        simp at this
        omega
      rw [hz] at h1
      rw [List.getElem?_append_right (by rw [← t.rsl]; omega), ← t.rsl, hz] at h2
      obtain rfl : a = b := by simpa using h1
      obtain rfl : r = r' := by simpa using h2
      rw [upd_ne hn.2.1]
      exact ha
  · rcases List.mem_append.mp hb with q | q
    · exact t.rne b q
    · rw [List.mem_singleton.mp q]
      exact hn
/-- another list changes -/
theorem TbS.other (t : TbS K na el ea lo ra ma c late E H Ls lt rs rowsL ms) {x : Addr} {xs : List V} (hx : H x = some (.lst xs)) (o : HO) (hn : na ≠ x ∧ el ≠ x ∧ ea ≠ x ∧ lo ≠ x ∧ ra ≠ x ∧ ma ≠ x) (hr : x ∉ rs) : TbS K na el ea lo ra ma c late E (upd H x o) Ls lt rs rowsL ms := by
  obtain ⟨n1, n2, n3, n4, n5, n6⟩ := hn
  exact ⟨t.net.other hx n1 n2, by rw [upd_ne n3]; exact t.hea, by rw [upd_ne n4]; exact t.hlo, t.ltl, fun i b S h1 h2 => (t.lot i b S h1 h2).upd hx, by rw [upd_ne n5]; exact t.hra, t.rsl, fun i b r h1 h2 => by
    rw [upd_ne (fun z => hr (by rw [← z]; exact List.mem_of_getElem? h1))]
    exact t.row i b r h1 h2, t.rne, by rw [upd_ne n6]; exact t.hma, t.ne⟩
end
section
variable {P : Program} {w : World} {K : PySem.W.Frag} {mg : Str → Option Value} {base : Heap}
abbrev s_law_table : Stmt := topS 48
theorem sc_law_table : FnScope ["size", "patterns", "is_rules", "net", "ends", "pattern", "begin", "lots", "rows", "marks", "is_begun", "nodes", "some", "row", "letter", "late", "number", "end"] ["size", "patterns", "is_rules"] (defScope s_law_table) := ⟨rfl, rfl, rfl, by decide +kernel, rfl, by decide +kernel, by decide +kernel⟩
def sp_law_table (K : PySem.W.Frag) : Sp := fun vs H Q _ => ∃ (pl x : Addr) (p : Pat) (k : Nat), vs = [nV k, .ref pl, .bl false] ∧ H pl = some (.lst [.ref x]) ∧ PatAt K H p x ∧ p.Ok k ∧ 1 ≤ k ∧ k ≤ 3 ∧ p.depth < 4 ∧ p.wt ≤ 5 ∧ p.nb ≤ 1000 ∧
  ∀ (t r e : Addr) (T : Tab) (n : Nat) (H' : Hp), Same H H' → Canon T k n → (∀ w, Wd k w → (T.acc 0 w = true ↔ L p w)) → TabAt K H' t r e T → Q (.ref t) H'
theorem ok_law_table {f : Addr} {fd : FuncData} (F : Fun K "_law_table" "_law_table" s_law_table f fd) (B : Bt mg) (C_law_node : Got P w K mg base CX0 1 "_law_node" ["net"] (sp_law_node K)) (C_law_wire : Got P w K mg base CX0 9 "_law_wire" ["net", "pattern", "begin"] (sp_law_wire K 4))
    (C_law_still : Got P w K mg base CX0 1 "_law_still" ["net", "nodes"] (sp_law_still K)) (C_law_step : Got P w K mg base CX0 2 "_law_step" ["net", "nodes", "letter"] (sp_law_step K)) (C_law_least : Got P w K mg base CX0 2 "_law_least" ["rows", "marks"] (sp_law_least K)) :
    FnOk P w K mg base CX0 10 f fd ["size", "patterns", "is_rules"] (sp_law_table K) := by
  refine F.ok sc_law_table (fun vs H Q E h => ?_) (fun cdv A outer s0 H vs Q E hr h => ?_)
  · obtain ⟨pl, x, p, k, rfl, _⟩ := h
    rfl
  obtain ⟨pl, x, p, k, rfl, hpl, pt, ok, hk1, hk3, dp, hwt, hnb, q⟩ := h
  have hr1 : Room 1 _ := hr.mono (by decide)
  have hr2 : Room 2 _ := hr.mono (by decide)
  have hu65 := hu65_of hr
  have two : ∀ n, n ≤ 10 → n ≤ sizeLine := fun n h => Nat.le_of_lt (small1000 (by omega))
  refine ⟨_, (pss_cons (ps_par (i := 3) (j := 4) rfl sc_law_table.nd rfl rfl (by decide) rfl rfl (pa_cons (pe_lst (pa_cons pe_int (pa_cons (pe_lst pa_nil) pa_nil))) (pa_cons (pe_lst pa_nil) pa_nil)) (by rfl)) (pss_cons (ps_for PassesOwn.never rfl (p_list K (pv 1)) (pg_name (i := 5) sc_law_table.nd rfl (Or.inl rfl)) (pss_cons (ps_set (i := 6) sc_law_table.nd rfl (Or.inl rfl) (C_law_node.call hr1 (by rfl) (pa_cons (pv 3) pa_nil))) (pss_cons (ps_expr (p_app K (p_ixl K (pv 3) pe_int) (pa_cons (pe_tup (pa_cons pe_int (pa_cons pe_str (pa_cons (pv 6) pa_nil)))) pa_nil))) (pss_one (ps_expr (p_app K (pv 4) (pa_cons (C_law_wire.call hr (by rfl) (pa_cons (pv 3) (pa_cons (pv 5) (pa_cons (pv 6) pa_nil)))) pa_nil))))))) (pss_cons (ps_par3 (i := 7) (j := 8) (l := 9) rfl sc_law_table.nd rfl rfl rfl (by decide) (by decide) (by decide) rfl rfl rfl (pa_cons (pe_lst (pa_cons (pe_tup (pa_cons pe_bl (pa_cons (C_law_still.call hr1 (by rfl) (pa_cons (pv 3) (pa_cons (pe_lst (pa_cons pe_int pa_nil)) pa_nil))) pa_nil))) pa_nil)) (pa_cons (pe_lst pa_nil) (pa_cons (pe_lst pa_nil) pa_nil))) (by rfl)) (pss_cons (ps_while PassesOwn.never (pt_cmpR op_lt (pe_callB (c_len K) (by rfl) B.len bt_len (pa_cons (pv 8) pa_nil)) (pe_callB (c_len K) (by rfl) B.len bt_len (pa_cons (pv 7) pa_nil)) (nomark _)) (pss_cons (ps_asg (p_ixl K (pv 7) (pe_callB (c_len K) (by rfl) B.len bt_len (pa_cons (pv 8) pa_nil))) (g_tup K 2 (pgs_cons (pg_name (i := 10) sc_law_table.nd rfl (Or.inl rfl)) (pgs_cons (pg_name (i := 11) sc_law_table.nd rfl (Or.inr rfl)) pgs_nil)))) (pss_cons (ps_setLc (i := 12) (own := [("number", 16), ("end", 17)]) rfl sc_law_table.nd rfl rfl (sw_true rfl rfl rfl (by decide +kernel)) (pi_enum (by rfl) B.enumerate (pa_cons (pv 4) pa_nil)) (blkOk_by (by kernel_rfl)) (fun _ _ _ _ _ => (g_tup K 2 (pgs_cons (pg_name (i := 16) sc_law_table.nd rfl (Or.inl rfl)) (pgs_cons (pg_name (i := 17) sc_law_table.nd rfl (Or.inl rfl)) pgs_nil)))) (fun _ _ _ _ _ => (pts_one (t_in K (pv 17) (pv 11)))) (fun _ _ _ _ _ => (pv 16))) (pss_cons (ps_if (p_tru K (pv 2)) (pss_one (ps_expr (p_app K (pv 9) (pa_cons (pe_ifExp (PW.pt (pw_and (p_tru K (pv 10)) (pw_and1 (pt_cmpR (op_neD hr.units) (pv 12) (pe_lst pa_nil) (nomark _))))) (p_ixl K (pv 12) pe_int) pe_non) pa_nil)))) (pss_one (ps_expr (p_app K (pv 9) (pa_cons (pe_cmpR (op_neD hr.units) (pv 12) (pe_lst pa_nil) (nomark _)) pa_nil))))) (pss_cons (ps_set (i := 13) sc_law_table.nd rfl (Or.inl rfl) (pe_lst pa_nil)) (pss_cons (ps_for PassesOwn.never rfl (pi_str (pe_slice sl_str pe_str po_none (po_some (pv 0)))) (pg_name (i := 14) sc_law_table.nd rfl (Or.inl rfl)) (pss_cons (ps_set (i := 15) sc_law_table.nd rfl (Or.inl rfl) (pe_tup (pa_cons (pv 2) (pa_cons (C_law_step.call hr2 (by rfl) (pa_cons (pv 3) (pa_cons (pv 11) (pa_cons (pv 14) pa_nil)))) pa_nil)))) (pss_cons (ps_if (t_ninD K hu65 (pv 15) (pv 7)) (pss_one (ps_expr (p_app K (pv 7) (pa_cons (pv 15) pa_nil)))) pss_nil) (pss_one (ps_expr (p_app K (pv 13) (pa_cons (p_lixD K hu65 (pv 7) (pa_cons (pv 15) pa_nil)) pa_nil))))))) (pss_one (ps_expr (p_app K (pv 8) (pa_cons (pv 13) pa_nil)))))))))) (pss_one (ps_ret (C_law_least.call hr2 (by rfl) (pa_cons (pv 8) (pa_cons (pv 9) pa_nil))))))))), ?_⟩
  rw [empty_eq]
  -- net, ends = [1, []], []
  refine ⟨two 0 (by decide), fun el nel => ⟨two 2 (by decide), fun na nna => ⟨two 0 (by decide), fun ea nea => ⟨_, _, rfl, ?_⟩⟩⟩⟩
  have s1 := same_new nel (.lst [])
  have s2 := same_new nna (.lst [V.int 1, V.ref el])
  have s3 := same_new nea (.lst [])
  have s13 := (s1.trans s2).trans s3
  have nel_na : el ≠ na := ne_of_none (show (upd H el (.lst [])) el = some (.lst []) from upd_same) nna
  have N0 : NetAt K (upd (upd (upd H el (.lst [])) na (.lst [V.int 1, V.ref el])) ea (.lst [])) na el 1 [] := by
    refine ⟨s3 _ _ upd_same, nel_na, [], s3 _ _ (s2 _ _ upd_same), rfl, fun i x e h => by simp at h⟩
  have hea0 : (upd (upd (upd H el (.lst [])) na (.lst [V.int 1, V.ref el])) ea (.lst [])) ea = some (.lst []) := upd_same
  have nea_na : ea ≠ na := fun z => by
    rw [z] at nea
    rw [upd_same] at nea
    cases nea
  have nea_el : ea ≠ el := fun z => by
    rw [z, upd_ne nel_na, upd_same] at nea
    cases nea
  have hpl0 := s13 _ _ hpl
  have pt0 := pt.same s13
  have nel0 : H el = none := nel
  have nna0 : H na = none := s1.free nna
  have nea0 : H ea = none := (s1.trans s2).free nea
  generalize upd (upd (upd H el (.lst [])) na (.lst [V.int 1, V.ref el])) ea (.lst []) = H0 at *
  refine ⟨_, rfl, pl, rfl, ⟨_, SqL.of hpl0⟩, ?_⟩
  refine for_list (K := K) (a := pl) (xs := [V.ref x]) (fun i σ H1 => ∃ (v5 v6 : Option V), σ = [some (nV k), some (.ref pl), some (.bl false), some (.ref na), some (.ref ea), v5, v6, none, none, none, none, none, none, none, none, none, none, none] ∧ Same H H1 ∧
      ((i = 0 ∧ H1 = H0) ∨ (i = 1 ∧ ∃ (late c' : Nat) (N : List Edge), Wired k (L p) p.wt p.nb 1 2 late c' N ∧ NetAt K H1 na el c' ([(0, [], 1)] ++ N) ∧ H1 ea = some (.lst [nV late]))))
    ⟨none, none, rfl, s13, .inl ⟨rfl, rfl⟩⟩ (fun i σ H1 _ h => ?_) ?_ ?_
  · obtain ⟨_, _, _, h, _⟩ := h
    exact SqL.of (h _ _ hpl)
  · rintro i v σ H1 hx ⟨v5, v6, rfl, sH1, hcase⟩
    rcases hcase with ⟨rfl, hH1⟩ | ⟨rfl, _⟩
    rotate_left
    · simp at hx
    subst hH1
    obtain rfl : V.ref x = v := by simpa using hx
    refine ⟨_, rfl, na, el, 1, [], rfl, N0, fun H2 b2 N2 => ?_⟩
    obtain ⟨es, he, hel⟩ := N2.len
    refine ⟨_, rfl, na, _, _, _, rfl, rfl, SqL.of N2.top, at1, .inl ⟨rfl, _, SqL.of he⟩, _, rfl, two 3 (by decide), fun tp ntp => ?_⟩
    refine ⟨el, _, _, rfl, rfl, same_new ntp _ _ _ he, by rw [List.length_map, hel]; exact small1000 (by simp), ?_⟩
    obtain ⟨N3, b3⟩ := N2.app he ntp (0, [], 1)
    have hea3 := b3 _ _ nea_na nea_el (b2 _ _ nea_na nea_el hea0)
    refine ⟨_, rfl, .inl ⟨rfl, _, SqL.of hea3⟩, _, rfl, _, rfl, _, rfl, na, el, x, 2, _, p, 1, k, rfl, N3, pt0.mono (fun y ys h => N0.tups (b2.trans b3) y ys h), ok, hk3, dp, by decide, by simp only [List.length_append, List.length_cons, List.length_nil]; omega, fun late c' N H4 W b4 N4 => ?_⟩
    have hea4 := b4 _ _ nea_na nea_el hea3
    refine ⟨ea, _, _, rfl, rfl, hea4, (show 0 < sizeLine by decide), _, _, rfl, fun b o e => ?_, .inr ⟨rfl, late, c', N, W, ?_, by rw [upd_same]; rfl⟩⟩
    · have h1 := sH1 _ _ e
      rw [upd_ne (ne_of_none e nea0)]
      exact ((b2.trans b3).trans b4) _ _ (ne_of_none e nna0) (ne_of_none e nel0) h1
    · exact N4.other hea4 nea_na.symm nea_el.symm
  rintro σ H1 ⟨v5, v6, rfl, sH1, hcase⟩
  rcases hcase with ⟨h0, _⟩ | ⟨_, late, c', N, W, N1, hea1⟩
  · simp at h0
  have hEl : ([(0, [], 1)] ++ N : List Edge).length ≤ 1001 := by
    have := W.eb
    simp only [List.length_append, List.length_cons, List.length_nil]
    omega
  have hcb : c' ≤ 1002 := by
    have := W.cb
    omega
  have htg : ∀ e, e ∈ ([(0, [], 1)] ++ N : List Edge) → e.2.2 < c' := fun e he => by
    have h2 := W.le
    rcases List.mem_append.mp he with h | h
    · rw [List.mem_singleton.mp h]
      show 1 < c'
      omega
    · exact (W.tgt e h).2
  have hone : ones ([(0, [], 1)] ++ N) ≤ 5 := by
    rw [ones_append]
    have := W.one
    have : ones [((0 : Nat), ([] : List Nat), (1 : Nat))] = 0 := rfl
    omega
  have hsem : ∀ w, Reach ([(0, [], 1)] ++ N) late w ↔ L p w := fun w => Reach.sem W w
  generalize hEE : ([(0, [], 1)] ++ N : List Edge) = EE at *
  have hc2 := W.le
  -- lots, rows, marks
  refine ⟨_, rfl, two 1 (by decide), fun l0 nl0 => ?_⟩
  have s4 := same_new nl0 (.lst [nV 0])
  refine ⟨na, el, l0, c', EE, [0], rfl, N1.same s4, by omega, by omega, htg, SqL.of upd_same, by decide, fun j h => by rw [List.mem_singleton.mp h]; omega, fun S0 t0 H2 hS0 s5 nt0 ht0 => ⟨two 2 (by decide), fun tp ntp => ⟨two 1 (by decide), fun lo nlo => ⟨two 0 (by decide), fun ra nra => ⟨two 0 (by decide), fun ma nma => ⟨_, _, _, rfl, ?_⟩⟩⟩⟩⟩⟩
  have s6 := same_new ntp (.tup [V.bl false, V.ref t0])
  have s7 := same_new nlo (.lst [V.ref tp])
  have s8 := same_new nra (.lst [])
  have s9 := same_new nma (.lst [])
  have s49 := ((((s4.trans s5).trans s6).trans s7).trans s8).trans s9
  have N2 := N1.same s49
  have hea2 := s49 _ _ hea1
  have hlo2 : _ = some (HO.lst [V.ref tp]) := s9 _ _ (s8 _ _ (show (upd (upd H2 tp (.tup [V.bl false, V.ref t0])) lo (.lst [V.ref tp])) lo = some (.lst [V.ref tp]) from upd_same))
  have hra2 := s9 _ _ (show (upd (upd (upd H2 tp (.tup [V.bl false, V.ref t0])) lo (.lst [V.ref tp])) ra (.lst [])) ra = some (.lst []) from upd_same)
  have hma2 : (upd (upd (upd (upd H2 tp (.tup [V.bl false, V.ref t0])) lo (.lst [V.ref tp])) ra (.lst [])) ma (.lst [])) ma = some (.lst []) := upd_same
  have nlora : lo ≠ ra := ne_of_none (show (upd (upd H2 tp (.tup [V.bl false, V.ref t0])) lo (.lst [V.ref tp])) lo = some (.lst [V.ref tp]) from upd_same) nra
  have nloma : lo ≠ ma := ne_of_none (s8 _ _ (show (upd (upd H2 tp (.tup [V.bl false, V.ref t0])) lo (.lst [V.ref tp])) lo = some (.lst [V.ref tp]) from upd_same)) nma
  have nrama : ra ≠ ma := ne_of_none (show (upd (upd (upd H2 tp (.tup [V.bl false, V.ref t0])) lo (.lst [V.ref tp])) ra (.lst [])) ra = some (.lst []) from upd_same) nma
  have old : ∀ b o, H1 b = some o → b ≠ lo ∧ b ≠ ra ∧ b ≠ ma := fun b o e => by
    have e6 := s6 _ _ (s5 _ _ (s4 _ _ e))
    exact ⟨ne_of_none e6 nlo, ne_of_none (s7 _ _ e6) nra, ne_of_none (s8 _ _ (s7 _ _ e6)) nma⟩
  obtain ⟨es1, he1, _⟩ := N1.len
  have LA0 : LotAt (upd (upd (upd (upd H2 tp (.tup [V.bl false, V.ref t0])) lo (.lst [V.ref tp])) ra (.lst [])) ma (.lst [])) tp S0 := by
    refine (LotAt.same ?_ ((s7.trans s8).trans s9))
    exact ⟨t0, upd_same, s6 _ _ ht0⟩
  have sH2 := sH1.trans s49
  have new3 : H lo = none ∧ H ra = none ∧ H ma = none := by
    have s46 := sH1.trans ((s4.trans s5).trans s6)
    exact ⟨s46.free nlo, (s46.trans s7).free nra, ((s46.trans s7).trans s8).free nma⟩
  have T0 : TbS K na el ea lo ra ma c' late EE (upd (upd (upd (upd H2 tp (.tup [V.bl false, V.ref t0])) lo (.lst [V.ref tp])) ra (.lst [])) ma (.lst [])) [S0] [tp] [] [] [] :=
    ⟨N2, hea2, hlo2, rfl, fun i a S h1 h2 => by
      cases i with
      | zero =>
        obtain rfl : tp = a := by simpa using h1
        obtain rfl : S0 = S := by simpa using h2
        exact LA0
      | succ i => simp at h1, hra2, rfl, fun i a r h1 => by simp at h1, fun a h => by simp at h, hma2, ⟨old _ _ N1.top, old _ _ he1, old _ _ hea1, nlora, nloma, nrama⟩⟩
  have L0 : LotsOk EE k [S0] [] := ⟨by simp, ⟨S0, rfl, hS0⟩, fun i S h0 hi => by
    have := (List.getElem?_eq_some_iff.mp hi).1
    simp at this
    omega, fun i r S h => by simp at h⟩
  generalize (upd (upd (upd (upd H2 tp (.tup [V.bl false, V.ref t0])) lo (.lst [V.ref tp])) ra (.lst [])) ma (.lst [])) = H3 at *
  refine ⟨fun m σ H4 => ∃ (Ls : List (List Nat)) (lt rs : List Addr) (rowsL : List (List Nat)) (ms : List Bool) (v10 v11 v12 v13 v14 v15 : Option V), m = 34 - rowsL.length ∧ rowsL.length ≤ Ls.length ∧ ms.length = rowsL.length ∧ σ = [some (nV k), some (.ref pl), some (.bl false), some (.ref na), some (.ref ea), v5, v6, some (.ref lo), some (.ref ra), some (.ref ma), v10, v11, v12, v13, v14, v15, none, none] ∧
      Same H H4 ∧ TbS K na el ea lo ra ma c' late EE H4 Ls lt rs rowsL ms ∧ LotsOk EE k Ls rowsL ∧ ∀ (i : Nat) (S : List Nat) (b : Bool), Ls[i]? = some S → ms[i]? = some b → b = decide (late ∈ S),
    ⟨_, [S0], [tp], [], [], [], none, none, none, none, none, none, rfl, Nat.zero_le _, rfl, rfl, sH2, T0, L0, fun i S b _ h => by simp at h⟩, ?_⟩
  rintro m σ H4 ⟨Ls, lt, rs, rowsL, ms, v10, v11, v12, v13, v14, v15, hm, hrl, hml, rfl, sH4, T4, L4, hms⟩
  have hL33 := L4.le hone
  refine ⟨_, rfl, ra, _, rfl, .inl (SqL.of T4.hra), _, rfl, lo, _, rfl, .inl (SqL.of T4.hlo), _, _, rfl, rfl, _, rfl, ?_⟩
  rw [List.length_map, List.length_map, T4.rsl, T4.ltl]
  refine ite2 (fun c => ?_) (fun c => ?_)
  rotate_left
  · have c : ¬ ((rowsL.length : Nat) : Int) < (Ls.length : Nat) := of_decide_eq_false (Bool.eq_false_iff.mpr c)
    have hle : rowsL.length = Ls.length := by omega
    have hpos : 0 < Ls.length := by
      obtain ⟨S, h1, _⟩ := L4.first
      exact (List.getElem?_eq_some_iff.mp h1).1
    have BO : BOk ⟨rowsL, ms⟩ k Ls.length := by
      refine ⟨hk1, hk3, hpos, by omega, hle, by rw [← hle]; exact hml, fun r hr => ?_⟩
      obtain ⟨i, hi⟩ := List.getElem?_of_mem hr
      have hil : i < Ls.length := by
        rw [← hle]
        exact (List.getElem?_eq_some_iff.mp hi).1
      obtain ⟨h1, h2⟩ := L4.row i r _ hi (List.getElem?_eq_getElem hil)
      refine ⟨h1, fun x hx => ?_⟩
      obtain ⟨l, hl⟩ := List.getElem?_of_mem hx
      obtain ⟨S', h3, _⟩ := h2 l x hl
      exact (List.getElem?_eq_some_iff.mp h3).1
    refine ⟨_, rfl, _, rfl, ra, ma, ⟨rowsL, ms⟩, k, Ls.length, rfl, ⟨rs, T4.hra, T4.rsl, T4.row⟩, T4.hma, BO, fun t r' e' T n H5 s5 OT _ hacc hT => ?_⟩
    refine q t r' e' T n H5 (sH4.trans s5) OT (fun w hw => ?_) hT
    rw [hacc w hw, ← hsem w]
    obtain ⟨S, h1, h2⟩ := L4.run hle (ends := ms) w.length w rfl hw
    rw [← h2.iff late]
    have hlt := (List.getElem?_eq_some_iff.mp h1).1
    have hmg : ms[(Tab.mk rowsL ms).run 0 w]? = some ms[(Tab.mk rowsL ms).run 0 w] := List.getElem?_eq_getElem (by omega)
    have e := hms _ S _ h1 hmg
    have e2 : (Tab.mk rowsL ms).acc 0 w = decide (late ∈ S) := by
      show (ms.getD _ false) = _
      rw [List.getD_eq_getElem?_getD, hmg, Option.getD_some, e]
    rw [e2, decide_eq_true_iff]
  have c : ((rowsL.length : Nat) : Int) < (Ls.length : Nat) := of_decide_eq_true c
  have hlt : rowsL.length < Ls.length := by omega
  obtain ⟨S, hSi⟩ : ∃ S, Ls[rowsL.length]? = some S := ⟨_, List.getElem?_eq_getElem hlt⟩
  have hlti : rowsL.length < lt.length := by rw [T4.ltl]; exact hlt
  have hta : lt[rowsL.length]? = some lt[rowsL.length] := List.getElem?_eq_getElem hlti
  obtain ⟨st, hst1, hst2⟩ := T4.lot _ _ S hta hSi
  refine ⟨_, fun _ _ h => h, ?_⟩
  refine ⟨_, rfl, _, rfl, ra, _, rfl, .inl (SqL.of T4.hra), lo, lt.map V.ref, _, .ref lt[rowsL.length], rfl, rfl, SqL.of T4.hlo, ?_, lt[rowsL.length], _, rfl, .inl (.inl hst1), rfl, _, _, rfl, _, _, rfl, rfl, ?_⟩
  · rw [List.length_map, T4.rsl]
    exact atI_nat (by rw [List.getElem?_map, hta]; rfl)
  -- some
  refine ⟨_, rfl, ea, _, rfl, SqL.of T4.hea, fun D nD => ?_⟩
  refine lc_fm (walk_enum (K := K) (a := ea) (xs := [nV late])) nD (fun i => .int (i : Nat)) (fun _ => decide (late ∈ S)) (show 1 < sizeLine by decide) (fun H5 s5 => SqL.of (s5 _ _ T4.hea)) ?_ ?_
  · rintro i y H5 H6 hi s5 ⟨Tp, x1, x2, rfl, nT, rfl, f1, f2⟩ R R0 hR hR0
    obtain rfl : V.int (i : Nat) = x1 := Option.some.inj f1
    have hi0 : i = 0 := by simpa using hi
    subst hi0
    obtain rfl : nV late = x2 := by simpa using f2
    have s6 := same_new nT (.tup [V.int ((0 : Nat) : Int), nV late])
    refine ⟨Tp, _, rfl, SqT.new, rfl, _, _, rfl, _, _, rfl, rfl, rfl, ?_⟩
    refine ⟨_, rfl, _, rfl, st, _, rfl, .inr (.inl (.inl (s6 _ _ (s5 _ _ hst2)))), rfl, flat_nV S, decide (late ∈ S), congrArg V.bl (inV_nV S _), ?_⟩
    cases h2 : decide (late ∈ S) with
    | false => exact iteF (hR0 h2 _ s6)
    | true => exact iteT ⟨_, rfl, hR h2 _ s6⟩
  intro H5 s5 hD
  have T5 := T4.same s5
  obtain ⟨F, hF1, hF2⟩ : ∃ F : List Nat, H5 D = some (.lst (F.map nV)) ∧ (!decide (F = [])) = decide (late ∈ S) := by
    by_cases z : late ∈ S
    · refine ⟨[0], ?_, by rw [decide_eq_true z]; rfl⟩
      rw [hD, decide_eq_true z]
      rfl
    · refine ⟨[], ?_, by rw [decide_eq_false z]; rfl⟩
      rw [hD, decide_eq_false z]
      rfl
  refine ⟨_, rfl, false, rfl, iteF ?_⟩
  refine ⟨_, rfl, .inl ⟨rfl, _, SqL.of T5.hma⟩, _, rfl, two 0 (by decide), fun pe npe => ?_⟩
  have s6 := same_new npe (.lst [])
  have T6 := T5.same s6
  refine ⟨dIs F, dIs [], dp_dIs (SqL.of (s6 _ _ hF1)), dp_dIs (L := []) (SqL.of upd_same), shaped_dIs _, shaped_dIs _, ma, _, _, rfl, rfl, T6.hma, by rw [List.length_map, hml, sizeLine_eq]; omega, ?_⟩
  rw [eqv_dIs, hF2]
  have T7 := T6.addMark (decide (late ∈ S))
  have sH6 := (sH4.trans s5).trans s6
  have sH7 : Same H (upd (upd H5 pe (.lst [])) ma (.lst (ms.map V.bl ++ [.bl (decide (late ∈ S))]))) := fun b o e => by
    rw [upd_ne (ne_of_none e new3.2.2)]
    exact sH6 _ _ e
  have hst7 : (upd (upd H5 pe (.lst [])) ma (.lst (ms.map V.bl ++ [.bl (decide (late ∈ S))]))) st = some (.tup (S.map nV)) := by
    have e6 := s6 _ _ (s5 _ _ hst2)
    rw [upd_ne (ne_of e6 T6.hma fun z => nomatch z)]
    exact e6
  generalize (upd (upd H5 pe (.lst [])) ma (.lst (ms.map V.bl ++ [.bl (decide (late ∈ S))]))) = H7 at *
  -- row = []
  refine ⟨two 0 (by decide), fun rl nrl => ?_⟩
  have s8 := same_new nrl (.lst [])
  have T8 := T7.same s8
  have hrl8 : (upd H7 rl (.lst [])) rl = some (.lst []) := upd_same
  have hst8 := s8 _ _ hst7
  have sH8 := sH7.trans s8
  have nrlH : H rl = none := sH7.free nrl
  obtain ⟨es7, hes7, _⟩ := T7.net.len
  have hrne : na ≠ rl ∧ el ≠ rl ∧ ea ≠ rl ∧ lo ≠ rl ∧ ra ≠ rl ∧ ma ≠ rl := ⟨ne_of_none T7.net.top nrl, ne_of_none hes7 nrl, ne_of_none T7.hea nrl, ne_of_none T7.hlo nrl, ne_of_none T7.hra nrl, ne_of_none T7.hma nrl⟩
  have hrrs : rl ∉ rs := fun z => by
    obtain ⟨i, hi⟩ := List.getElem?_of_mem z
    have hil : i < rowsL.length := by
      rw [← T7.rsl]
      exact (List.getElem?_eq_some_iff.mp hi).1
    have := T7.row i rl _ hi (List.getElem?_eq_getElem hil)
    rw [nrl] at this
    cases this
  generalize (upd H7 rl (.lst [])) = H8 at *
  refine ⟨_, rfl, ((k : Nat) : Int), rfl, _, rfl, by decide, _, rfl, ?_⟩
  rw [abc_eq, cut_abc k hk3]
  refine for_it (walk_str (z := tx (List.range k))) (fun l σ H9 => ∃ (Ls' : List (List Nat)) (lt' : List Addr) (row : List Nat) (v14 v15 : Option V), l ≤ k ∧ σ = [some (nV k), some (.ref pl), some (.bl false), some (.ref na), some (.ref ea), v5, v6, some (.ref lo), some (.ref ra), some (.ref ma), some (.bl false), some (.ref st), some (.ref D), some (.ref rl), v14, v15, none, none] ∧
      Same H H9 ∧ TbS K na el ea lo ra ma c' late EE H9 Ls' lt' rs rowsL (ms ++ [decide (late ∈ S)]) ∧ LotsOk EE k Ls' rowsL ∧ Ls <+: Ls' ∧ H9 st = some (.tup (S.map nV)) ∧ H9 rl = some (.lst (row.map nV)) ∧ row.length = l ∧ ∀ (l' x : Nat), row[l']? = some x → ∃ S', Ls'[x]? = some S' ∧ Srt S' (Cl EE (StepTo EE S l')))
    ⟨Ls, lt, [], v14, v15, Nat.zero_le _, rfl, sH8, T8, L4, List.prefix_refl _, hst8, hrl8, rfl, fun l' x h => by simp at h⟩ (fun _ _ _ _ _ => trivial) ?_ ?_
  · rintro l v σ H9 H10 hl ⟨Ls', lt', row, v14, v15, hlk, rfl, sH9, T9, L9, hpre, hst9, hrl9, hrow9, hrf⟩ ⟨rfl, cc, hcc, rfl⟩
    rw [tx_size, List.length_range] at hl
    rw [tx_at, List.getElem?_range hl] at hcc
    obtain rfl : l + 97 = cc := Option.some.inj hcc
    have hL9 := L9.le hone
    have hpl9 := hpre.length_le
    refine ⟨_, rfl, _, rfl, _, rfl, _, rfl, na, el, st, c', EE, S, l, rfl, T9.net, by omega, by omega, htg, .inl (.inl hst9), fun S' t1 H11 hS' s11 nt1 ht1 => ⟨two 2 (by decide), fun tq ntq => ?_⟩⟩
    have s12 := s11.trans (same_new ntq (.tup [V.bl false, V.ref t1]))
    have T12 := T9.same s12
    have hst12 := s12 _ _ hst9
    have hrl12 := s12 _ _ hrl9
    have LA : LotAt (upd H11 tq (.tup [V.bl false, V.ref t1])) tq S' := ⟨t1, upd_same, same_new ntq _ _ _ ht1⟩
    have sH12 := sH9.trans s12
    generalize (upd H11 tq (.tup [V.bl false, V.ref t1])) = H12 at *
    have dpl : ∀ (H : Hp) (Ls' : List (List Nat)) (lt' : List Addr) (ms : List Bool), TbS K na el ea lo ra ma c' late EE H Ls' lt' rs rowsL ms → Dp K H (.ref lo) (.list (Ls'.map dLt)) := fun H Ls' lt' ms T => .lst (SqL.of T.hlo) (dpAll_of dLt (lt'.map V.ref) Ls' (by rw [List.length_map]; exact T.ltl) fun j v S h1 h2 => by
      rw [List.getElem?_map] at h1
      cases e : lt'[j]? with
      | none =>
        rw [e] at h1
        cases h1
      | some a =>
        rw [e] at h1
        obtain rfl := Option.some.inj h1
        exact (T.lot j a S e h2).dp)
    refine ⟨_, rfl, _, rfl, dLt S', _, LA.dp, dpl _ _ _ _ T12, (smD_dLt S').sh, shaped_list dLt Ls' fun S _ => smD_dLt S, _, rfl, ?_⟩
    rw [any_dec dLt eqv_dLt]
    refine ifs_cut (fun σ H13 => ∃ (Ls2 : List (List Nat)) (lt2 : List Addr), σ = [some (nV k), some (.ref pl), some (.bl false), some (.ref na), some (.ref ea), v5, v6, some (.ref lo), some (.ref ra), some (.ref ma), some (.bl false), some (.ref st), some (.ref D), some (.ref rl), some (.str (sg l)), some (.ref tq), none, none] ∧
        Same H H13 ∧ TbS K na el ea lo ra ma c' late EE H13 Ls2 lt2 rs rowsL (ms ++ [decide (late ∈ S)]) ∧ LotsOk EE k Ls2 rowsL ∧ Ls' <+: Ls2 ∧ H13 st = some (.tup (S.map nV)) ∧ H13 rl = some (.lst (row.map nV)) ∧ LotAt H13 tq S' ∧ S' ∈ Ls2) (fun c1 hk => ?_) (fun c1 => ?_) ?_
    · have c1 : S' ∉ Ls' := by simpa using c1
      refine ⟨_, rfl, .inl ⟨rfl, _, SqL.of T12.hlo⟩, _, rfl, lo, _, _, rfl, rfl, T12.hlo, by rw [List.length_map, T12.ltl, sizeLine_eq]; omega, ?_⟩
      refine hk _ _ ⟨Ls' ++ [S'], lt' ++ [tq], rfl, fun b o e => ?_, T12.addLot LA, L9.add (by omega) c1 (step_mask hS'), List.prefix_append _ _, ?_, ?_, LA.upd T12.hlo, List.mem_append_right _ (List.mem_singleton.mpr rfl)⟩
      · rw [upd_ne (ne_of_none e new3.1)]
        exact sH12 _ _ e
      · rw [upd_ne (ne_of hst12 T12.hlo fun z => nomatch z)]
        exact hst12
      · rw [upd_ne hrne.2.2.2.1.symm]
        exact hrl12
    · have c1 : S' ∈ Ls' := by simpa using c1
      exact ⟨Ls', lt', rfl, sH12, T12, L9, List.prefix_refl _, hst12, hrl12, LA, c1⟩
    rintro σ H13 ⟨Ls2, lt2, rfl, sH13, T13, L13, hpre2, hst13, hrl13, LA13, hin⟩
    have hL13 := L13.le hone
    have hix := List.idxOf_lt_length_of_mem hin
    have hgx : Ls2[Ls2.idxOf S']? = some S' := by rw [List.getElem?_eq_getElem hix, List.getElem_idxOf hix]
    refine ⟨_, rfl, .inl ⟨rfl, _, SqL.of hrl13⟩, _, rfl, .inl ⟨rfl, _, SqL.of T13.hlo⟩, _, rfl, lo, .ref tq, dLt S', Ls2.map dLt, Ls2.idxOf S', dLt S', rfl, rfl, dpl _ _ _ _ T13, LA13.dp, shaped_list dLt Ls2 fun S _ => smD_dLt S, (smD_dLt S').sh, by rw [List.getElem?_map, hgx]; rfl, by rw [eqv_dLt]; exact decide_eq_true rfl, fun j z hj hz => ?_, ?_⟩
    · have hjl : j < Ls2.length := by omega
      rw [List.getElem?_map, List.getElem?_eq_getElem hjl] at hz
      obtain rfl := Option.some.inj hz
      rw [eqv_dLt]
      refine decide_eq_false fun e => ?_
      have e2 := L13.nd.idxOf_getElem j hjl
      rw [e] at e2
      omega
    refine ⟨rl, _, _, rfl, rfl, hrl13, by rw [List.length_map, sizeLine_eq]; omega, ?_⟩
    have upS : ∀ (i : Nat) (T : List Nat), Ls'[i]? = some T → Ls2[i]? = some T := fun i T e => pre_get hpre2 e
    refine ⟨Ls2, lt2, row ++ [Ls2.idxOf S'], _, _, hl, rfl, fun b o e => ?_, T13.other hrl13 _ hrne hrrs, L13, hpre.trans hpre2, ?_, by rw [upd_same, List.map_append]; rfl, by rw [List.length_append, hrow9]; rfl, fun l' x hx => ?_⟩
    · rw [upd_ne (ne_of_none e nrlH)]
      exact sH13 _ _ e
    · rw [upd_ne (ne_of hst13 hrl13 fun z => nomatch z)]
      exact hst13
    · by_cases hlt' : l' < row.length
      · rw [List.getElem?_append_left hlt'] at hx
        obtain ⟨T, h1, h2⟩ := hrf l' x hx
        exact ⟨T, upS _ _ h1, h2⟩
      · rw [List.getElem?_append_right (by omega)] at hx
        have hz : l' - row.length = 0 := by
          have := (List.getElem?_eq_some_iff.mp hx).1
          simp at this
          omega
        rw [hz] at hx
        obtain rfl : Ls2.idxOf S' = x := by simpa using hx
        have : l' = l := by omega
        rw [this]
        exact ⟨S', hgx, hS'⟩
  · rintro σ H9 ⟨Ls', lt', row, v14, v15, hlk, rfl, sH9, T9, L9, hpre, hst9, hrl9, hrow9, hrf⟩
    rw [tx_size, List.length_range] at hrow9
    have hL9 := L9.le hone
    have hpl9 := hpre.length_le
    refine ⟨_, rfl, .inl ⟨rfl, _, SqL.of T9.hra⟩, _, rfl, ra, _, _, rfl, rfl, T9.hra, by rw [List.length_map, T9.rsl, sizeLine_eq]; omega, ?_⟩
    refine ⟨34 - (rowsL ++ [row]).length, by rw [List.length_append, hm]; show 34 - (rowsL.length + 1) < _; omega, Ls', lt', rs ++ [rl], rowsL ++ [row], ms ++ [decide (late ∈ S)], _, _, _, _, _, _, rfl, by rw [List.length_append]; show rowsL.length + 1 ≤ _; omega, by rw [List.length_append, List.length_append, hml]; rfl, rfl, fun b o e => ?_, T9.addRow hrl9 ⟨hrne.2.2.2.1.symm, hrne.2.2.2.2.1.symm, hrne.2.2.2.2.2.symm⟩, L9.addRow (pre_get hpre hSi) hrow9 hrf, fun i T b h1 h2 => ?_⟩
    · rw [upd_ne (ne_of_none e new3.2.1)]
      exact sH9 _ _ e
    · by_cases hi : i < ms.length
      · rw [List.getElem?_append_left hi] at h2
        have hiL : i < Ls.length := by omega
        have h3 : Ls'[i]? = some Ls[i] := pre_get hpre (List.getElem?_eq_getElem hiL)
        rw [h3] at h1
        obtain rfl := Option.some.inj h1
        exact hms i _ b (List.getElem?_eq_getElem hiL) h2
      · rw [List.getElem?_append_right (by omega)] at h2
        have hz : i - ms.length = 0 := by
          have := (List.getElem?_eq_some_iff.mp h2).1
          simp at this
          omega
        rw [hz] at h2
        have e : i = rowsL.length := by omega
        rw [e, pre_get hpre hSi] at h1
        obtain rfl := Option.some.inj h1
        obtain rfl : decide (late ∈ S) = b := by simpa using h2
        rfl
end
end Own
namespace Own
open PySem PySem.Spec PyProof.Rows L2
/-- all texts up to a length -/
def allT (k m : Nat) : List Word := (List.range (m + 1)).flatMap (texts k)
theorem allT_succ (k m : Nat) : allT k (m + 1) = allT k m ++ texts k (m + 1) := by
  unfold allT
  rw [List.range_succ (n := m + 1), List.flatMap_append]
  simp
theorem mem_allT {k m : Nat} {w : Word} : w ∈ allT k m ↔ w.length ≤ m ∧ Wd k w := by
  unfold allT
  rw [List.mem_flatMap]
  constructor
  · rintro ⟨i, hi, h⟩
    obtain ⟨h1, h2⟩ := mem_texts.mp h
    have := List.mem_range.mp hi
    exact ⟨by omega, h2⟩
  · rintro ⟨h1, h2⟩
    exact ⟨w.length, List.mem_range.mpr (by omega), mem_texts.mpr ⟨rfl, h2⟩⟩
theorem pow3 {k i : Nat} (hk : k ≤ 3) (hi : i ≤ 4) : k ^ i ≤ 81 := by
  have h1 : k ^ i ≤ 3 ^ i := Nat.pow_le_pow_left hk i
  have h2 : 3 ^ i ≤ 3 ^ 4 := Nat.pow_le_pow_right (by decide) hi
  omega
theorem BOk.run_ltB {T : Tab} {k n : Nat} (O : BOk T k n) : ∀ {s : Nat} {u : Word}, s < n → Wd k u → T.run s u < n
  | s, [], hs, _ => hs
  | s, l :: u, hs, hu => BOk.run_ltB O (s := T.st s l) (O.st_lt hs (hu l List.mem_cons_self)) fun x hx => hu x (List.mem_cons_of_mem _ hx)
theorem BOk.at_stB {T : Tab} {k n : Nat} (O : BOk T k n) {s l : Nat} (hs : s < n) (hl : l < k) : atI ((T.rows.getD s []).map nV) (l : Nat) = some (.int (T.st s l : Nat)) := atI_nat (by rw [List.getElem?_map, O.stget hs hl]; rfl)
section
variable {P : Program} {w : World} {K : PySem.W.Frag} {mg : Str → Option Value} {base : Heap}
abbrev s_law_lead : Stmt := topS 51
theorem sc_law_lead : FnScope ["rows", "stand", "text", "letter"] ["rows", "stand", "text"] (defScope s_law_lead) := ⟨rfl, rfl, rfl, by decide +kernel, rfl, by decide +kernel, by decide +kernel⟩
def sp_law_lead (K : PySem.W.Frag) : Sp := fun vs H Q _ => ∃ (r : Addr) (T : Tab) (k n s : Nat) (u : Word), vs = [.ref r, nV s, .str (tx u)] ∧ RowsAt K H r T.rows ∧ BOk T k n ∧ s < n ∧ Wd k u ∧ u.length ≤ 100000 ∧ Q (nV (T.run s u)) H
theorem ok_law_lead {f : Addr} {fd : FuncData} (F : Fun K "_law_lead" "_law_lead" s_law_lead f fd) (B : Bt mg) : FnOk P w K mg base CX0 1 f fd ["rows", "stand", "text"] (sp_law_lead K) := by
  refine F.ok sc_law_lead (fun vs H Q E h => ?_) (fun cdv A outer s0 H vs Q E hr h => ?_)
  · obtain ⟨r, T, k, n, s, u, rfl, _⟩ := h
    rfl
  obtain ⟨r, T, k, n, s, u, rfl, A1, O, hs, hu, hul, q⟩ := h
  have hk3 := O.k3
  refine ⟨_, (pss_cons (ps_for PassesOwn.never rfl (pi_str (pv 2)) (pg_name (i := 3) sc_law_lead.nd rfl (Or.inl rfl)) (pss_one (ps_set (i := 1) sc_law_lead.nd rfl (Or.inl rfl) (p_ixt K (p_ixt K (pv 0) (pv 1)) (p_six K pe_str (pa_cons (pv 3) pa_nil)))))) (pss_one (ps_ret (pv 1)))), ?_⟩
  refine ⟨_, rfl, _, rfl, for_it (walk_str (z := tx u)) (fun i σ H2 => ∃ v, σ = [some (.ref r), some (nV (T.run s (u.take i))), some (.str (tx u)), v] ∧ H2 = H)
    ⟨none, rfl, rfl⟩ (fun _ _ _ _ _ => trivial) ?_ ?_⟩
  · rintro i x σ H2 H3 hi ⟨v, rfl, rfl⟩ ⟨rfl, c, hc, rfl⟩
    rw [tx_size] at hi
    rw [tx_at, List.getElem?_eq_getElem hi] at hc
    obtain rfl : u[i] + 97 = c := Option.some.inj hc
    have hy : u[i] < k := hu _ (List.getElem_mem hi)
    have hsi : T.run s (u.take i) < n := O.run_ltB hs fun z hz => hu z (List.mem_of_mem_take hz)
    obtain ⟨a, xs, h1, h2, h3, _, h4⟩ := A1.get (s := T.run s (u.take i)) (by rw [O.rl]; exact hsi)
    refine ⟨_, rfl, _, rfl, r, _, _, _, rfl, rfl, h1, h3, ?_⟩
    refine ⟨rfl, _, rfl, _, _, rfl, rfl, fun z hz => ?_, fun hz => ?_⟩
    · have hz : Txt.index0 (tx [0, 1, 2]) (sg u[i]) = some z := by rw [← abc_eq]; exact hz
      rw [ix_abc _ (by omega)] at hz
      obtain rfl := Option.some.inj hz
      refine ⟨a, _, _, _, rfl, rfl, h4, O.at_stB hsi hy, some (.str ⟨#[u[i] + 97]⟩), ?_, rfl⟩
      rw [List.take_add_one, List.getElem?_eq_getElem hi, Tab.run_append]
      rfl
    · have hz : Txt.index0 (tx [0, 1, 2]) (sg u[i]) = none := by rw [← abc_eq]; exact hz
      rw [ix_abc _ (by omega)] at hz
      cases hz
  · rintro σ H2 ⟨v, rfl, rfl⟩
    refine ⟨_, rfl, ?_⟩
    rw [tx_size, List.take_length]
    exact q
abbrev s_law_texts : Stmt := topS 52
theorem sc_law_texts : FnScope ["size", "most", "found", "last", "turn", "late", "text", "letter"] ["size", "most"] (defScope s_law_texts) := ⟨rfl, rfl, rfl, by decide +kernel, rfl, by decide +kernel, by decide +kernel⟩
def sp_law_texts : Sp := fun vs H Q _ => ∃ k m : Nat, vs = [nV k, nV m] ∧ ((k ≤ 3 ∧ m ≤ 4) ∨ (k ≤ 2 ∧ m ≤ 6)) ∧ ∀ (l : Addr) (H' : Hp), Same H H' → H l = none → H' l = some (.lst ((allT k m).map fun u => V.str (tx u))) → Q (.ref l) H'
theorem ok_law_texts {f : Addr} {fd : FuncData} (F : Fun K "_law_texts" "_law_texts" s_law_texts f fd) (B : Bt mg) : FnOk P w K mg base CX0 1 f fd ["size", "most"] sp_law_texts := by
  refine F.ok sc_law_texts (fun vs H Q E h => ?_) (fun cdv A outer s0 H vs Q E hr h => ?_)
  · obtain ⟨k, m, rfl, _⟩ := h
    rfl
  obtain ⟨k, m, rfl, hkm, q⟩ := h
  have hk : k ≤ 3 := by omega
  have hm6 : m ≤ 6 := by omega
  have pw : ∀ i, i ≤ m → k ^ i ≤ 81 := fun i hi => by
    rcases hkm with ⟨a, b⟩ | ⟨a, b⟩
    · exact pow3 a (by omega)
    · have h1 : k ^ i ≤ 2 ^ i := Nat.pow_le_pow_left a i
      have h2 : 2 ^ i ≤ 2 ^ 6 := Nat.pow_le_pow_right (by decide) (by omega)
      omega
  have two : ∀ n, n ≤ 10 → n ≤ sizeLine := fun n h => Nat.le_of_lt (small1000 (by omega))
  refine ⟨_, (pss_cons (ps_par (i := 2) (j := 3) rfl sc_law_texts.nd rfl rfl (by decide) rfl rfl (pa_cons (pe_lst (pa_cons pe_str pa_nil)) (pa_cons (pe_lst (pa_cons pe_str pa_nil)) pa_nil)) (by rfl)) (pss_cons (ps_for PassesOwn.never rfl (pi_range1 (by rfl) B.range (pa_cons (pv 1) pa_nil)) (pg_name (i := 4) sc_law_texts.nd rfl (Or.inl rfl)) (pss_cons (ps_set (i := 5) sc_law_texts.nd rfl (Or.inl rfl) (pe_lst pa_nil)) (pss_cons (ps_for PassesOwn.never rfl (p_list K (pv 3)) (pg_name (i := 6) sc_law_texts.nd rfl (Or.inr rfl)) (pss_one (ps_set (i := 5) sc_law_texts.nd rfl (Or.inl rfl) (pe_op op_cat (pv 5) (pe_lc (own := [("letter", 7)]) rfl sc_law_texts.nd (pi_str (pe_slice sl_str pe_str po_none (po_some (pv 0)))) (blkOk_by (by kernel_rfl)) (fun _ _ _ _ _ => (pg_name (i := 7) sc_law_texts.nd rfl (Or.inl rfl))) (fun _ _ _ _ _ => pts_nil) (fun _ _ _ _ _ => (pe_op op_add_str (pv 6) (pv 7)))))))) (pss_one (ps_par (i := 2) (j := 3) rfl sc_law_texts.nd rfl rfl (by decide) rfl rfl (pa_cons (pe_op op_cat (pv 2) (pv 5)) (pa_cons (pv 5) pa_nil)) (by rfl)))))) (pss_one (ps_ret (pv 2))))), ?_⟩
  rw [empty_eq]
  refine ⟨two 1 (by decide), fun l1 n1 => ⟨two 1 (by decide), fun l2 n2 => ⟨_, _, rfl, ?_⟩⟩⟩
  have s1 := same_new n1 (.lst [V.str (tx [])])
  have s2 := same_new n2 (.lst [V.str (tx [])])
  refine ⟨_, rfl, _, rfl, by omega, by omega, for_range (lo := 0) (n := ((m : Nat) : Int).toNat) (fun i σ H1 => ∃ (la lb : Addr) (v4 v5 v6 : Option V), i ≤ m ∧ σ = [some (nV k), some (nV m), some (.ref la), some (.ref lb), v4, v5, v6, none] ∧ Same H H1 ∧ H la = none ∧ H1 la = some (.lst ((allT k i).map fun u => V.str (tx u))) ∧ H1 lb = some (.lst ((texts k i).map fun u => V.str (tx u))))
    ⟨l1, l2, none, none, none, Nat.zero_le _, rfl, s1.trans s2, n1, s2 _ _ upd_same, upd_same⟩ ?_ ?_⟩
  · rintro i σ H1 hi ⟨la, lb, v4, v5, v6, _, rfl, sH, nla, hla, hlb⟩
    rw [Int.toNat_natCast] at hi
    have hp := pw i (by omega)
    refine ⟨two 0 (by decide), fun l5 n5 => ?_⟩
    have s5 := same_new n5 (.lst [])
    refine ⟨_, rfl, lb, rfl, ⟨_, SqL.of (s5 _ _ hlb)⟩, ?_⟩
    refine for_list (K := K) (a := lb) (xs := (texts k i).map fun u => V.str (tx u)) (fun j σ H2 => ∃ (l5 : Addr) (v6 : Option V), σ = [some (nV k), some (nV m), some (.ref la), some (.ref lb), some (.int (0 + (i : Nat))), some (.ref l5), v6, none] ∧ Same H1 H2 ∧ H1 l5 = none ∧ H2 l5 = some (.lst ((ext k ((texts k i).take j)).map fun u => V.str (tx u))))
      ⟨l5, v6, rfl, s5, n5, upd_same⟩ (fun j σ H2 _ h => ?_) ?_ ?_
    · obtain ⟨_, _, _, h, _⟩ := h
      exact SqL.of (h _ _ hlb)
    · rintro j x σ H2 hx ⟨l5, v6, rfl, sH2, n5', hl5⟩
      rw [List.getElem?_map] at hx
      cases e : (texts k i)[j]? with
      | none =>
        rw [e] at hx
        cases hx
      | some u =>
      rw [e] at hx
      obtain rfl : V.str (tx u) = x := Option.some.inj hx
      have hj : j < (texts k i).length := (List.getElem?_eq_some_iff.mp e).1
      rw [texts_length] at hj
      obtain ⟨hul, huw⟩ := mem_texts.mp (List.mem_of_getElem? e)
      refine ⟨_, rfl, _, rfl, ((k : Nat) : Int), rfl, _, rfl, by decide, _, rfl, fun D nD => ?_⟩
      rw [abc_eq, cut_abc k hk]
      refine lc_map (walk_str (z := tx (List.range k))) nD (fun l => V.str (tx (u ++ [l]))) (by rw [tx_size, List.length_range]; exact small1000 (by omega)) (fun _ _ => trivial) ?_ ?_
      · rintro l v H3 H4 hl s3 ⟨rfl, c, hc, rfl⟩ R hR
        rw [tx_size, List.length_range] at hl
        rw [tx_at, List.getElem?_range hl] at hc
        obtain rfl : l + 97 = c := Option.some.inj hc
        refine ⟨rfl, _, rfl, _, rfl, _, _, rfl, rfl, by rw [tx_length]; show u.length + 1 ≤ sizeLine; exact Nat.le_of_lt (small1000 (by omega)), ?_⟩
        have e2 : tx u ++ (⟨#[l + 97]⟩ : Str) = tx (u ++ [l]) := tx_append u [l]
        rw [e2]
        exact hR _ (Same.refl _)
      · intro H3 s3 e3
        rw [tx_size, List.length_range] at e3
        have hlen : (ext k ((texts k i).take j)).length ≤ j * k := by
          unfold ext
          rw [List.length_flatMap]
          have : ((texts k i).take j).map (fun w => ((List.range k).map fun l => w ++ [l]).length) = ((texts k i).take j).map fun _ => k := List.map_congr_left fun w _ => by rw [List.length_map, List.length_range]
          rw [this, List.map_const', List.sum_replicate_nat, List.length_take]
          exact Nat.mul_le_mul_right _ (Nat.min_le_left _ _)
        have hjk : j * k ≤ 81 * 3 := Nat.mul_le_mul (by omega) hk
        refine ⟨l5, D, _, _, rfl, rfl, s3 _ _ hl5, e3, ?_, fun l6 n6 => ?_⟩
        · rw [List.length_map, List.length_map, List.length_range, sizeLine_eq]
          omega
        refine ⟨l6, _, rfl, sH2.trans (s3.trans (same_new n6 _)), (sH2.trans s3).free n6, ?_⟩
        rw [upd_same, List.take_add_one, e]
        unfold ext
        rw [List.flatMap_append, List.map_append]
        simp only [Option.toList_some, List.flatMap_cons, List.flatMap_nil, List.append_nil, List.map_map]
        rfl
    · rintro σ H2 ⟨l5, v6, rfl, sH2, n5', hl5⟩
      rw [List.length_map, List.take_length, ext_texts] at hl5
      have hla2 := sH2 _ _ hla
      have ht1 : (texts k (i + 1)).length ≤ 81 := by rw [texts_length]; exact pw _ (by omega)
      have hAl : (allT k i).length ≤ 1000 := by
        unfold allT
        rw [List.length_flatMap]
        have : ∀ c, c ≤ m → ((List.range c).map fun j => (texts k j).length).sum ≤ c * 81 := by
          intro c
          induction c with
          | zero => intro _; simp
          | succ c ih =>
            intro hm
            rw [List.range_succ, List.map_append, List.sum_append]
            have := ih (by omega)
            have h2 : (texts k c).length ≤ 81 := by rw [texts_length]; exact pw c (by omega)
            simp
            omega
        have := this (i + 1) (by omega)
        have h3 : (i + 1) * 81 ≤ 6 * 81 := Nat.mul_le_mul_right _ (by omega)
        omega
      refine ⟨_, rfl, _, rfl, la, l5, _, _, rfl, rfl, hla2, hl5, ?_, fun l6 n6 => ?_⟩
      · rw [List.length_map, List.length_map, sizeLine_eq]
        omega
      refine ⟨_, rfl, _, _, rfl, l6, l5, _, _, _, by omega, rfl, (sH.trans sH2).trans (same_new n6 _), (sH.trans sH2).free n6, ?_, same_new n6 _ _ _ hl5⟩
      rw [upd_same, allT_succ, List.map_append]
  · rintro σ H1 ⟨la, lb, v4, v5, v6, _, rfl, sH, nla, hla, hlb⟩
    rw [Int.toNat_natCast] at hla
    exact ⟨_, rfl, q la H1 sH nla hla⟩
end
end Own
namespace Own
/-- what a search needs of a table -/
structure StOk (T : Tab) (k n : Nat) : Prop where
  n1 : 1 ≤ n
  st_lt : ∀ {s l : Nat}, s < n → l < k → T.st s l < n
theorem BOk.stOk {T : Tab} {k n : Nat} (O : BOk T k n) : StOk T k n := ⟨O.n1, fun h1 h2 => O.st_lt h1 h2⟩
theorem FOk.addS {T : Tab} {k n : Nat} {acc : Acc} (F : FOk T k n acc) {s m : Nat} {w : Word} (O : StOk T k n) (hw : Wd k w) (hl : w.length < acc.length) (hs : s < n) (hr : T.run 0 w = s) (hm : m < k) : FOk T k n (fAdd acc (T.st s m) (w ++ [m])) := by
  unfold fAdd
  split
  · exact F
  · rename_i h
    refine ⟨?_, ?_, ?_⟩
    · rw [List.map_append]
      exact nodup_snoc F.nd h
    · intro s' w' hm'
      rcases List.mem_append.mp hm' with q | q
      · obtain ⟨a, b, c, d⟩ := F.lt s' w' q
        exact ⟨a, b, c, by rw [List.length_append]; omega⟩
      · obtain ⟨rfl, rfl⟩ := Prod.mk.inj (List.mem_singleton.mp q)
        refine ⟨O.st_lt hs hm, fun x hx => ?_, ?_, ?_⟩
        · rcases List.mem_append.mp hx with q | q
          · exact hw x q
          · rw [List.mem_singleton.mp q]
            exact hm
        · rw [Tab.run_append, hr]
          rfl
        · rw [List.length_append, List.length_append]
          simp
          omega
    · exact pre_get (List.prefix_append _ _) F.z
theorem FOk.rowS {T : Tab} {k n : Nat} {acc : Acc} (F : FOk T k n acc) {s : Nat} {w : Word} (O : StOk T k n) (hw : Wd k w) (hl : w.length < acc.length) (hs : s < n) (hr : T.run 0 w = s) : ∀ m, m ≤ k → FOk T k n (fRow T s w m acc)
  | 0, _ => F
  | m + 1, h => by
    have ih := FOk.rowS F O hw hl hs hr m (by omega)
    refine ih.addS O hw ?_ hs hr (by omega)
    have q := (fRow_pre T s w m acc).length_le
    omega
theorem fF_okS {T : Tab} {k n : Nat} (O : StOk T k n) : ∀ i, FOk T k n (fF T k i) ∧ ∀ (j s : Nat) (w : Word), (fF T k i)[j]? = some (s, w) → w.length ≤ j
  | 0 => by
    refine ⟨⟨by simp [fF], ?_, rfl⟩, ?_⟩
    · intro s w h
      have e : (s, w) = (0, []) := by simpa [fF] using h
      obtain ⟨rfl, rfl⟩ := Prod.mk.inj e
      exact ⟨O.n1, fun l h => by simp at h, rfl, by simp⟩
    · intro j s w h
      cases j with
      | zero =>
        have e : (s, w) = (0, []) := by simpa [fF, eq_comm] using h
        obtain ⟨rfl, rfl⟩ := Prod.mk.inj e
        simp
      | succ j => simp [fF] at h
  | i + 1 => by
    obtain ⟨F, hl⟩ := fF_okS O i
    rw [fF]
    split
    · rename_i s w e
      obtain ⟨h1, h2, h3, _⟩ := F.lt s w (List.mem_of_getElem? e)
      have hi : i < (fF T k i).length := (List.getElem?_eq_some_iff.mp e).1
      have hwl := hl i s w e
      refine ⟨F.rowS O h2 (by omega) h1 h3 k (Nat.le_refl _), ?_⟩
      have key : ∀ m, ∀ (j s' : Nat) (w' : Word), (fRow T s w m (fF T k i))[j]? = some (s', w') → w'.length ≤ j := by
        intro m
        induction m with
        | zero => exact hl
        | succ m ih =>
          intro j s' w' he
          rw [fRow] at he
          unfold fAdd at he
          split at he
          · exact ih j s' w' he
          · by_cases hj : j < (fRow T s w m (fF T k i)).length
            · rw [List.getElem?_append_left hj] at he
              exact ih j s' w' he
            · rw [List.getElem?_append_right (by omega)] at he
              have hz : j - (fRow T s w m (fF T k i)).length = 0 := by
                have := (List.getElem?_eq_some_iff.mp he).1
                simp at this
                omega
              rw [hz] at he
              have e2 : (s', w') = (T.st s m, w ++ [m]) := by simpa [eq_comm] using he
              obtain ⟨_, rfl⟩ := Prod.mk.inj e2
              have q := (fRow_pre T s w m (fF T k i)).length_le
              rw [List.length_append]
              simp
              omega
      exact key k
    · exact ⟨F, hl⟩
theorem fF_lengthS {T : Tab} {k n : Nat} (O : StOk T k n) (i : Nat) : (fF T k i).length ≤ n := by
  obtain ⟨F, _⟩ := fF_okS O i
  have h := nodup_lt_length n F.nd fun x hx => by
    obtain ⟨p, hp, rfl⟩ := List.mem_map.mp hx
    exact (F.lt p.1 p.2 hp).1
  rwa [List.length_map] at h
end Own
namespace Own
open PySem PySem.Spec PyProof.Rows L2
theorem BOk.rowlen {T : Tab} {k n : Nat} (O : BOk T k n) {s : Nat} (hs : s < n) : (T.rows.getD s []).length = k := (O.rowget hs).1
theorem BOk.at_st {T : Tab} {k n : Nat} (O : BOk T k n) {s l : Nat} (hs : s < n) (hl : l < k) : atI ((T.rows.getD s []).map nV) (l : Nat) = some (.int (T.st s l : Nat)) := O.at_stB hs hl
section
variable {P : Program} {w : World} {K : PySem.W.Frag} {mg : Str → Option Value} {base : Heap}
abbrev s_is_integer : Stmt := topS 7
theorem sc_is_integer : FnScope ["value"] ["value"] (defScope s_is_integer) := ⟨rfl, rfl, rfl, by decide +kernel, rfl, by decide +kernel, by decide +kernel⟩
def sp_is_integer : Sp := fun vs H Q _ => ∃ i : Int, vs = [.int i] ∧ Q (.bl true) H
theorem ok_is_integer {f : Addr} {fd : FuncData} (F : Fun K "is_integer" "is_integer" s_is_integer f fd) (B : Bt mg) : FnOk P w K mg base CX0 1 f fd ["value"] sp_is_integer := by
  refine F.ok sc_is_integer (fun vs H Q E h => ?_) (fun cdv A outer s H vs Q E hr h => ?_)
  · obtain ⟨i, rfl, _⟩ := h
    rfl
  obtain ⟨i, rfl, q⟩ := h
  refine ⟨_, (pss_one (ps_ret (pe_and (pe_callB (c_isi K) (by rfl) B.isinstance bt_isinstance (pa_cons (pv 0) (pa_cons (pe_bltn (v := .ty "int") (by rfl) B.int bt_int rfl) pa_nil))) (pe_one (pe_not (pe_callB (c_isi K) (by rfl) B.isinstance bt_isinstance (pa_cons (pv 0) (pa_cons (pe_bltn (v := .ty "bool") (by rfl) B.bool bt_bool rfl) pa_nil)))))))), ?_⟩
  refine ⟨_, rfl, _, _, _, _, true, rfl, .ty "int", .base (.int i), kit_ty (by decide +kernel), true, rfl, iteT ?_⟩
  exact ⟨_, rfl, _, _, _, _, false, rfl, .ty "bool", .base (.int i), kit_ty (by decide +kernel), false, rfl, q⟩
abbrev s_is_between : Stmt := topS 8
theorem sc_is_between : FnScope ["value", "low", "high"] ["value", "low", "high"] (defScope s_is_between) := ⟨rfl, rfl, rfl, by decide +kernel, rfl, by decide +kernel, by decide +kernel⟩
def sp_is_between : Sp := fun vs H Q _ => ∃ v lo hi : Int, vs = [.int v, .int lo, .int hi] ∧ Q (.bl (decide (lo ≤ v) && decide (v ≤ hi))) H
theorem ok_is_between {f : Addr} {fd : FuncData} (F : Fun K "is_between" "is_between" s_is_between f fd) (B : Bt mg) (C_is_integer : Got P w K mg base CX0 1 "is_integer" ["value"] sp_is_integer) :
    FnOk P w K mg base CX0 2 f fd ["value", "low", "high"] sp_is_between := by
  refine F.ok sc_is_between (fun vs H Q E h => ?_) (fun cdv A outer s H vs Q E hr h => ?_)
  · obtain ⟨v, lo, hi, rfl, _⟩ := h
    rfl
  obtain ⟨v, lo, hi, rfl, q⟩ := h
  refine ⟨_, (pss_one (ps_ret (pe_and (C_is_integer.call hr (by rfl) (pa_cons (pv 0) pa_nil)) (pe_one (pe_chain op_le op_le (pv 1) (pv 0) (pv 2)))))), ?_⟩
  refine ⟨_, rfl, v, rfl, true, rfl, iteT ?_⟩
  refine ⟨_, rfl, _, rfl, _, _, rfl, rfl, _, rfl, ite2 (fun c => ?_) (fun c => ?_)⟩
  · rw [c, Bool.true_and] at q
    exact ⟨_, rfl, _, _, rfl, rfl, q⟩
  · rw [Bool.eq_false_iff.mpr c, Bool.false_and] at q
    exact q
abbrev s_is_tuple_of : Stmt := topS 9
theorem sc_is_tuple_of : FnScope ["value", "many"] ["value", "many"] (defScope s_is_tuple_of) := ⟨rfl, rfl, rfl, by decide +kernel, rfl, by decide +kernel, by decide +kernel⟩
def sp_is_tuple_of (K : PySem.W.Frag) : Sp := fun vs H Q _ => ∃ (a : Addr) (xs : List V), vs = [.ref a, nV xs.length] ∧ SqT K H a xs ∧ Q (.bl true) H
theorem ok_is_tuple_of {f : Addr} {fd : FuncData} (F : Fun K "is_tuple_of" "is_tuple_of" s_is_tuple_of f fd) (B : Bt mg) : FnOk P w K mg base CX0 1 f fd ["value", "many"] (sp_is_tuple_of K) := by
  refine F.ok sc_is_tuple_of (fun vs H Q E h => ?_) (fun cdv A outer s H vs Q E hr h => ?_)
  · obtain ⟨a, xs, rfl, _⟩ := h
    rfl
  obtain ⟨a, xs, rfl, hx, q⟩ := h
  refine ⟨_, (pss_one (ps_ret (pe_and (pe_callB (c_isi K) (by rfl) B.isinstance bt_isinstance (pa_cons (pv 0) (pa_cons (pe_bltn (v := .ty "tuple") (by rfl) B.tuple bt_tuple rfl) pa_nil))) (pe_one (pe_cmpR op_eq (pe_callB (c_len K) (by rfl) B.len bt_len (pa_cons (pv 0) pa_nil)) (pv 1) (nomark _)))))), ?_⟩
  refine ⟨_, rfl, _, _, _, _, true, rfl, .ty "tuple", tyx_tup hx, kit_ty (by decide +kernel), true, rfl, iteT ?_⟩
  refine ⟨_, rfl, a, xs, rfl, .inr hx, _, rfl, rfl, ?_⟩
  rw [show nV xs.length = V.int (xs.length : Nat) from rfl, decide_eq_true rfl]
  exact q
abbrev s_table_size : Stmt := topS 15
theorem sc_table_size : FnScope ["table"] ["table"] (defScope s_table_size) := ⟨rfl, rfl, rfl, by decide +kernel, rfl, by decide +kernel, by decide +kernel⟩
def sp_table_size (K : PySem.W.Frag) : Sp := fun vs H Q _ => ∃ (t r e : Addr) (T : Tab) (k n : Nat), vs = [.ref t] ∧ TabAt K H t r e T ∧ BOk T k n ∧ Q (nV k) H
theorem ok_table_size {f : Addr} {fd : FuncData} (F : Fun K "table_size" "table_size" s_table_size f fd) (B : Bt mg) : FnOk P w K mg base CX0 1 f fd ["table"] (sp_table_size K) := by
  refine F.ok sc_table_size (fun vs H Q E h => ?_) (fun cdv A outer s H vs Q E hr h => ?_)
  · obtain ⟨t, r, e, T, k, n, rfl, _⟩ := h
    rfl
  obtain ⟨t, r, e, T, k, n, rfl, A1, O, q⟩ := h
  refine ⟨_, (pss_one (ps_ret (pe_callB (c_len K) (by rfl) B.len bt_len (pa_cons (p_ixt K (p_ixt K (pv 0) pe_int) pe_int) pa_nil)))), ?_⟩
  have h0 : 0 < n := O.n1
  obtain ⟨a, xs, h1, h2, h3, _, h4⟩ := A1.rows.get (s := 0) (by rw [O.rl]; exact h0)
  refine ⟨_, rfl, t, _, _, _, rfl, rfl, A1.top, rfl, r, _, _, _, rfl, rfl, h1, h3, a, _, rfl, .inr h4, ?_⟩
  rw [List.length_map, O.rowlen h0]
  exact q
abbrev s_first_texts : Stmt := topS 11
theorem sc_first_texts : FnScope ["rows", "start", "texts", "queue", "at", "stand", "letter", "later"] ["rows", "start"] (defScope s_first_texts) := ⟨rfl, rfl, rfl, by decide +kernel, rfl, by decide +kernel, by decide +kernel⟩
def sp_first_texts (K : PySem.W.Frag) : Sp := fun vs H Q _ => ∃ (r : Addr) (T : Tab) (k n : Nat), vs = [.ref r, .int 0] ∧ RowsAt K H r T.rows ∧ BOk T k n ∧
  ∀ (d : Addr) (H' : Hp), Same H H' → H d = none → H' d = some (.dK (kF (fF T k n))) → Q (.ref d) H'
theorem ok_first_texts {f : Addr} {fd : FuncData} {dvs : List V} (F : FunD K "first_texts" "first_texts" (defArgs s_first_texts) (defBody s_first_texts) (defScope s_first_texts) dvs [] f fd) (B : Bt mg) : FnOk P w K mg base CX0 1 f fd ["rows", "start"] (sp_first_texts K) := by
  refine okD F sc_first_texts (fun vs H Q E h => ?_) (fun cdv A outer s H vs Q E hr h => ?_)
  · obtain ⟨r, T, k, n, rfl, _⟩ := h
    rfl
  obtain ⟨r, T, k, n, rfl, A1, O, q⟩ := h
  have hu := hu_of hr
  refine ⟨_, ((pss_cons (ps_set (i := 2) sc_first_texts.nd rfl (Or.inl rfl) (pe_disp (pps_cons (pv 1) pe_str pps_nil) (by rfl) (by rfl) (fun z => by cases z) (by decide))) (pss_cons (ps_set (i := 3) sc_first_texts.nd rfl (Or.inl rfl) (pe_lst (pa_cons (pv 1) pa_nil))) (pss_cons (ps_set (i := 4) sc_first_texts.nd rfl (Or.inl rfl) pe_int) (pss_cons (ps_while PassesOwn.never (pt_cmpR op_lt (pv 4) (pe_callB (c_len K) (by rfl) B.len bt_len (pa_cons (pv 3) pa_nil)) (nomark _)) (pss_cons (ps_set (i := 5) sc_first_texts.nd rfl (Or.inl rfl) (p_ixl K (pv 3) (pv 4))) (pss_cons (ps_for PassesOwn.never rfl (pi_enumT (by rfl) B.enumerate (pa_cons (p_ixt K (pv 0) (pv 5)) pa_nil)) (g_tup K 2 (pgs_cons (pg_name (i := 6) sc_first_texts.nd rfl (Or.inl rfl)) (pgs_cons (pg_name (i := 7) sc_first_texts.nd rfl (Or.inl rfl)) pgs_nil))) (pss_one (ps_if (t_nind hu (pv 7) (pv 2)) (pss_cons (p_dput hu (pv 2) (pv 7) (pe_op op_add_str (p_ixd hu (pv 2) (pv 5)) (p_ixs (pe_g (by rfl) B.gLetters) (pv 6)))) (pss_one (ps_expr (p_app K (pv 3) (pa_cons (pv 7) pa_nil))))) pss_nil))) (pss_one (ps_aug (i := 4) sc_first_texts.nd rfl (Or.inl rfl) pe_int ip_add))))) (pss_one (ps_ret (pv 2)))))))), ?_⟩
  -- texts = {start: ''}; queue = [start]; at = 0
  intro d nd
  refine ⟨_, rfl, upd_same, [((Sum.inl (0 : Int) : Key), V.str "")], rfl, by decide, ?_⟩
  rw [upd_upd]
  have s1 : Same H (upd H d (.dK (mergeK [] [((Sum.inl (0 : Int) : Key), V.str "")]))) := same_new nd _
  refine ⟨_, rfl, by decide, fun qa nq => ?_⟩
  have nqd : d ≠ qa := ne_of_none upd_same nq
  have ef0 : mergeK [] [((Sum.inl (0 : Int) : Key), V.str "")] = kF (fF T k 0) := by
    rw [empty_eq]
    rfl
  rw [ef0] at *
  refine ⟨fun m σ H2 => ∃ (i : Nat) (v5 v6 v7 : Option V), m + i = n ∧ i ≤ (fF T k i).length ∧ σ = [some (.ref r), some (.int 0), some (.ref d), some (.ref qa), some (nV i), v5, v6, v7] ∧ Same H H2 ∧ H2 d = some (.dK (kF (fF T k i))) ∧ H2 qa = some (.lst ((fF T k i).map fun p => nV p.1)),
    ⟨n, 0, none, none, none, by omega, Nat.zero_le _, rfl, s1.trans (same_new nq _), ?_, upd_same⟩, ?_⟩
  · rw [upd_ne nqd]
    exact upd_same
  rintro m σ H2 ⟨i, v5, v6, v7, hm, hil, rfl, s2, hd, hq⟩
  have hFn := fF_lengthS O.stOk i
  refine ⟨_, rfl, _, rfl, qa, _, rfl, .inl (SqL.of hq), _, _, rfl, rfl, _, rfl, ?_⟩
  rw [List.length_map]
  refine ite2 (fun c => ?_) (fun c => ?_)
  · have hi : i < (fF T k i).length := by
      have c := of_decide_eq_true c
      omega
    obtain ⟨⟨s0, w0⟩, e0⟩ : ∃ p, (fF T k i)[i]? = some p := ⟨_, List.getElem?_eq_getElem hi⟩
    obtain ⟨Fo, hwl⟩ := fF_okS O.stOk i
    obtain ⟨hs0, hw0, hr0, _⟩ := Fo.lt s0 w0 (List.mem_of_getElem? e0)
    have hl0 := hwl i s0 w0 e0
    refine ⟨fun σ' H' => ∃ m', m' < m ∧ ∃ (i : Nat) (v5 v6 v7 : Option V), m' + i = n ∧ i ≤ (fF T k i).length ∧ σ' = [some (.ref r), some (.int 0), some (.ref d), some (.ref qa), some (nV i), v5, v6, v7] ∧ Same H H' ∧ H' d = some (.dK (kF (fF T k i))) ∧ H' qa = some (.lst ((fF T k i).map fun p => nV p.1)), fun _ _ h => h, ?_⟩
    refine ⟨_, rfl, _, rfl, qa, _, _, nV s0, rfl, rfl, SqL.of hq, atI_nat (by rw [List.getElem?_map, e0]; rfl), ?_⟩
    obtain ⟨a, xs, h1, h2, h3, _, h4⟩ := (A1.same s2).get (s := s0) (by rw [O.rl]; exact hs0)
    refine ⟨_, rfl, _, rfl, r, _, _, _, rfl, rfl, h1, h3, a, _, rfl, h4, ?_⟩
    have hlen : ((T.rows.getD s0 []).map nV).length = k := by rw [List.length_map, O.rowlen hs0]
    refine for_it (walk_enumT (K := K) (a := a) (xs := (T.rows.getD s0 []).map nV)) (fun l σ H3 => ∃ (v6 v7 : Option V), σ = [some (.ref r), some (.int 0), some (.ref d), some (.ref qa), some (nV i), some (nV s0), v6, v7] ∧ Same H H3 ∧ SqT K H3 a ((T.rows.getD s0 []).map nV) ∧ H3 d = some (.dK (kF (fRow T s0 w0 l (fF T k i)))) ∧ H3 qa = some (.lst ((fRow T s0 w0 l (fF T k i)).map fun p => nV p.1)))
      ⟨v6, v7, rfl, s2, h4, hd, hq⟩ (fun l σ H3 _ h => ?_) ?_ ?_
    · obtain ⟨_, _, _, _, h, _⟩ := h
      exact h
    · rintro l x σ H3 H4 hl ⟨v6, v7, rfl, s3, h4, hd3, hq3⟩ ⟨Tp, x1, x2, rfl, nT, rfl, e1, e2⟩
      rw [hlen] at hl
      have ex1 : V.int (l : Nat) = x1 := Option.some.inj e1
      have ex2 : nV (T.st s0 l) = x2 := by
        have z := O.at_st hs0 hl
        have hl2 : l < ((T.rows.getD s0 []).map nV).length := by omega
        rw [atI_nat (List.getElem?_eq_getElem hl2)] at z
        have e2 : ((T.rows.getD s0 []).map nV)[l]? = some x2 := e2
        rw [List.getElem?_eq_getElem hl2] at e2
        exact (Option.some.inj z).symm.trans (Option.some.inj e2)
      subst ex1
      subst ex2
      have Fl := Fo.rowS O.stOk hw0 (by omega) hs0 hr0 l (by omega)
      have hpre := fRow_pre T s0 w0 l (fF T k i)
      have hlen3 : (fRow T s0 w0 l (fF T k i)).length ≤ n := by
        have z := nodup_lt_length n Fl.nd fun x hx => by
          obtain ⟨p, hp, rfl⟩ := List.mem_map.mp hx
          exact (Fl.lt p.1 p.2 hp).1
        rwa [List.length_map] at z
      have h40 := O.n40
      have s4 : Same H3 (upd H3 Tp (.tup [.int (l : Nat), nV (T.st s0 l)])) := same_new nT _
      have hd4 := s4 _ _ hd3
      have hq4 := s4 _ _ hq3
      refine ⟨Tp, _, rfl, SqT.new, rfl, _, _, rfl, _, _, rfl, rfl, ?_⟩
      refine ⟨_, rfl, _, rfl, d, _, rfl, DGet.k (k := kK (T.st s0 l)) hd4, _, rfl, ?_⟩
      by_cases hin : T.st s0 l ∈ (fRow T s0 w0 l (fF T k i)).map (·.1)
      · obtain ⟨p, hp, ep⟩ := List.mem_map.mp hin
        have ev : valV (kF (fRow T s0 w0 l (fF T k i))) (kK (T.st s0 l)) = some (.str (tx p.2)) := kF_some Fl.nd (by rw [← ep]; exact hp)
        rw [ev]
        refine iteF ?_
        refine ⟨_, _, rfl, s3.trans s4, Same.tup s4 h4, ?_, ?_⟩
        · rw [fRow, fAdd, if_pos hin]
          exact hd4
        · rw [fRow, fAdd, if_pos hin]
          exact hq4
      · rw [kF_none hin]
        refine iteT ?_
        have hz : (kF (fRow T s0 w0 l (fF T k i))).length < sizeLine := by
          rw [kF_length]
          exact small1000 (by omega)
        have ev : valV (kF (fRow T s0 w0 l (fF T k i))) (kK s0) = some (.str (tx w0)) := kF_some Fl.nd (List.mem_of_getElem? (pre_get hpre e0))
        have hk3 := O.k3
        refine ⟨_, rfl, _, rfl, d, _, rfl, (by rw [← ev]; exact DGet.k (k := kK s0) hd4), _, rfl, _, _, l + 97, rfl, rfl, (by decide), ?_, _, _, rfl, rfl, ?_, _, rfl, _, rfl, d, _, rfl, DPut.k (k := kK (T.st s0 l)) hd4 hz, ?_⟩
        · refine atI_nat ?_
          rw [abc_eq, Array.getElem?_toList]
          exact at_abc l (by omega)
        · rw [tx_length]
          show w0.length + 1 ≤ sizeLine
          exact Nat.le_of_lt (small1000 (by omega))
        · rw [putK_new _ (kF_none hin)]
          have e3 : kF (fRow T s0 w0 l (fF T k i)) ++ [(kK (T.st s0 l), V.str (tx w0 ++ sg l))] = kF (fRow T s0 w0 (l + 1) (fF T k i)) := by
            rw [sg_eq, tx_append, fRow, fAdd, if_neg hin, kF_snoc]
          have e4 : (⟨#[l + 97]⟩ : Str) = sg l := rfl
          rw [e4, e3]
          have ndq : qa ≠ d := nqd.symm
          have hq5 : (upd (upd H3 Tp (.tup [.int (l : Nat), nV (T.st s0 l)])) d (.dK (kF (fRow T s0 w0 (l + 1) (fF T k i))))) qa = some (.lst ((fRow T s0 w0 l (fF T k i)).map fun p => nV p.1)) := by
            rw [upd_ne ndq]
            exact hq4
          refine ⟨_, rfl, .inl ⟨rfl, _, SqL.of hq5⟩, _, rfl, qa, _, _, rfl, rfl, hq5, ?_, ?_⟩
          · rw [List.length_map]
            exact small1000 (by omega)
          · refine ⟨_, _, rfl, fun b o e => ?_, ?_, ?_, ?_⟩
            · rw [upd_ne (ne_of_none (s1 _ _ e) nq), upd_ne (ne_of_none e nd)]
              exact s4 _ _ (s3 _ _ e)
            · have na : ∀ b o, (upd H3 Tp (.tup [.int (l : Nat), nV (T.st s0 l)])) b = some o → (∀ ys, o ≠ .dK ys) → (∀ ys, o ≠ .lst ys) → (upd (upd (upd H3 Tp (.tup [.int (l : Nat), nV (T.st s0 l)])) d (.dK (kF (fRow T s0 w0 (l + 1) (fF T k i))))) qa (.lst ((fRow T s0 w0 l (fF T k i)).map (fun p => nV p.1) ++ [nV (T.st s0 l)]))) b = some o := by
                intro b o e n1 n2
                rw [upd_ne (ne_of e hq4 (n2 _)), upd_ne (ne_of e hd4 (n1 _))]
                exact e
              rcases Same.tup s4 h4 with (z | ⟨o, z⟩) | z
              · exact .inl (.inl (na _ _ z (fun _ q => nomatch q) (fun _ q => nomatch q)))
              · exact .inl (.inr ⟨o, na _ _ z (fun _ q => nomatch q) (fun _ q => nomatch q)⟩)
              · exact .inr z
            · rw [upd_ne nqd]
              exact upd_same
            · rw [upd_same, fRow, fAdd, if_neg hin, List.map_append]
              rfl
    · rintro σ H3 ⟨v6, v7, rfl, s3, h4, hd3, hq3⟩
      rw [hlen] at hd3 hq3
      have e5 : fRow T s0 w0 k (fF T k i) = fF T k (i + 1) := by rw [fF, e0]
      rw [e5] at hd3 hq3
      refine ⟨_, rfl, _, _, rfl, rfl, m - 1, by omega, i + 1, _, _, _, by omega, ?_, rfl, s3, hd3, hq3⟩
      have z := (fF_pre T k i).length_le
      omega
  · have hi : (fF T k i).length ≤ i := by
      have c : ¬ ((i : Nat) : Int) < ((fF T k i).length : Nat) := of_decide_eq_false (Bool.eq_false_iff.mpr c)
      omega
    refine ⟨_, rfl, q d H2 s2 nd ?_⟩
    rw [fF_stop hi n (by omega)]
    exact hd
abbrev s_are_rows : Stmt := topS 17
theorem sc_are_rows : FnScope ["rows", "row", "later"] ["rows"] (defScope s_are_rows) := ⟨rfl, rfl, rfl, by decide +kernel, rfl, by decide +kernel, by decide +kernel⟩
def sp_are_rows (K : PySem.W.Frag) : Sp := fun vs H Q _ => ∃ (r : Addr) (T : Tab) (k n : Nat), vs = [.ref r] ∧ RowsAt K H r T.rows ∧ BOk T k n ∧ ∀ H', Same H H' → Q (.bl true) H'
theorem ok_are_rows {f : Addr} {fd : FuncData} (F : Fun K "_are_rows" "_are_rows" s_are_rows f fd) (B : Bt mg) (C_is_tuple_of : Got P w K mg base CX0 1 "is_tuple_of" ["value", "many"] (sp_is_tuple_of K)) (C_is_between : Got P w K mg base CX0 2 "is_between" ["value", "low", "high"] sp_is_between) :
    FnOk P w K mg base CX0 3 f fd ["rows"] (sp_are_rows K) := by
  refine F.ok sc_are_rows (fun vs H Q E h => ?_) (fun cdv A outer s H vs Q E hr h => ?_)
  · obtain ⟨r, T, k, n, rfl, _⟩ := h
    rfl
  obtain ⟨r, T, k, n, rfl, A1, O, q⟩ := h
  have hr1 : Room 1 _ := hr.mono (by decide)
  refine ⟨_, (pss_cons (ps_if (PW.pt (pw_or (pt_not (pt_val (pe_callB (c_isi K) (by rfl) B.isinstance bt_isinstance (pa_cons (p_ixt K (pv 0) pe_int) (pa_cons (pe_bltn (v := .ty "tuple") (by rfl) B.tuple bt_tuple rfl) pa_nil))))) (pw_or1 (pt_not (pt_chain op_le op_le pe_int (pe_callB (c_len K) (by rfl) B.len bt_len (pa_cons (p_ixt K (pv 0) pe_int) pa_nil)) (pe_callB call_len_str (by rfl) B.len bt_len (pa_cons (pe_g (by rfl) B.gLetters) pa_nil))))))) (pss_one (ps_ret pe_bl)) pss_nil) (pss_cons (ps_if (pt_not (pt_val (pe_callB (c_all K) (by rfl) B.all bt_all (pa_cons (pe_lc (own := [("row", 1)]) rfl sc_are_rows.nd (p_tup K (pv 0)) (blkOk_by (by kernel_rfl)) (fun _ _ _ _ _ => (pg_name (i := 1) sc_are_rows.nd rfl (Or.inl rfl))) (fun _ _ _ _ _ => pts_nil) (fun _ _ _ _ _ => (C_is_tuple_of.call hr1 (by rfl) (pa_cons (pv 1) (pa_cons (pe_callB (c_len K) (by rfl) B.len bt_len (pa_cons (p_ixt K (pv 0) pe_int) pa_nil)) pa_nil))))) pa_nil)))) (pss_one (ps_ret pe_bl)) pss_nil) (pss_one (ps_ret (pe_callB (c_all K) (by rfl) B.all bt_all (pa_cons (pe_lc2 (own := [("row", 1), ("later", 2)]) (vs1 := [2]) rfl sc_are_rows.nd (p_tup K (pv 0)) (blkOk_by (by kernel_rfl)) (by decide) (fun _ _ _ _ _ => (pg_name (i := 1) sc_are_rows.nd rfl (Or.inl rfl))) (fun _ _ _ _ _ => pts_nil) (fun _ _ _ _ _ => (p_tup K (pv 1))) (fun _ _ _ _ _ => (pg_name (i := 2) sc_are_rows.nd rfl (Or.inl rfl))) (fun _ _ _ _ _ => pts_nil) (fun _ _ _ _ _ => (C_is_between.call hr (by rfl) (pa_cons (pv 2) (pa_cons pe_int (pa_cons (pe_op op_sub (pe_callB (c_len K) (by rfl) B.len bt_len (pa_cons (pv 0) pa_nil)) pe_int) pa_nil)))))) pa_nil)))))), ?_⟩
  have h0 : 0 < n := O.n1
  have hk1 := O.k1
  have hk3 := O.k3
  have h40 := O.n40
  obtain ⟨as, h1, k2, k3⟩ := id A1
  have row : ∀ i, i < n → ∃ a, as[i]? = some a ∧ (as.map V.ref)[i]? = some (.ref a) ∧ SqT K H a ((T.rows.getD i []).map nV) := by
    intro i hi
    have h2 : i < T.rows.length := by rw [O.rl]; exact hi
    have h3 : i < as.length := by omega
    refine ⟨as[i], List.getElem?_eq_getElem h3, by rw [List.getElem?_map, List.getElem?_eq_getElem h3]; rfl, ?_⟩
    have e2 : T.rows.getD i [] = T.rows[i] := by rw [List.getD_eq_getElem?_getD, List.getElem?_eq_getElem h2, Option.getD_some]
    rw [e2]
    exact k3 i _ _ (List.getElem?_eq_getElem h3) (List.getElem?_eq_getElem h2)
  have hasl : (as.map V.ref).length = n := by rw [List.length_map, k2, O.rl]
  obtain ⟨a, _, h3, h4⟩ := row 0 h0
  have h3' := atI_nat h3
  have hlen : ∀ i, i < n → ((T.rows.getD i []).map nV).length = k := fun i hi => by rw [List.length_map, O.rowlen hi]
  refine ⟨_, rfl, r, _, _, _, rfl, rfl, h1, h3', _, _, _, _, true, rfl, .ty "tuple", tyx_tup h4, kit_ty (by decide +kernel), true, rfl, iteF ?_⟩
  refine ⟨_, rfl, r, _, _, _, rfl, rfl, h1, h3', a, _, rfl, .inr h4, _, _, rfl, rfl, true, ?_, iteT ?_⟩
  · rw [hlen 0 h0]
    exact congrArg V.bl (decide_eq_true (by omega))
  refine ⟨_, rfl, by decide, _, _, rfl, rfl, true, ?_, iteF ?_⟩
  · rw [hlen 0 h0, abc_eq, tx_length]
    exact congrArg V.bl (decide_eq_true (by show ((k : Nat) : Int) ≤ ((3 : Nat) : Int); omega))
  -- all rows are tuples of the first one's length
  refine ⟨_, rfl, r, rfl, ⟨_, h1⟩, fun D nD => ?_⟩
  refine lc_map (walk_tup (K := K) (a := r) (xs := as.map V.ref)) nD (fun _ => .bl true) (by rw [hasl]; exact small1000 (by omega)) (fun H1 s1 => Same.tup s1 h1) ?_ ?_
  · rintro i x H1 H2 hi s1 ⟨rfl, hx⟩ R hR
    have hin : i < n := by rw [← hasl]; exact hi
    obtain ⟨b, _, g3, g4⟩ := row i hin
    rw [g3] at hx
    obtain rfl := Option.some.inj hx
    refine ⟨rfl, _, rfl, _, rfl, r, _, _, _, rfl, rfl, Same.tup s1 h1, h3', a, _, rfl, .inr (Same.tup s1 h4), b, _, ?_, Same.tup s1 g4, hR H2 (Same.refl _)⟩
    rw [hlen 0 h0, hlen i hin]
    rfl
  intro H1 s1 e1
  refine ⟨_, (List.range (as.map V.ref).length).map fun _ => true, rfl, SqL.of (by rw [e1, List.map_map]; rfl), true, ?_, iteF ?_⟩
  · refine congrArg V.bl (List.all_eq_true.mpr fun x hx => ?_)
    obtain ⟨_, _, rfl⟩ := List.mem_map.mp hx
    rfl
  -- all items are stands
  refine ⟨_, rfl, r, rfl, ⟨_, Same.tup s1 h1⟩, fun D nD => ?_⟩
  refine ⟨fun i m H2 => m + i = n ∧ Same H H2 ∧ ∃ z, H2 D = some (.lst (List.replicate z (.bl true))) ∧ z ≤ 3 * i, ⟨n, by omega, s1.trans (same_new nD _), 0, upd_same, by omega⟩, ?_⟩
  rintro i m H2 ⟨hm, s2, z, hz, hzl⟩
  by_cases hi : i < n
  · refine .inr ⟨⟨_, .ref (as[i]'(by rw [List.length_map] at hasl; omega)), Same.tup s2 h1, ?_⟩, fun H3 => Same H H3 ∧ ∃ z, H3 D = some (.lst (List.replicate z (.bl true))) ∧ z ≤ 3 * (i + 1), fun H3 h => ⟨m - 1, by omega, by omega, h⟩, ?_⟩
    · rw [List.getElem?_map, List.getElem?_eq_getElem (by rw [List.length_map] at hasl; omega)]
      rfl
    rintro x H3 ⟨rfl, hx⟩
    obtain ⟨b, _, g3, g4⟩ := row i hi
    have hx := hx _ (Same.tup s2 h1)
    rw [g3] at hx
    obtain rfl := Option.some.inj hx
    refine ⟨rfl, _, rfl, b, rfl, ⟨_, Same.tup s2 g4⟩, ?_⟩
    refine ⟨fun j m' H4 => m' + j = k ∧ Same H H4 ∧ ∃ z, H4 D = some (.lst (List.replicate z (.bl true))) ∧ z ≤ 3 * i + j, ⟨k, by omega, s2, z, hz, by omega⟩, ?_⟩
    rintro j m' H4 ⟨hm', s4, z4, hz4, hzl4⟩
    by_cases hj : j < k
    · have hj2 : j < ((T.rows.getD i []).map nV).length := by rw [hlen i hi]; exact hj
      refine .inr ⟨⟨_, ((T.rows.getD i []).map nV)[j], Same.tup s4 g4, List.getElem?_eq_getElem hj2⟩, fun H5 => Same H H5 ∧ ∃ z, H5 D = some (.lst (List.replicate z (.bl true))) ∧ z ≤ 3 * i + (j + 1), fun H5 h => ⟨m' - 1, by omega, by omega, h⟩, ?_⟩
      rintro x H5 ⟨rfl, hx⟩
      have hx := hx _ (Same.tup s4 g4)
      have hst := O.at_st hi hj
      rw [atI_nat (List.getElem?_eq_getElem hj2)] at hst
      rw [List.getElem?_eq_getElem hj2] at hx
      obtain rfl : x = nV (T.st i j) := (Option.some.inj hx).symm.trans (Option.some.inj hst)
      have hlt := O.st_lt hi hj
      refine ⟨rfl, _, rfl, _, rfl, r, _, rfl, .inr (Same.tup s4 h1), _, _, rfl, rfl, _, _, _, rfl, ?_⟩
      refine ⟨_, hz4, ?_, fun c o e => ?_, z4 + 1, ?_, by omega⟩
      · rw [List.length_replicate]
        exact small1000 (by omega)
      · rw [upd_ne (ne_of_none (s1 _ _ e) nD)]
        exact s4 _ _ e
      · have eb : (decide ((0 : Int) ≤ ((T.st i j : Nat) : Int)) && decide (((T.st i j : Nat) : Int) ≤ (((as.map V.ref).length : Nat) : Int) - 1)) = true := by
          rw [hasl, Bool.and_eq_true]
          exact ⟨decide_eq_true (by omega), decide_eq_true (by omega)⟩
        rw [upd_same, eb, List.replicate_succ']
    · exact .inl ⟨⟨_, Same.tup s4 g4, by rw [hlen i hi]; omega⟩, s4, z4, hz4, by omega⟩
  · refine .inl ⟨⟨_, Same.tup s2 h1, by rw [hasl]; omega⟩, ?_⟩
    refine ⟨D, List.replicate z true, rfl, SqL.of (by rw [hz, List.map_replicate]), ?_⟩
    have e : (List.replicate z true).all id = true := List.all_eq_true.mpr fun x hx => List.eq_of_mem_replicate hx
    rw [e]
    exact q H2 s2
abbrev s_is_table : Stmt := topS 16
theorem sc_is_table : FnScope ["table", "rows", "ends", "end"] ["table"] (defScope s_is_table) := ⟨rfl, rfl, rfl, by decide +kernel, rfl, by decide +kernel, by decide +kernel⟩
def sp_is_table (K : PySem.W.Frag) : Sp := fun vs H Q _ => ∃ (t r e : Addr) (T : Tab) (k n : Nat), vs = [.ref t] ∧ TabAt K H t r e T ∧ BOk T k n ∧ ∀ (b : Bool) H', (T.Ok k n → b = true) → Same H H' → Q (.bl b) H'
theorem ok_is_table {f : Addr} {fd : FuncData} (F : Fun K "is_table" "is_table" s_is_table f fd) (B : Bt mg) (C_is_tuple_of : Got P w K mg base CX0 1 "is_tuple_of" ["value", "many"] (sp_is_tuple_of K)) (C_are_rows : Got P w K mg base CX0 3 "_are_rows" ["rows"] (sp_are_rows K))
    (C_first_texts : GotD P w K mg base CX0 1 "first_texts" ["rows", "start"] [.int 0] (sp_first_texts K)) : FnOk P w K mg base CX0 4 f fd ["table"] (sp_is_table K) := by
  refine F.ok sc_is_table (fun vs H Q E h => ?_) (fun cdv A outer s H vs Q E hr h => ?_)
  · obtain ⟨t, r, e, T, k, n, rfl, _⟩ := h
    rfl
  obtain ⟨t, r, e, T, k, n, rfl, A1, O, q⟩ := h
  have hr1 : Room 1 _ := hr.mono (by decide)
  refine ⟨_, (pss_cons (ps_if (PW.pt (pw_or (pt_not (pt_val (C_is_tuple_of.call hr1 (by rfl) (pa_cons (pv 0) (pa_cons pe_int pa_nil))))) (pw_or (pt_not (pt_val (pe_callB (c_isi K) (by rfl) B.isinstance bt_isinstance (pa_cons (p_ixt K (pv 0) pe_int) (pa_cons (pe_bltn (v := .ty "tuple") (by rfl) B.tuple bt_tuple rfl) pa_nil))))) (pw_or1 (pt_not (pt_val (pe_callB (c_isi K) (by rfl) B.isinstance bt_isinstance (pa_cons (p_ixt K (pv 0) pe_int) (pa_cons (pe_bltn (v := .ty "tuple") (by rfl) B.tuple bt_tuple rfl) pa_nil))))))))) (pss_one (ps_ret pe_bl)) pss_nil) (pss_cons (ps_asg (pv 0) (g_tup K 2 (pgs_cons (pg_name (i := 1) sc_is_table.nd rfl (Or.inl rfl)) (pgs_cons (pg_name (i := 2) sc_is_table.nd rfl (Or.inl rfl)) pgs_nil)))) (pss_cons (ps_if (PW.pt (pw_or (pt_not (pt_chain op_le op_le pe_int (pe_callB (c_len K) (by rfl) B.len bt_len (pa_cons (pv 1) pa_nil)) (pe_g (by rfl) B.gStands))) (pw_or1 (pt_cmpR op_ne (pe_callB (c_len K) (by rfl) B.len bt_len (pa_cons (pv 2) pa_nil)) (pe_callB (c_len K) (by rfl) B.len bt_len (pa_cons (pv 1) pa_nil)) (nomark _))))) (pss_one (ps_ret pe_bl)) pss_nil) (pss_cons (ps_if (PW.pt (pw_or (pt_not (pt_val (pe_callB (c_all K) (by rfl) B.all bt_all (pa_cons (pe_lc (own := [("end", 3)]) rfl sc_is_table.nd (p_tup K (pv 2)) (blkOk_by (by kernel_rfl)) (fun _ _ _ _ _ => (pg_name (i := 3) sc_is_table.nd rfl (Or.inl rfl))) (fun _ _ _ _ _ => pts_nil) (fun _ _ _ _ _ => (pe_callB (c_isi K) (by rfl) B.isinstance bt_isinstance (pa_cons (pv 3) (pa_cons (pe_bltn (v := .ty "bool") (by rfl) B.bool bt_bool rfl) pa_nil))))) pa_nil)))) (pw_or1 (pt_not (pt_val (C_are_rows.call hr (by rfl) (pa_cons (pv 1) pa_nil))))))) (pss_one (ps_ret pe_bl)) pss_nil) (pss_one (ps_ret (pe_cmpR op_eq (pe_callB call_lenD (by rfl) B.len bt_len (pa_cons (C_first_texts.call hr1 (by rfl) (pa_cons (pv 1) pa_nil)) pa_nil)) (pe_callB (c_len K) (by rfl) B.len bt_len (pa_cons (pv 1) pa_nil)) (nomark _)))))))), ?_⟩
  have hn1 := O.n1
  have h40 := O.n40
  refine ⟨_, rfl, t, _, rfl, A1.top, true, rfl, iteF ?_⟩
  refine ⟨_, rfl, t, _, _, _, rfl, rfl, A1.top, rfl, ?_⟩
  obtain ⟨xs, hx, hxl⟩ := A1.rows.len
  refine ⟨_, _, _, _, true, rfl, .ty "tuple", tyx_tup hx, kit_ty (by decide +kernel), true, rfl, iteF ?_⟩
  refine ⟨_, rfl, t, _, _, _, rfl, rfl, A1.top, rfl, _, _, _, _, true, rfl, .ty "tuple", tyx_tup A1.ends, kit_ty (by decide +kernel), true, rfl, iteF ?_⟩
  refine ⟨_, rfl, t, _, rfl, A1.top, rfl, _, _, rfl, _, _, rfl, rfl, ?_⟩
  have hel : (T.ends.map V.bl).length = n := by rw [List.length_map, O.el]
  have hrl : xs.length = n := by rw [hxl, O.rl]
  refine ⟨_, rfl, r, _, rfl, .inr hx, _, _, rfl, rfl, true, ?_, iteT ?_⟩
  · rw [hrl]
    exact congrArg V.bl (decide_eq_true (by omega))
  refine ⟨_, _, rfl, rfl, true, ?_, iteF ?_⟩
  · rw [hrl]
    exact congrArg V.bl (decide_eq_true (by omega))
  refine ⟨_, rfl, e, _, rfl, .inr A1.ends, _, rfl, r, _, rfl, .inr hx, rfl, false, ?_, iteF ?_⟩
  · rw [hel, hrl, decide_eq_true rfl]
    rfl
  -- all ends are booleans
  refine ⟨_, rfl, e, rfl, ⟨_, A1.ends⟩, fun D nD => ?_⟩
  refine lc_map (walk_tup (K := K) (a := e) (xs := T.ends.map V.bl)) nD (fun _ => .bl true) (by rw [hel]; exact small1000 (by omega)) (fun H1 s1 => Same.tup s1 A1.ends) ?_ ?_
  · rintro i x H1 H2 hi s1 ⟨rfl, hx⟩ R hR
    rw [List.getElem?_map] at hx
    cases e : T.ends[i]? with
    | none =>
      rw [e] at hx
      cases hx
    | some b =>
      rw [e] at hx
      obtain rfl : V.bl b = x := Option.some.inj hx
      exact ⟨rfl, _, rfl, _, _, _, _, true, rfl, .ty "bool", .base (.bl b), kit_ty (by decide +kernel), hR H2 (Same.refl _)⟩
  intro H1 s1 e1
  refine ⟨_, (List.range (T.ends.map V.bl).length).map fun _ => true, rfl, SqL.of (by rw [e1, List.map_map]; rfl), true, ?_, iteF ?_⟩
  · refine congrArg V.bl (List.all_eq_true.mpr fun x hx => ?_)
    obtain ⟨_, _, rfl⟩ := List.mem_map.mp hx
    rfl
  refine ⟨_, rfl, r, T, k, n, rfl, A1.rows.same s1, O, fun H2 s2 => ⟨true, rfl, iteF ?_⟩⟩
  have s12 := s1.trans s2
  refine ⟨_, rfl, r, T, k, n, rfl, A1.rows.same s12, O, fun d H3 s3 nd hd => ?_⟩
  refine ⟨d, _, rfl, hd, _, rfl, r, _, rfl, .inr (Same.tup (s12.trans s3) hx), rfl, ?_⟩
  refine q _ H3 (fun OO => ?_) (s12.trans s3)
  rw [kF_length, fF_full OO, hrl]
  exact decide_eq_true rfl
abbrev s_check_table : Stmt := topS 14
theorem sc_check_table : FnScope ["table"] ["table"] (defScope s_check_table) := ⟨rfl, rfl, rfl, by decide +kernel, rfl, by decide +kernel, by decide +kernel⟩
def sp_check_table (K : PySem.W.Frag) : Sp := fun vs H Q _ => ∃ (t r e : Addr) (T : Tab) (k n : Nat), vs = [.ref t] ∧ TabAt K H t r e T ∧ T.Ok k n ∧ ∀ H', Same H H' → Q .non H'
theorem ok_check_table {f : Addr} {fd : FuncData} (F : Fun K "check_table" "check_table" s_check_table f fd) (B : Bt mg) (C_is_table : Got P w K mg base CX0 4 "is_table" ["table"] (sp_is_table K)) : FnOk P w K mg base CX0 5 f fd ["table"] (sp_check_table K) := by
  refine F.ok sc_check_table (fun vs H Q E h => ?_) (fun cdv A outer s H vs Q E hr h => ?_)
  · obtain ⟨t, r, e, T, k, n, rfl, _⟩ := h
    rfl
  obtain ⟨t, r, e, T, k, n, rfl, A1, O, q⟩ := h
  refine ⟨_, (pss_one (ps_if (pt_not (pt_val (C_is_table.call hr (by rfl) (pa_cons (pv 0) pa_nil)))) (pss_one ps_never) pss_nil)), ?_⟩
  refine ⟨_, rfl, t, r, e, T, k, n, rfl, A1, O.bok, fun b H' hb s' => ?_⟩
  obtain rfl := hb O
  exact ⟨true, rfl, iteF (q H' s')⟩
abbrev s_check_most : Stmt := topS 24
theorem sc_check_most : FnScope ["most"] ["most"] (defScope s_check_most) := ⟨rfl, rfl, rfl, by decide +kernel, rfl, by decide +kernel, by decide +kernel⟩
def sp_check_most : Sp := fun vs H Q _ => ∃ k : Nat, vs = [nV k] ∧ 1 ≤ k ∧ k ≤ 4 ∧ Q .non H
theorem ok_check_most {f : Addr} {fd : FuncData} (F : Fun K "_check_most" "_check_most" s_check_most f fd) (B : Bt mg) (C_is_between : Got P w K mg base CX0 2 "is_between" ["value", "low", "high"] sp_is_between) : FnOk P w K mg base CX0 3 f fd ["most"] sp_check_most := by
  refine F.ok sc_check_most (fun vs H Q E h => ?_) (fun cdv A outer s H vs Q E hr h => ?_)
  · obtain ⟨k, rfl, _⟩ := h
    rfl
  obtain ⟨k, rfl, h1, h3, q⟩ := h
  refine ⟨_, (pss_one (ps_if (pt_not (pt_val (C_is_between.call hr (by rfl) (pa_cons (pv 0) (pa_cons pe_int (pa_cons (pe_g (by rfl) B.gLearnt) pa_nil)))))) (pss_one ps_never) pss_nil)), ?_⟩
  have e : (decide ((1 : Int) ≤ ((k : Nat) : Int)) && decide (((k : Nat) : Int) ≤ 4)) = true := by
    rw [Bool.and_eq_true]
    exact ⟨decide_eq_true (by omega), decide_eq_true (by omega)⟩
  exact ⟨_, rfl, ((k : Nat) : Int), 1, 4, rfl, true, congrArg V.bl e, iteF q⟩
end
end Own
namespace Own
open PySem PySem.Spec PyProof.Rows L2
/-! {(i, j): v}: a dict with one key, a tuple. -/
section
variable {X : Cx} {i value : Expr} {ty tv : TE} {pos : Pos}
/-- {k: v}, k a tuple of ints and texts -/
def tTDisp (ty tv : TE) : TE := fun σ H Q => ∀ p, H p = none → ty σ (upd H p (.dT [])) fun y H1 => tv σ H1 fun v H2 => ∃ b k, y = .ref b ∧ H2 p = some (.dT []) ∧ H2 b = some (.tup (k.map kV)) ∧ Q (.ref p) (upd H2 p (.dT [(k, v)]))
theorem pe_tdisp (hu : X.A.units + 1 < cLine) (hi : PE X i ty) (hv : PE X value tv) : PE X (.Dict [some i] [value] pos) (tTDisp ty tv) := by
  refine ⟨fun pins s σ H Q I q => ?_⟩
  have hn := I.hok.fresh (Nat.le_refl s.heap.objs.size)
  have I1 := I.laid (a := s.heap.objs.size) (o := .dT []) (h' := s.heap.push { cls := .type "dict", data := .dict #[] }) (t' := s.toks) (fun _ _ q => Heap.get?_push_of_some _ q) (Nat.le_refl _)
    (dt_empty s.heap I.big)
  rw [arm_eval_Dict]
  have shape : (evalEachOpt [some i] X.env).zip ((evalEach [value] X.env).map fun v => do let x ← v; standAt pos; pure x) = (pairTrees [some i] [value] X.env pos).map fun p => (some p.1, p.2) := zip_pairTrees [some i] [value] X.env pos rfl rfl
  rw [shape, dictDisplay_pairs (pairTrees [some i] [value] X.env pos) (fun z => nomatch z) (by show 1 < 17; decide)]
  refine wpAny_bind (wpAny_standAt (wpAny_bind ?_))
  unfold subDict
  refine wpAny_bind (wpAny_alloc ?_)
  refine wpAny_bind (wpAny_holding ?_)
  rw [if_pos (show (pairTrees [some i] [value] X.env pos).length ≤ 15 by show 1 ≤ 15; decide)]
  refine wpAny_bind (pairTrees_cons_walk (thn (hi.run pins _ σ _ _ I1 (q _ hn)) fun u s1 ⟨y, H1, I2, ry, q1⟩ => thn (hv.run pins s1 σ H1 _ I2 q1) fun r s2 ⟨v, H2, I3, rv, b, k, ey, e, eb, q2⟩ => pairTrees_nil_walk ?_))
  subst ey
  obtain rfl : u = Value.ref b := ry
  obtain ⟨_, hd, xs, rp, dd⟩ := dt_of I3.hok e
  have rp0 := rp
  cases rp
  refine wpAny_holding ?_
  rw [List.forIn_cons]
  refine wpAny_bind (wpAny_bind (wpAny_bind (wpAny_dictSet_heap (hsz := Nat.zero_le _) (show (tupleKind (mixKind X.prog X.w)).room X.A from Nat.lt_of_succ_lt hu) (key_of I3.hok eb) dd fun h' dd' hs => wpAny_pure ?_)))
  dsimp only
  rw [List.forIn_nil]
  refine wpAny_pure (wpAny_pure (wpAny_pure (wpAny_pure ⟨.ref s.heap.objs.size, _, ?_, rfl, q2⟩)))
  have he : ∃ q, h'.get? s.heap.objs.size = some q := let ⟨q, _, _, hq, _⟩ := dd'; ⟨q, hq⟩
  obtain ⟨q, es, ep, hq, h2, h3, h4, _, h5⟩ := dd'
  refine d_write I3 (by rw [e]; exact True.intro) hs he ⟨(show 1 ≤ sizeLine by decide), hd, _, (KT.put rp0 k eb rv).keeps fun c ys ec => ?_, q, es, ep, hq, h2, h3, h4, h5⟩
  rw [upd_ne (ne_of ec e (fun z => nomatch z))]
  exact ec
end
end Own
namespace Own
open PySem PySem.Spec PyProof.Rows L2
/-- the key of a pair of stands -/
def kP (p : Nat × Nat) : List Key := [kK p.1, kK p.2]
theorem kP_inj {p q : Nat × Nat} (h : kP p = kP q) : p = q := by
  unfold kP at h
  have h1 := kK_inj (List.cons.inj h).1
  have h2 := kK_inj (List.cons.inj (List.cons.inj h).2).1
  exact Prod.ext h1 h2
/-- what is known of the pairs -/
def kvW (T O : Tab) (k : Nat) (W : List Word) : List (List Key × V) := W.map fun w => (kP (pr T O w), nV (idx k w))
theorem kvW_none {T O : Tab} {k : Nat} {p : Nat × Nat} : ∀ {W : List Word}, p ∉ W.map (pr T O) → valV (kvW T O k W) (kP p) = none
  | [], _ => rfl
  | w :: W, h => by
    rw [List.map_cons] at h
    have e : ¬ kP (pr T O w) = kP p := fun z => h (by rw [kP_inj z]; exact List.mem_cons_self)
    show valV ((kP (pr T O w), nV (idx k w)) :: kvW T O k W) (kP p) = none
    unfold valV
    rw [List.find?_cons_of_neg (by simpa using e)]
    exact kvW_none fun z => h (List.mem_cons_of_mem _ z)
theorem kvW_some {T O : Tab} {k : Nat} {v : Word} : ∀ {W : List Word}, (W.map (pr T O)).Nodup → v ∈ W → valV (kvW T O k W) (kP (pr T O v)) = some (nV (idx k v))
  | w :: W, nd, h => by
    rw [List.map_cons, List.nodup_cons] at nd
    show valV ((kP (pr T O w), nV (idx k w)) :: kvW T O k W) (kP (pr T O v)) = _
    unfold valV
    by_cases e : kP (pr T O w) = kP (pr T O v)
    · rw [List.find?_cons_of_pos (by simpa using e)]
      rcases List.mem_cons.mp h with rfl | h2
      · rfl
      · exact absurd (by rw [kP_inj e]; exact List.mem_map.mpr ⟨v, h2, rfl⟩) nd.1
    · rw [List.find?_cons_of_neg (by simpa using e)]
      rcases List.mem_cons.mp h with rfl | h2
      · exact absurd rfl e
      · exact kvW_some nd.2 h2
theorem kvW_put {T O : Tab} {k : Nat} {W : List Word} {v : Word} (h : pr T O v ∉ W.map (pr T O)) : putK (kvW T O k W) (kP (pr T O v)) (nV (idx k v)) = kvW T O k (W ++ [v]) := by
  rw [putK_new _ (kvW_none h)]
  unfold kvW
  rw [List.map_append]
  rfl
/-- the queue -/
def QAt (H : Hp) (T O : Tab) (W : List Word) (qs : List Addr) : Prop := qs.length = W.length ∧ ∀ (j : Nat) (q : Addr) (w : Word), qs[j]? = some q → W[j]? = some w → H q = some (.tup [nV (pr T O w).1, nV (pr T O w).2])
theorem QAt.mono {H H' : Hp} {T O : Tab} {W : List Word} {qs : List Addr} (a : QAt H T O W qs) (h : ∀ q xs, H q = some (.tup xs) → H' q = some (.tup xs)) : QAt H' T O W qs := ⟨a.1, fun j q w h1 h2 => h _ _ (a.2 j q w h1 h2)⟩
theorem QAt.snoc {H : Hp} {T O : Tab} {W : List Word} {qs : List Addr} {q : Addr} {v : Word} (a : QAt H T O W qs) (h : H q = some (.tup [nV (pr T O v).1, nV (pr T O v).2])) : QAt H T O (W ++ [v]) (qs ++ [q]) := by
  refine ⟨by rw [List.length_append, List.length_append, a.1]; rfl, fun j q' w h1 h2 => ?_⟩
  by_cases hj : j < W.length
  · rw [List.getElem?_append_left hj] at h2
    rw [List.getElem?_append_left (by rw [a.1]; exact hj)] at h1
    exact a.2 j q' w h1 h2
  · rw [List.getElem?_append_right (by omega)] at h2
    rw [List.getElem?_append_right (by rw [a.1]; omega), a.1] at h1
    have hz : j - W.length = 0 := by
      have := (List.getElem?_eq_some_iff.mp h2).1
      simp at this
      omega
    rw [hz] at h1 h2
    obtain rfl : q = q' := by simpa using h1
    obtain rfl : v = w := by simpa using h2
    exact h
theorem Srch.few {T O : Tab} {k n m i l : Nat} {W : List Word} (S : Srch T O k W i l) (hT : BOk T k n) (hO : BOk O k m) : W.length ≤ n * m := by
  have hc : ∀ p, p ∈ W.map (pr T O) → p.1 < n ∧ p.2 < m := fun p hp => by
    obtain ⟨w, hw, rfl⟩ := List.mem_map.mp hp
    exact ⟨hT.run_ltB hT.n1 (S.wd w hw), hO.run_ltB hO.n1 (S.wd w hw)⟩
  have hmap : ((W.map (pr T O)).map fun p => p.1 * m + p.2).Nodup := by
    refine List.pairwise_map.mpr (S.nd.imp_of_mem fun {a b} ha hb hne e => hne ?_)
    have h1 := hc a ha
    have h2 := hc b hb
    have e : a.1 * m + a.2 = b.1 * m + b.2 := e
    have d1 : (a.1 * m + a.2) / m = a.1 := by
      rw [Nat.mul_comm, Nat.mul_add_div (by omega), Nat.div_eq_of_lt h1.2, Nat.add_zero]
    have d2 : (b.1 * m + b.2) / m = b.1 := by
      rw [Nat.mul_comm, Nat.mul_add_div (by omega), Nat.div_eq_of_lt h2.2, Nat.add_zero]
    have e1 : a.1 = b.1 := by rw [← d1, e, d2]
    rw [e1] at e
    exact Prod.ext e1 (by omega)
  have := nodup_lt_length (n * m) hmap fun x hx => by
    obtain ⟨p, hp, rfl⟩ := List.mem_map.mp hx
    obtain ⟨h1, h2⟩ := hc p hp
    calc p.1 * m + p.2 < p.1 * m + m := by omega
      _ = (p.1 + 1) * m := by rw [Nat.succ_mul]
      _ ≤ n * m := Nat.mul_le_mul_right _ h1
  rwa [List.length_map, List.length_map] at this
def oN : Option Nat → V
  | none => .non
  | some i => nV i
section
variable {P : Program} {w : World} {K : PySem.W.Frag} {mg : Str → Option Value} {base : Heap}
abbrev s_difference : Stmt := topS 27
theorem sc_difference : FnScope ["one", "other", "size", "indices", "queue", "at", "first", "second", "index", "letter", "later"] ["one", "other"] (defScope s_difference) := ⟨rfl, rfl, rfl, by decide +kernel, rfl, by decide +kernel, by decide +kernel⟩
def sp_difference (K : PySem.W.Frag) : Sp := fun vs H Q _ => ∃ (t r e t' r' e' : Addr) (T O : Tab) (k n m : Nat), vs = [.ref t, .ref t'] ∧ TabAt K H t r e T ∧ TabAt K H t' r' e' O ∧ BOk T k n ∧ BOk O k m ∧ n * m ≤ 900 ∧ ∀ (o : Option Nat) (H' : Hp), FDis k T O o → Same H H' → Q (oN o) H'
theorem ok_difference {f : Addr} {fd : FuncData} (F : Fun K "_difference" "_difference" s_difference f fd) (B : Bt mg) (C_table_size : Got P w K mg base CX0 1 "table_size" ["table"] (sp_table_size K)) : FnOk P w K mg base CX0 2 f fd ["one", "other"] (sp_difference K) := by
  refine F.ok sc_difference (fun vs H Q E h => ?_) (fun cdv A outer s0 H vs Q E hr h => ?_)
  · obtain ⟨t, r, e, t', r', e', T, O, k, n, m, rfl, _⟩ := h
    rfl
  obtain ⟨t, r, e, t', r', e', T, O, k, n, m, rfl, A1, A2, hT, hO, hnm, q⟩ := h
  have hu := hu_of hr
  have hk1 := hT.k1
  have hk3 := hT.k3
  have two : ∀ n, n ≤ 10 → n ≤ sizeLine := fun n h => Nat.le_of_lt (small1000 (by omega))
  refine ⟨_, (pss_cons (ps_set (i := 2) sc_difference.nd rfl (Or.inl rfl) (C_table_size.call hr (by rfl) (pa_cons (pv 0) pa_nil))) (pss_cons (ps_set (i := 3) sc_difference.nd rfl (Or.inl rfl) (pe_tdisp hu (pe_tup (pa_cons pe_int (pa_cons pe_int pa_nil))) pe_int)) (pss_cons (ps_set (i := 4) sc_difference.nd rfl (Or.inl rfl) (pe_lst (pa_cons (pe_tup (pa_cons pe_int (pa_cons pe_int pa_nil))) pa_nil))) (pss_cons (ps_set (i := 5) sc_difference.nd rfl (Or.inl rfl) pe_int) (pss_cons (ps_while PassesOwn.never (pt_cmpR op_lt (pv 5) (pe_callB (c_len K) (by rfl) B.len bt_len (pa_cons (pv 4) pa_nil)) (nomark _)) (pss_cons (ps_asg (p_ixl K (pv 4) (pv 5)) (g_tup K 2 (pgs_cons (pg_name (i := 6) sc_difference.nd rfl (Or.inl rfl)) (pgs_cons (pg_name (i := 7) sc_difference.nd rfl (Or.inl rfl)) pgs_nil)))) (pss_cons (ps_set (i := 8) sc_difference.nd rfl (Or.inl rfl) (p_ixd hu (pv 3) (p_ixl K (pv 4) (pv 5)))) (pss_cons (ps_if (pt_cmpR op_ne (p_ixt K (p_ixt K (pv 0) pe_int) (pv 6)) (p_ixt K (p_ixt K (pv 1) pe_int) (pv 7)) (nomark _)) (pss_one (ps_ret (pv 8))) pss_nil) (pss_cons (ps_for PassesOwn.never rfl (pi_range1 (by rfl) B.range (pa_cons (pv 2) pa_nil)) (pg_name (i := 9) sc_difference.nd rfl (Or.inl rfl)) (pss_cons (ps_set (i := 10) sc_difference.nd rfl (Or.inl rfl) (pe_tup (pa_cons (p_ixt K (p_ixt K (p_ixt K (pv 0) pe_int) (pv 6)) (pv 9)) (pa_cons (p_ixt K (p_ixt K (p_ixt K (pv 1) pe_int) (pv 7)) (pv 9)) pa_nil)))) (pss_one (ps_if (t_nind hu (pv 10) (pv 3)) (pss_cons (p_dput hu (pv 3) (pv 10) (pe_op op_add (pe_op op_add (pe_op op_mul (pv 2) (pv 8)) pe_int) (pv 9))) (pss_one (ps_expr (p_app K (pv 4) (pa_cons (pv 10) pa_nil))))) pss_nil)))) (pss_one (ps_aug (i := 5) sc_difference.nd rfl (Or.inl rfl) pe_int ip_add))))))) (pss_one (ps_ret pe_non))))))), ?_⟩
  refine ⟨_, rfl, t, r, e, T, k, n, rfl, A1, hT, fun d nd => ⟨two 2 (by decide), fun p0 np0 => ?_⟩⟩
  have s1 : Same H (upd H d (.dT [])) := same_new nd _
  have s2 : Same H (upd (upd H d (.dT [])) p0 (.tup [.int 0, .int 0])) := s1.trans (same_new np0 _)
  have nd0 : p0 ≠ d := (ne_of_none (upd_same : (upd H d (.dT [])) d = some _) np0).symm
  refine ⟨p0, kP (0, 0), rfl, by rw [upd_ne nd0.symm, upd_same], upd_same, ?_⟩
  have s3 : Same H (upd (upd (upd H d (.dT [])) p0 (.tup [.int 0, .int 0])) d (.dT [(kP (0, 0), .int 0)])) := fun b o z => by
    rw [upd_ne (ne_of_none z nd)]
    exact s2 _ _ z
  have hd0 : (upd (upd (upd H d (.dT [])) p0 (.tup [.int 0, .int 0])) d (.dT [(kP (0, 0), .int 0)])) d = some (.dT (kvW T O k [[]])) := upd_same
  generalize (upd (upd (upd H d (.dT [])) p0 (.tup [.int 0, .int 0])) d (.dT [(kP (0, 0), .int 0)])) = H1 at s3 hd0 ⊢
  refine ⟨two 2 (by decide), fun q0 nq0 => ⟨two 1 (by decide), fun qa nqa => ?_⟩⟩
  have s4 := same_new nq0 (.tup [.int 0, .int 0])
  have s5 := s4.trans (same_new nqa (.lst [V.ref q0]))
  have hH2 : Same H1 (upd (upd H1 q0 (.tup [.int 0, .int 0])) qa (.lst [V.ref q0])) := s5
  have nqd : qa ≠ d := (ne_of_none (s4 _ _ hd0) nqa).symm
  have nHd : H d = none := nd
  have nHq : H qa = none := by
    cases e : H qa with
    | none => rfl
    | some o =>
      have := s4 _ _ (s3 _ _ e)
      rw [nqa] at this
      cases this
  have hq0 : QAt (upd (upd H1 q0 (.tup [.int 0, .int 0])) qa (.lst [V.ref q0])) T O [[]] [q0] := ⟨rfl, fun j q w h1 h2 => by
    have hj : j = 0 := by
      have := (List.getElem?_eq_some_iff.mp h1).1
      simp at this
      omega
    subst hj
    obtain rfl : q0 = q := by simpa using h1
    obtain rfl : ([] : Word) = w := by simpa using h2
    rw [upd_ne (ne_of_none (upd_same : (upd H1 q0 (.tup [.int 0, .int 0])) q0 = some _) nqa), upd_same]
    rfl⟩
  have bnd : ∀ {W : List Word} {i l : Nat}, Srch T O k W i l → W.length ≤ n * m := fun S => S.few hT hO
  refine ⟨fun mm σ H2 => ∃ (i : Nat) (W : List Word) (qs : List Addr) (v6 v7 v8 v9 v10 : Option V), mm + i = n * m ∧ i ≤ W.length ∧ σ = [some (.ref t), some (.ref t'), some (nV k), some (.ref d), some (.ref qa), some (nV i), v6, v7, v8, v9, v10] ∧ Same H H2 ∧ H2 d = some (.dT (kvW T O k W)) ∧ H2 qa = some (.lst (qs.map V.ref)) ∧ QAt H2 T O W qs ∧ Srch T O k W i 0,
    ⟨n * m, 0, [[]], [q0], none, none, none, none, none, by omega, Nat.zero_le _, rfl, s3.trans s5, s5 _ _ hd0, upd_same, hq0, Srch.init⟩, ?_⟩
  rintro mm σ H2 ⟨i, W, qs, v6, v7, v8, v9, v10, hmm, hiW, rfl, sH, hd, hq, hQ, S⟩
  have hWb := bnd S
  refine ⟨_, rfl, _, rfl, qa, _, rfl, .inl (SqL.of hq), _, _, rfl, rfl, _, rfl, ?_⟩
  rw [List.length_map, hQ.1]
  refine ite2 (fun c => ?_) (fun c => ?_)
  rotate_left
  · have hi : W.length ≤ i := by
      have c : ¬ ((i : Nat) : Int) < (W.length : Nat) := of_decide_eq_false (Bool.eq_false_iff.mpr c)
      omega
    exact q none H2 (S.none hi) sH
  have hi : i < W.length := by
    have c := of_decide_eq_true c
    omega
  obtain ⟨v, hv⟩ : ∃ v, W[i]? = some v := ⟨_, List.getElem?_eq_getElem hi⟩
  obtain ⟨qq, hqq⟩ : ∃ x, qs[i]? = some x := ⟨_, List.getElem?_eq_getElem (by rw [hQ.1]; exact hi)⟩
  have hqt := hQ.2 i qq v hqq hv
  have hvm := List.mem_of_getElem? hv
  have wv := S.wd v hvm
  have hp1 : (pr T O v).1 < n := hT.run_ltB hT.n1 wv
  have hp2 : (pr T O v).2 < m := hO.run_ltB hO.n1 wv
  have B1 := A1.same sH
  have B2 := A2.same sH
  refine ⟨fun σ' H' => ∃ m', m' < mm ∧ ∃ (i : Nat) (W : List Word) (qs : List Addr) (v6 v7 v8 v9 v10 : Option V), m' + i = n * m ∧ i ≤ W.length ∧ σ' = [some (.ref t), some (.ref t'), some (nV k), some (.ref d), some (.ref qa), some (nV i), v6, v7, v8, v9, v10] ∧ Same H H' ∧ H' d = some (.dT (kvW T O k W)) ∧ H' qa = some (.lst (qs.map V.ref)) ∧ QAt H' T O W qs ∧ Srch T O k W i 0, fun _ _ h => h, ?_⟩
  have hat : atI (qs.map V.ref) ((i : Nat) : Int) = some (.ref qq) := atI_nat (by rw [List.getElem?_map, hqq]; rfl)
  refine ⟨_, rfl, _, rfl, qa, _, _, .ref qq, rfl, rfl, SqL.of hq, hat, qq, _, rfl, .inl (.inl hqt), rfl, _, _, rfl, _, _, rfl, rfl, ?_⟩
  refine ⟨_, rfl, _, rfl, _, rfl, qa, _, _, .ref qq, rfl, rfl, SqL.of hq, hat, d, nV (idx k v), rfl, (by rw [← kvW_some S.nd hvm]; exact DGet.t hd hqt), ?_⟩
  refine ⟨_, rfl, t, _, _, _, rfl, rfl, B1.top, rfl, _, rfl, e, _, _, _, rfl, rfl, B1.ends, at_fin0 hT hp1, _, rfl, t', _, _, _, rfl, rfl, B2.top, rfl, _, rfl, e', _, _, _, rfl, rfl, B2.ends, at_fin0 hO hp2, rfl, _, rfl, ?_⟩
  by_cases hdf : Dif T O v
  · have e0 : (!decide (V.bl (T.fin (pr T O v).1) = V.bl (O.fin (pr T O v).2))) = true := by
      rw [decide_eq_false (show ¬ V.bl (T.fin (pr T O v).1) = V.bl (O.fin (pr T O v).2) from fun z => hdf (V.bl.inj z))]
      rfl
    rw [e0]
    exact iteT ⟨_, rfl, q (some (idx k v)) H2 (S.found hv hdf) sH⟩
  have e0 : (!decide (V.bl (T.fin (pr T O v).1) = V.bl (O.fin (pr T O v).2))) = false := by
    have : T.fin (pr T O v).1 = O.fin (pr T O v).2 := Classical.byContradiction fun z => hdf z
    rw [this, decide_eq_true rfl]
    rfl
  rw [e0]
  refine iteF ⟨_, rfl, _, rfl, by omega, by omega, ?_⟩
  refine for_range (lo := 0) (n := ((k : Nat) : Int).toNat) (fun l σ H3 => ∃ (W' : List Word) (qs' : List Addr) (v9 v10 : Option V), l ≤ k ∧ σ = [some (.ref t), some (.ref t'), some (nV k), some (.ref d), some (.ref qa), some (nV i), some (nV (pr T O v).1), some (nV (pr T O v).2), some (nV (idx k v)), v9, v10] ∧ Same H H3 ∧ H3 d = some (.dT (kvW T O k W')) ∧ H3 qa = some (.lst (qs'.map V.ref)) ∧ QAt H3 T O W' qs' ∧ Srch T O k W' i l ∧ W'[i]? = some v)
    ⟨W, qs, v9, v10, Nat.zero_le _, rfl, sH, hd, hq, hQ, S, hv⟩ ?_ ?_
  · rintro l σ H3 hl ⟨W', qs', v9, v10, _, rfl, sH3, hd3, hq3, hQ3, S3, hv3⟩
    rw [Int.toNat_natCast] at hl
    have el : V.int (0 + ((l : Nat) : Int)) = nV l := congrArg V.int (by omega)
    rw [el]
    have C1 := A1.same sH3
    have C2 := A2.same sH3
    obtain ⟨a1, xs1, g1, g2, g3, _, g4⟩ := C1.rows.get (s := (pr T O v).1) (by rw [hT.rl]; exact hp1)
    obtain ⟨a2, xs2, f1, f2, f3, _, f4⟩ := C2.rows.get (s := (pr T O v).2) (by rw [hO.rl]; exact hp2)
    refine ⟨_, rfl, t, _, _, _, rfl, rfl, C1.top, rfl, _, rfl, r, _, _, _, rfl, rfl, g1, g3, _, rfl, a1, _, _, _, rfl, rfl, g4, hT.at_st hp1 hl, ?_⟩
    refine ⟨_, rfl, t', _, _, _, rfl, rfl, C2.top, rfl, _, rfl, r', _, _, _, rfl, rfl, f1, f3, _, rfl, a2, _, _, _, rfl, rfl, f4, hO.at_st hp2 hl, ?_⟩
    refine ⟨two 2 (by decide), fun tp ntp => ?_⟩
    have eps : pr T O (v ++ [l]) = (T.st (pr T O v).1 l, O.st (pr T O v).2 l) := pr_snoc
    have s6 := same_new ntp (.tup [V.int ((T.st (pr T O v).1 l : Nat) : Int), V.int ((O.st (pr T O v).2 l : Nat) : Int)])
    have htp : (upd H3 tp (.tup [V.int ((T.st (pr T O v).1 l : Nat) : Int), V.int ((O.st (pr T O v).2 l : Nat) : Int)])) tp = some (.tup [nV (pr T O (v ++ [l])).1, nV (pr T O (v ++ [l])).2]) := by
      rw [upd_same, eps]
      rfl
    have hd4 := s6 _ _ hd3
    have hq4 := s6 _ _ hq3
    have hQ4 := hQ3.mono fun q xs z => s6 _ _ z
    have sH4 := sH3.trans s6
    generalize (upd H3 tp (.tup [V.int ((T.st (pr T O v).1 l : Nat) : Int), V.int ((O.st (pr T O v).2 l : Nat) : Int)])) = H4 at s6 htp hd4 hq4 hQ4 sH4 ⊢
    refine ⟨_, rfl, _, rfl, d, _, rfl, DGet.t (k := kP (pr T O (v ++ [l]))) hd4 htp, _, rfl, ?_⟩
    have hWb3 := bnd S3
    by_cases hm : pr T O (v ++ [l]) ∈ W'.map (pr T O)
    · obtain ⟨u, hu', eu⟩ := List.mem_map.mp hm
      have ev : valV (kvW T O k W') (kP (pr T O (v ++ [l]))) = some (nV (idx k u)) := by
        rw [← eu]
        exact kvW_some S3.nd hu'
      rw [ev]
      exact iteF ⟨W', qs', _, _, hl, rfl, sH4, hd4, hq4, hQ4, S3.old hv3 hm, hv3⟩
    · rw [kvW_none hm]
      have ei : V.int (((k : Nat) : Int) * ((idx k v : Nat) : Int) + 1 + ((l : Nat) : Int)) = nV (idx k (v ++ [l])) := congrArg V.int (by rw [idx_snoc]; push_cast; omega)
      refine iteT ⟨_, rfl, _, rfl, _, _, rfl, rfl, .inl ⟨by omega, by omega⟩, _, _, rfl, rfl, _, rfl, _, _, rfl, rfl, _, rfl, _, rfl, d, _, rfl, DPut.t (k := kP (pr T O (v ++ [l]))) hd4 htp (by unfold kvW; rw [List.length_map]; exact small1000 (by omega)), ?_⟩
      dsimp only
      rw [ei, kvW_put hm]
      have hq5 : (upd H4 d (.dT (kvW T O k (W' ++ [v ++ [l]])))) qa = some (.lst (qs'.map V.ref)) := by
        rw [upd_ne nqd]
        exact hq4
      refine ⟨_, rfl, .inl ⟨rfl, _, SqL.of hq5⟩, _, rfl, qa, _, _, rfl, rfl, hq5, by rw [List.length_map, hQ3.1]; exact small1000 (by omega), ?_⟩
      refine ⟨W' ++ [v ++ [l]], qs' ++ [tp], _, _, hl, rfl, fun b o z => ?_, ?_, ?_, QAt.snoc (hQ4.mono fun q xs z => ?_) ?_, S3.new hv3 hl hm, ?_⟩
      · rw [upd_ne (ne_of_none z nHq), upd_ne (ne_of_none z nHd)]
        exact sH4 _ _ z
      · rw [upd_ne nqd.symm, upd_same]
      · rw [upd_same, List.map_append]
        rfl
      · rw [upd_ne (ne_of z hq4 (fun y => nomatch y)), upd_ne (ne_of z hd4 (fun y => nomatch y))]
        exact z
      · rw [upd_ne (ne_of htp hq4 (fun y => nomatch y)), upd_ne (ne_of htp hd4 (fun y => nomatch y))]
        exact htp
      · rw [List.getElem?_append_left (List.getElem?_eq_some_iff.mp hv3).1]
        exact hv3
  · rintro σ H3 ⟨W', qs', v9, v10, _, rfl, sH3, hd3, hq3, hQ3, S3, hv3⟩
    rw [Int.toNat_natCast] at S3
    have hWb3 := bnd S3
    have hi3 := (List.getElem?_eq_some_iff.mp hv3).1
    exact ⟨_, rfl, _, _, rfl, rfl, mm - 1, by omega, i + 1, W', qs', _, _, _, _, _, by omega, by omega, rfl, sH3, hd3, hq3, hQ3, S3.next hk1 hv3 hdf⟩
end
end Own
namespace Own
open PySem PySem.Spec PyProof.Rows L2
/-- tuples stay -/
def SM (K : PySem.W.Frag) (H H' : Hp) : Prop := ∀ a xs, SqT K H a xs → SqT K H' a xs
theorem SM.of {K : PySem.W.Frag} {H H' : Hp} (s : Same H H') : SM K H H' := fun _ _ h => Same.tup s h
theorem SM.trans {K : PySem.W.Frag} {H H' H2 : Hp} (a : SM K H H') (b : SM K H' H2) : SM K H H2 := fun x xs h => b x xs (a x xs h)
theorem SM.lst {K : PySem.W.Frag} {H : Hp} {d : Addr} {xs : List V} {o : HO} (h : H d = some (.lst xs)) : SM K H (upd H d o) := fun a ys q => by
  have b : But d H (upd H d o) := fun x u hx e => by
    rw [upd_ne hx]
    exact e
  exact b.tup h (fun _ z => nomatch z) (fun _ _ z => nomatch z) q
/-- things and where they stand -/
def AllAt {α : Type} (Pr : Hp → α → Addr → Prop) (H : Hp) (xs : List α) (as : List Addr) : Prop := as.length = xs.length ∧ ∀ (i : Nat) (x : α) (a : Addr), xs[i]? = some x → as[i]? = some a → Pr H x a
section
variable {α : Type} {Pr : Hp → α → Addr → Prop} {H H' : Hp} {xs ys : List α} {as bs : List Addr}
theorem AllAt.nil : AllAt Pr H [] [] := ⟨rfl, fun i x a h _ => by simp at h⟩
theorem AllAt.mono (A : AllAt Pr H xs as) (h : ∀ x a, Pr H x a → Pr H' x a) : AllAt Pr H' xs as := ⟨A.1, fun i x a h1 h2 => h x a (A.2 i x a h1 h2)⟩
theorem AllAt.app (A : AllAt Pr H xs as) (B : AllAt Pr H ys bs) : AllAt Pr H (xs ++ ys) (as ++ bs) := by
  refine ⟨by rw [List.length_append, List.length_append, A.1, B.1], fun i x a h1 h2 => ?_⟩
  by_cases hi : i < xs.length
  · rw [List.getElem?_append_left hi] at h1
    rw [List.getElem?_append_left (by rw [A.1]; exact hi)] at h2
    exact A.2 i x a h1 h2
  · rw [List.getElem?_append_right (by omega)] at h1
    rw [List.getElem?_append_right (by rw [A.1]; omega), A.1] at h2
    exact B.2 _ x a h1 h2
theorem AllAt.one {x : α} {a : Addr} (h : Pr H x a) : AllAt Pr H [x] [a] := by
  refine ⟨rfl, fun i y b h1 h2 => ?_⟩
  cases i with
  | zero =>
    obtain rfl : x = y := by simpa using h1
    obtain rfl : a = b := by simpa using h2
    exact h
  | succ i => simp at h1
end
def RowAt (K : PySem.W.Frag) (H : Hp) (row : List Nat) (a : Addr) : Prop := SqT K H a (row.map nV)
def TblAt (K : PySem.W.Frag) (H : Hp) (R : List (List Nat)) (a : Addr) : Prop := RowsAt K H a R
theorem TblAt.mono {K : PySem.W.Frag} {H H' : Hp} {R : List (List Nat)} {a : Addr} (h : TblAt K H R a) (s : SM K H H') : TblAt K H' R a := by
  obtain ⟨as, q1, q2, q3⟩ := h
  exact ⟨as, s _ _ q1, q2, fun i b row g1 g2 => s _ _ (q3 i b row g1 g2)⟩
/-- all tables of rows -/
def tabsUp (S : List (List Nat)) : Nat → List (List (List Nat))
  | 0 => [[]]
  | j + 1 => (tabsUp S j).flatMap fun R => S.map fun r => R ++ [r]
theorem tabsUp_len (S : List (List Nat)) : ∀ j, (tabsUp S j).length = S.length ^ j
  | 0 => rfl
  | j + 1 => by
    rw [tabsUp, List.length_flatMap]
    have : (tabsUp S j).map (fun R => (S.map fun r => R ++ [r]).length) = (tabsUp S j).map fun _ => S.length := List.map_congr_left fun _ _ => by rw [List.length_map]
    rw [this, List.map_const', List.sum_replicate_nat, tabsUp_len S j, Nat.pow_succ]
theorem mem_tabsUp {S : List (List Nat)} : ∀ {j : Nat} {R : List (List Nat)}, R ∈ tabsUp S j ↔ R.length = j ∧ ∀ r, r ∈ R → r ∈ S
  | 0, R => by
    rw [tabsUp, List.mem_singleton]
    constructor
    · rintro rfl
      exact ⟨rfl, fun r h => by simp at h⟩
    · rintro ⟨h, _⟩
      exact List.length_eq_zero_iff.mp h
  | j + 1, R => by
    rw [tabsUp, List.mem_flatMap]
    constructor
    · rintro ⟨R', h1, h2⟩
      obtain ⟨r, hr, rfl⟩ := List.mem_map.mp h2
      obtain ⟨g1, g2⟩ := mem_tabsUp.mp h1
      refine ⟨by rw [List.length_append, g1]; rfl, fun x hx => ?_⟩
      rcases List.mem_append.mp hx with q | q
      · exact g2 x q
      · rw [List.mem_singleton.mp q]
        exact hr
    · rintro ⟨h1, h2⟩
      have hne : R ≠ [] := fun e => by rw [e] at h1; simp at h1
      have eu := List.dropLast_concat_getLast hne
      refine ⟨R.dropLast, mem_tabsUp.mpr ⟨by rw [List.length_dropLast]; omega, fun r hr => h2 r (List.dropLast_subset _ hr)⟩, List.mem_map.mpr ⟨R.getLast hne, h2 _ (List.getLast_mem hne), eu⟩⟩
section
variable {P : Program} {w : World} {K : PySem.W.Frag} {mg : Str → Option Value} {base : Heap}
theorem p_catA {X : Cx} (K : PySem.W.Frag) {a b : Expr} {ta tb : TE} {pos : Pos} (ha : PE X a ta) (hb : PE X b tb) (hK : X.K = K := by rfl) : PE X (.BinOp a .Add b pos) (tOp (rCatA K) ta tb) := by
  subst hK
  exact pe_op op_catA ha hb
/-- a tuple with one more -/
theorem cat_one {H : Hp} {a : Addr} {xs : List V} {y : V} {Q : VK} (ha : SqT K H a xs) (hl : xs.length ≤ 100) (q : ∀ (c : Addr) (H' : Hp), Same H H' → SqT K H' c (xs ++ [y]) → Q (.ref c) H') : ∀ tp, H tp = none → rCatA K (.ref a) (.ref tp) (upd H tp (.tup [y])) Q := by
  intro tp ntp
  have s := same_new ntp (.tup [y])
  refine ⟨a, tp, xs, [y], rfl, rfl, Same.tup s ha, SqT.new, ?_, fun e => ?_, fun _ e => (by cases e), fun _ _ p np => ?_⟩
  · exact Nat.le_of_lt (small1000 (by show xs.length + 1 ≤ 1000; omega))
  · subst e
    exact q tp _ s SqT.new
  · exact q p _ (s.trans (same_new np _)) SqT.new
end
end Own
namespace Own
/-! All rows of a few stands, as the program finds them. -/
def arMax (t : List Nat) : Nat := t.foldl max 0
def arRow (k : Nat) (t : List Nat) (s : Nat) : List (List Nat) := (List.range s).map fun i => (t.drop (k * i)).take k
abbrev ArS := List (List (List Nat)) × List (List Nat)
def arStep (k m : Nat) (p : ArS) : ArS := match p.2.getLast? with
  | none => p
  | some t => if t.length = (arMax t + 1) * k then (p.1 ++ [arRow k t (arMax t + 1)], p.2.dropLast) else (p.1, p.2.dropLast ++ (List.range (min (arMax t + 2) m)).map fun x => t ++ [x])
def arRun (k m : Nat) : Nat → ArS
  | 0 => ([], [[]])
  | j + 1 => arStep k m (arRun k m j)
def allR (k m : Nat) : List (List (List Nat)) := (arRun k m 120).1
theorem ar_end {k m : Nat} (hk1 : 1 ≤ k) (hk : k ≤ 3) (hm1 : 1 ≤ m) (hm : m ≤ 2) : (arRun k m 120).2 = [] := by
  have h1 : k = 1 ∨ k = 2 ∨ k = 3 := by omega
  have h2 : m = 1 ∨ m = 2 := by omega
  rcases h1 with rfl | rfl | rfl <;> rcases h2 with rfl | rfl <;> decide +kernel
theorem ar_stop {k m j : Nat} (h : (arRun k m j).2 = []) : ∀ i, arRun k m (j + i) = arRun k m j
  | 0 => rfl
  | i + 1 => by
    show arStep k m (arRun k m (j + i)) = _
    rw [ar_stop h i]
    unfold arStep
    rw [h]
    rfl
theorem ar_len {k m : Nat} (hm : m ≤ 2) : ∀ j, (arRun k m j).1.length ≤ j ∧ (arRun k m j).2.length ≤ j + 1 ∧ ∀ t, t ∈ (arRun k m j).2 → t.length ≤ j
  | 0 => ⟨Nat.le_refl _, Nat.le_refl _, fun t h => by rw [List.mem_singleton.mp h]; exact Nat.le_refl _⟩
  | j + 1 => by
    obtain ⟨h1, h2, h3⟩ := ar_len (k := k) hm j
    show (arStep k m (arRun k m j)).1.length ≤ _ ∧ _
    have es : arRun k m (j + 1) = arStep k m (arRun k m j) := rfl
    rw [es]
    unfold arStep
    generalize arRun k m j = p at *
    cases e : p.2.getLast? with
    | none => exact ⟨Nat.le_succ_of_le h1, Nat.le_succ_of_le h2, fun t ht => Nat.le_succ_of_le (h3 t ht)⟩
    | some t =>
      have htm := List.mem_of_getLast? e
      have hpos : 0 < p.2.length := List.length_pos_of_mem htm
      have hd : ∀ x, x ∈ p.2.dropLast → x.length ≤ j := fun x hx => h3 x (List.dropLast_subset _ hx)
      dsimp only
      by_cases c : t.length = (arMax t + 1) * k
      · rw [if_pos c]
        refine ⟨?_, ?_, fun x hx => ?_⟩
        · show (p.1 ++ [_]).length ≤ _
          rw [List.length_append, List.length_singleton]
          omega
        · show p.2.dropLast.length ≤ _
          rw [List.length_dropLast]
          omega
        · have := hd x hx
          omega
      · rw [if_neg c]
        have ht := h3 t htm
        refine ⟨Nat.le_succ_of_le h1, ?_, fun x hx => ?_⟩
        · show (p.2.dropLast ++ _).length ≤ _
          rw [List.length_append, List.length_dropLast, List.length_map, List.length_range]
          omega
        · rcases List.mem_append.mp hx with q | q
          · have := hd x q
            omega
          · obtain ⟨y, _, rfl⟩ := List.mem_map.mp q
            rw [List.length_append, List.length_singleton]
            omega
theorem foldl_max (l : List Nat) : ∀ a, a ≤ l.foldl max a ∧ (∀ y, y ∈ l → y ≤ l.foldl max a) ∧ (l.foldl max a = a ∨ l.foldl max a ∈ l) := by
  induction l with
  | nil => intro a; exact ⟨Nat.le_refl _, fun y h => by simp at h, .inl rfl⟩
  | cons x l ih =>
    intro a
    obtain ⟨h1, h2, h3⟩ := ih (max a x)
    refine ⟨by show a ≤ l.foldl max (max a x); omega, fun y hy => ?_, ?_⟩
    · show y ≤ l.foldl max (max a x)
      rcases List.mem_cons.mp hy with rfl | hy
      · omega
      · exact h2 y hy
    · show l.foldl max (max a x) = a ∨ l.foldl max (max a x) ∈ x :: l
      rcases h3 with e | e
      · by_cases c : a ≤ x
        · right
          rw [e, Nat.max_eq_right c]
          exact List.mem_cons_self
        · left
          rw [e, Nat.max_eq_left (by omega)]
      · exact .inr (List.mem_cons_of_mem _ e)
theorem arMax_uniq {t : List Nat} {mx : Int} (h : mx ∈ (0 : Int) :: t.map fun x => ((x : Nat) : Int)) (g : ∀ y, y ∈ (0 : Int) :: t.map (fun x => ((x : Nat) : Int)) → y ≤ mx) : mx = ((arMax t : Nat) : Int) := by
  obtain ⟨h1, h2, h3⟩ := foldl_max t 0
  have a1 : mx ≤ ((arMax t : Nat) : Int) := by
    rcases List.mem_cons.mp h with rfl | h
    · exact Int.natCast_nonneg _
    · obtain ⟨y, hy, rfl⟩ := List.mem_map.mp h
      exact Int.ofNat_le.mpr (h2 y hy)
  have a2 : ((arMax t : Nat) : Int) ≤ mx := by
    rcases h3 with e | e
    · unfold arMax
      rw [e]
      exact g 0 List.mem_cons_self
    · exact g _ (List.mem_cons_of_mem _ (List.mem_map.mpr ⟨_, e, rfl⟩))
  omega
end Own
namespace Own
open PySem PySem.Spec PyProof.Rows L2
section
variable {X : Cx} {K : PySem.W.Frag} {a e : Expr} {to : TE} {t : TA}
/-- xs.pop() -/
theorem p_pop0 (K : PySem.W.Frag) {apos cpos : Pos} (ho : PE X a to) (hbase : attributeBase a "pop" X.env (eval a X.env) = eval a X.env := by rfl) (hline : (apos.endLine == cpos.line) = true := by rfl) (hK : X.K = K := by rfl) :
    PE X (.Call (.Attribute a "pop" apos) [] [] cpos) (tBM0 K "list" rPop to) := by
  subst hK
  exact pe_bm0 PySem.F.plainAttrs_list PySem.F.slot_list_pop PySem.F.type_list_pop mt_pop ho hbase hline
/-- xs.extend(e) -/
theorem p_ext (K : PySem.W.Frag) {apos cpos : Pos} (ho : PE X a to) (ha : PA X [e] t) (hbase : attributeBase a "extend" X.env (eval a X.env) = eval a X.env := by rfl)
    (hfew : ((backTo cpos (starEach [e] X.env)).all (fun x => !x.1) && (backToKw cpos (keywordEach [] X.env)).all (fun x => x.1.isSome) && decide (([e] : List Expr).length + ([] : List Keyword).length + (if ([] : List Keyword).isEmpty then 0 else 1) < 30)) = true := by rfl)
    (hline : (apos.endLine == cpos.line) = true := by rfl) (hs : starEach [e] X.env = (false, eval e X.env) :: starEach [] X.env := by rfl) (hplain : (backTo cpos (starEach [] X.env)).any (·.1) = false := by rfl) (hK : X.K = K := by rfl) :
    PE X (.Call (.Attribute a "extend" apos) [e] [] cpos) (tBM K "list" rExtend to t) := by
  subst hK
  exact pe_bm PySem.F.plainAttrs_list PySem.F.slot_list_extend PySem.F.type_list_extend mt_extend ho ha hbase hfew hline hs hplain
/-- t[lo:hi] of a tuple -/
theorem p_slA (K : PySem.W.Frag) {lo hi : Option Expr} {tl th : TO} {p2 pos : Pos} (he : PE X a to) (hl : PO X lo tl) (hu : PO X hi th) (hK : X.K = K := by rfl) : PE X (.Subscript a (.Slice lo hi none p2) pos) (tSl (rSlA K) to tl th) := by
  subst hK
  exact pe_slice sl_tupA he hl hu
/-- *e, .. -/
theorem p_star (K : PySem.W.Frag) {es : List Expr} {p : Pos} (he : PE X a to) (hr : PA X es t) (hs : starEach (.Starred a p :: es) X.env = (true, eval a X.env) :: starEach es X.env := by rfl) (hK : X.K = K := by rfl) : PA X (.Starred a p :: es) (StX.tStar K to t) := by
  subst hK
  exact StX.pa_star he hr hs
end
theorem AllAt.dropL {α : Type} {Pr : Hp → α → Addr → Prop} {H : Hp} {xs : List α} {as : List Addr} (A : AllAt Pr H xs as) : AllAt Pr H xs.dropLast as.dropLast := by
  have g : ∀ {β : Type} {l : List β} {i : Nat} {b : β}, l.dropLast[i]? = some b → l[i]? = some b := fun {β l i b} h => by
    rw [List.getElem?_dropLast] at h
    split at h
    · exact h
    · cases h
  exact ⟨by rw [List.length_dropLast, List.length_dropLast, A.1], fun i x a h1 h2 => A.2 i x a (g h1) (g h2)⟩
theorem slA_row {K : PySem.W.Frag} {H : Hp} {a : Addr} {t : List Nat} {k x : Nat} {Q : VK} (hk : k * (x + 1) ≤ t.length) (ha : SqT K H a (t.map nV)) (q : ∀ (c : Addr) (H' : Hp), Same H H' → SqT K H' c (((t.drop (k * x)).take k).map nV) → Q (.ref c) H') :
    rSlA K (.ref a) (some ((k * x : Nat) : Int)) (some ((k * (x + 1) : Nat) : Int)) H Q := by
  have e1 : HT.sIx (t.map nV).length 0 (some ((k * x : Nat) : Int)) = k * x := by
    rw [HT.sIx_nat, List.length_map]
    rw [Nat.mul_add] at hk
    omega
  have e2 : HT.sIx (t.map nV).length (t.map nV).length (some ((k * (x + 1) : Nat) : Int)) = k * (x + 1) := by
    rw [HT.sIx_nat, List.length_map]
    omega
  have hs : k * (x + 1) - k * x = k := by
    rw [Nat.mul_add]
    omega
  refine ⟨a, _, rfl, ha, fun h => ?_, fun _ p np => ?_⟩
  · rw [e1, e2, List.length_map] at h
    refine q a H (Same.refl _) ?_
    have hx : (t.drop (k * x)).take k = t := by
      rw [h.1, List.drop_zero]
      exact List.take_of_length_le (by omega)
    rw [hx]
    exact ha
  · refine q p _ (same_new np _) (.inl (.inl ?_))
    rw [upd_same]
    unfold cutV
    rw [e1, e2, hs, List.map_take, List.map_drop]
section
variable {P : Program} {w : World} {K : PySem.W.Frag} {mg : Str → Option Value} {base : Heap}
abbrev s_all_rows : Stmt := topS 28
theorem sc_all_rows : FnScope ["size", "most", "found", "waiting", "targets", "stands", "target", "stand"] ["size", "most"] (defScope s_all_rows) := ⟨rfl, rfl, rfl, by decide +kernel, rfl, by decide +kernel, by decide +kernel⟩
def sp_all_rows (K : PySem.W.Frag) : Sp := fun vs H Q _ => ∃ k m : Nat, vs = [nV k, nV m] ∧ 1 ≤ k ∧ k ≤ 3 ∧ 1 ≤ m ∧ m ≤ 2 ∧ ∀ (l : Addr) (as : List Addr) (H' : Hp), Same H H' → H' l = some (.lst (as.map V.ref)) → AllAt (TblAt K) H' (allR k m) as → Q (.ref l) H'
theorem ok_all_rows {f : Addr} {fd : FuncData} (F : Fun K "_all_rows" "_all_rows" s_all_rows f fd) (B : Bt mg) : FnOk P w K mg base CX0 1 f fd ["size", "most"] (sp_all_rows K) := by
  refine F.ok sc_all_rows (fun vs H Q E h => ?_) (fun cdv A outer s0 H vs Q E hr h => ?_)
  · obtain ⟨k, m, rfl, _⟩ := h
    rfl
  obtain ⟨k, m, rfl, hk1, hk3, hm1, hm2, q⟩ := h
  have two : ∀ n, n ≤ 10 → n ≤ sizeLine := fun n h => Nat.le_of_lt (small1000 (by omega))
  refine ⟨_, (pss_cons (ps_set (i := 2) sc_all_rows.nd rfl (Or.inl rfl) (pe_lst pa_nil)) (pss_cons (ps_set (i := 3) sc_all_rows.nd rfl (Or.inl rfl) (pe_lst (pa_cons (pe_tup pa_nil) pa_nil))) (pss_cons (ps_while PassesOwn.never (p_tru K (pv 3)) (pss_cons (ps_set (i := 4) sc_all_rows.nd rfl (Or.inr rfl) (p_pop0 K (pv 3))) (pss_cons (ps_set (i := 5) sc_all_rows.nd rfl (Or.inl rfl) (pe_op op_add (pe_callB (c_max K) (by rfl) B.max bt_max (pa_cons (pe_lst (pa_cons pe_int (p_star K (pv 4) pa_nil))) pa_nil)) pe_int)) (pss_one (ps_if (pt_cmpR op_eq (pe_callB (c_len K) (by rfl) B.len bt_len (pa_cons (pv 4) pa_nil)) (pe_op op_mul (pv 5) (pv 0)) (nomark _)) (pss_one (ps_expr (p_app K (pv 2) (pa_cons (pe_callTy (c_tup K) (by rfl) B.tuple bt_tuple (pa_cons (pe_lc (own := [("stand", 7)]) rfl sc_all_rows.nd (pi_range1 (by rfl) B.range (pa_cons (pv 5) pa_nil)) (blkOk_by (by kernel_rfl)) (fun _ _ _ _ _ => (pg_name (i := 7) sc_all_rows.nd rfl (Or.inl rfl))) (fun _ _ _ _ _ => pts_nil) (fun _ _ _ _ _ => (p_slA K (pv 4) (po_some (pe_op op_mul (pv 0) (pv 7))) (po_some (pe_op op_mul (pv 0) (pe_op op_add (pv 7) pe_int)))))) pa_nil)) pa_nil)))) (pss_one (ps_expr (p_ext K (pv 3) (pa_cons (pe_lc (own := [("target", 6)]) rfl sc_all_rows.nd (pi_range1 (by rfl) B.range (pa_cons (pe_callB (call_min2 rfl) (by rfl) B.min bt_min (pa_cons (pe_op op_add (pv 5) pe_int) (pa_cons (pv 1) pa_nil))) pa_nil)) (blkOk_by (by kernel_rfl)) (fun _ _ _ _ _ => (pg_name (i := 6) sc_all_rows.nd rfl (Or.inl rfl))) (fun _ _ _ _ _ => pts_nil) (fun _ _ _ _ _ => (pe_tup (p_star K (pv 4) (pa_cons (pv 6) pa_nil))))) pa_nil))))))))) (pss_one (ps_ret (pv 2)))))), ?_⟩
  refine ⟨two 0 (by decide), fun fa nfa => ⟨two 0 (by decide), fun e0 ne0 => ⟨two 1 (by decide), fun wa nwa => ?_⟩⟩⟩
  have s1 := same_new nfa (.lst [])
  have s2 := same_new ne0 (.tup [])
  have s3 := same_new nwa (.lst [V.ref e0])
  have s23 := s2.trans s3
  have hfa0 := s23 _ _ (upd_same : (upd H fa (.lst [])) fa = some _)
  have nfw : fa ≠ wa := ne_of_none (s2 _ _ (upd_same : (upd H fa (.lst [])) fa = some _)) nwa
  have nHf : H fa = none := nfa
  have nHw : H wa = none := by
    cases e : H wa with
    | none => rfl
    | some o =>
      have := s2 _ _ (s1 _ _ e)
      rw [nwa] at this
      cases this
  have he0 : SqT K (upd (upd (upd H fa (.lst [])) e0 (.tup [])) wa (.lst [V.ref e0])) e0 [] := .inl (.inl (s3 _ _ upd_same))
  refine ⟨fun mm σ H2 => ∃ (j : Nat) (fs ws : List Addr) (v4 v5 v6 v7 : Option V), mm + j = 120 ∧ σ = [some (nV k), some (nV m), some (.ref fa), some (.ref wa), v4, v5, v6, v7] ∧ Same H H2 ∧ H2 fa = some (.lst (fs.map V.ref)) ∧ H2 wa = some (.lst (ws.map V.ref)) ∧ AllAt (TblAt K) H2 (arRun k m j).1 fs ∧ AllAt (RowAt K) H2 (arRun k m j).2 ws,
    ⟨120, 0, [], [e0], none, none, none, none, rfl, rfl, s1.trans s23, hfa0, upd_same, AllAt.nil, AllAt.one he0⟩, ?_⟩
  rintro mm σ H2 ⟨j, fs, ws, v4, v5, v6, v7, hmm, rfl, sH, hf, hw, AF, AW⟩
  obtain ⟨bl1, bl2, bl3⟩ := ar_len (k := k) hm2 j
  refine ⟨_, rfl, !(ws.map V.ref).isEmpty, .inl ⟨_, SqL.of hw, rfl⟩, ?_⟩
  cases eW : (arRun k m j).2.getLast? with
  | none =>
    have e2 : (arRun k m j).2 = [] := by simpa using eW
    have hws : ws = [] := List.length_eq_zero_iff.mp (by rw [AW.1, e2]; rfl)
    subst hws
    refine iteF ⟨_, rfl, q fa fs H2 sH hf ?_⟩
    have ea : allR k m = (arRun k m j).1 := by
      unfold allR
      have := ar_stop e2 (120 - j)
      rw [show j + (120 - j) = 120 by omega] at this
      rw [this]
    rw [ea]
    exact AF
  | some tt =>
  have htm := List.mem_of_getLast? eW
  have hpos : 0 < (arRun k m j).2.length := List.length_pos_of_mem htm
  have hwl : ws.length = (arRun k m j).2.length := AW.1
  have htl := bl3 tt htm
  have hj : j < 120 := by
    by_cases c : j < 120
    · exact c
    · have : j = 120 := by omega
      subst this
      rw [ar_end hk1 hk3 hm1 hm2] at htm
      cases htm
  have hne : (!(ws.map V.ref).isEmpty) = true := by
    cases ws with
    | nil =>
      simp at hwl
      omega
    | cons a r => rfl
  rw [hne]
  obtain ⟨ta, hta⟩ : ∃ x, ws[ws.length - 1]? = some x := ⟨_, List.getElem?_eq_getElem (by omega)⟩
  have eW2 : (arRun k m j).2[ws.length - 1]? = some tt := by
    rw [hwl, ← List.getLast?_eq_getElem?]
    exact eW
  have hrow : RowAt K H2 tt ta := AW.2 _ tt ta eW2 hta
  refine iteT ⟨fun σ' H' => ∃ m', m' < mm ∧ ∃ (j : Nat) (fs ws : List Addr) (v4 v5 v6 v7 : Option V), m' + j = 120 ∧ σ' = [some (nV k), some (nV m), some (.ref fa), some (.ref wa), v4, v5, v6, v7] ∧ Same H H' ∧ H' fa = some (.lst (fs.map V.ref)) ∧ H' wa = some (.lst (ws.map V.ref)) ∧ AllAt (TblAt K) H' (arRun k m j).1 fs ∧ AllAt (RowAt K) H' (arRun k m j).2 ws, fun _ _ h => h, ?_⟩
  refine ⟨_, rfl, .inl ⟨rfl, _, SqL.of hw⟩, wa, _, .ref ta, rfl, rfl, hw, by rw [List.length_map, List.getElem?_map, hta]; rfl, ?_⟩
  have bw : But wa H2 (upd H2 wa (.lst (ws.map V.ref).dropLast)) := fun b o hb e => by
    rw [upd_ne hb]
    exact e
  have sm := SM.lst (K := K) (o := .lst (ws.map V.ref).dropLast) hw
  have hf3 := bw _ _ nfw hf
  have hw3 : (upd H2 wa (.lst (ws.map V.ref).dropLast)) wa = some (.lst (ws.dropLast.map V.ref)) := by
    rw [upd_same, List.map_dropLast]
  have AF3 := AF.mono fun x a h => TblAt.mono (K := K) h sm
  have AW3 := AW.dropL.mono fun x a (h : RowAt K H2 x a) => (sm _ _ h : RowAt K _ x a)
  have hrow3 : SqT K (upd H2 wa (.lst (ws.map V.ref).dropLast)) ta (tt.map nV) := sm _ _ hrow
  have sH3 : Same H (upd H2 wa (.lst (ws.map V.ref).dropLast)) := fun b o e => by
    rw [upd_ne (ne_of_none e nHw)]
    exact sH _ _ e
  have hwl3 : ws.dropLast.length = (arRun k m j).2.length - 1 := by rw [List.length_dropLast, hwl]
  generalize (upd H2 wa (.lst (ws.map V.ref).dropLast)) = H3 at hf3 hw3 AF3 AW3 hrow3 sH3 ⊢
  have eL : V.int 0 :: (tt.map nV ++ []) = ((0 : Int) :: tt.map fun x => ((x : Nat) : Int)).map V.int := by
    rw [List.append_nil, List.map_cons, List.map_map]
    rfl
  refine ⟨_, rfl, ta, _, rfl, .inl hrow3, Nat.le_of_lt (small1000 (by simp; omega)), fun lm nlm => ⟨lm, (0 : Int) :: tt.map fun x => ((x : Nat) : Int), rfl, SqL.of (by rw [upd_same]; exact congrArg (fun z => some (HO.lst z)) eL), Nat.succ_pos _, fun mx hx1 hx2 => ?_⟩⟩
  obtain rfl := arMax_uniq hx1 hx2
  have s4 := same_new nlm (.lst (V.int 0 :: (tt.map nV ++ [])))
  refine ⟨_, _, rfl, rfl, ?_⟩
  show gName 5 (nV (arMax tt + 1)) _ _ _
  have hf4 := s4 _ _ hf3
  have hw4 := s4 _ _ hw3
  have AF4 := AF3.mono fun x a h => TblAt.mono (K := K) h (SM.of s4)
  have AW4 := AW3.mono fun x a (h : RowAt K H3 x a) => (Same.tup s4 h : RowAt K _ x a)
  have hrow4 := Same.tup s4 hrow3
  have sH4 := sH3.trans s4
  generalize (upd H3 lm (.lst (V.int 0 :: (tt.map nV ++ [])))) = H4 at hf4 hw4 AF4 AW4 hrow4 sH4 ⊢
  have eS : arRun k m (j + 1) = arStep k m (arRun k m j) := rfl
  refine ⟨_, rfl, ta, _, rfl, .inr hrow4, _, rfl, _, rfl, _, _, rfl, rfl, .inr ⟨by omega, by omega⟩, rfl, _, rfl, ?_⟩
  rw [List.length_map]
  by_cases c : tt.length = (arMax tt + 1) * k
  · have e0 : decide (V.int ((tt.length : Nat) : Int) = V.int (((arMax tt + 1 : Nat) : Int) * ((k : Nat) : Int))) = true := decide_eq_true (congrArg V.int (by rw [c]; push_cast; rfl))
    have eS2 : arStep k m (arRun k m j) = ((arRun k m j).1 ++ [arRow k tt (arMax tt + 1)], (arRun k m j).2.dropLast) := by
      unfold arStep
      rw [eW]
      exact if_pos c
    have hsm : arMax tt + 1 ≤ tt.length := by
      rw [c]
      exact Nat.le_mul_of_pos_right _ hk1
    refine (show (if decide (V.int ((tt.length : Nat) : Int) = V.int (((arMax tt + 1 : Nat) : Int) * ((k : Nat) : Int))) = true then _ else _) from ?_)
    rw [e0]
    refine iteT ⟨_, rfl, .inl ⟨rfl, _, SqL.of hf4⟩, _, rfl, ((arMax tt + 1 : Nat) : Int), rfl, by omega, by omega, fun D nD => ?_⟩
    refine lc_it (walk_range (lo := 0)) (fun i H5 => ∃ cs : List Addr, Same H4 H5 ∧ H5 D = some (.lst (cs.map V.ref)) ∧ AllAt (RowAt K) H5 ((List.range i).map fun x => (tt.drop (k * x)).take k) cs)
      ⟨[], same_new nD _, upd_same, AllAt.nil⟩ (fun _ _ _ _ => trivial) (fun i x H5 H6 hi q0 yl => ?_) (fun H5 q0 => ?_)
    · obtain ⟨cs, s5, hD, A5⟩ := q0
      obtain ⟨rfl, rfl⟩ := yl
      rw [Int.toNat_natCast] at hi
      have e1 : V.int (0 + ((i : Nat) : Int)) = nV i := congrArg V.int (by omega)
      have hcs : cs.length = i := by rw [A5.1, List.length_map, List.length_range]
      show gName 7 (V.int (0 + ((i : Nat) : Int))) _ _ _
      rw [e1]
      have hle : k * (i + 1) ≤ tt.length := by
        rw [c, Nat.mul_comm]
        exact Nat.mul_le_mul_right _ (by omega)
      refine ⟨rfl, tYes_if ⟨_, rfl, _, rfl, _, rfl, _, _, rfl, rfl, .inl ⟨by omega, by omega⟩, _, rfl, _, rfl, _, rfl, _, _, rfl, rfl, _, _, rfl, rfl, .inl ⟨by omega, by omega⟩, _, rfl, ?_⟩⟩
      have r := slA_row (K := K) (H := H6) (a := ta) (t := tt) (k := k) (x := i) (Q := fun y H4 => ∃ acc, H4 D = some (.lst acc) ∧ acc.length < sizeLine ∧ ∃ cs : List Addr, Same _ (upd H4 D (.lst (acc ++ [y]))) ∧ (upd H4 D (.lst (acc ++ [y]))) D = some (.lst (cs.map V.ref)) ∧ AllAt (RowAt K) (upd H4 D (.lst (acc ++ [y]))) ((List.range (i + 1)).map fun x => (tt.drop (k * x)).take k) cs) hle (Same.tup s5 hrow4) fun cc H7 s7 hc => by
        have hD7 := s7 _ _ hD
        refine ⟨_, hD7, by rw [List.length_map]; exact small1000 (by omega), cs ++ [cc], fun b o e => ?_, by rw [upd_same, List.map_append]; rfl, ?_⟩
        · rw [upd_ne (ne_of_none e nD)]
          exact s7 _ _ (s5 _ _ e)
        · rw [List.range_succ, List.map_append]
          exact ((A5.mono fun _ _ (h : RowAt K H6 _ _) => (Same.tup s7 h : RowAt K H7 _ _)).app (AllAt.one hc)).mono fun _ _ h => SM.lst hD7 _ _ h
      have n1 : ((k : Nat) : Int) * ((i : Nat) : Int) = ((k * i : Nat) : Int) := by push_cast; rfl
      have n2 : ((k : Nat) : Int) * (((i : Nat) : Int) + 1) = ((k * (i + 1) : Nat) : Int) := by push_cast; rfl
      rw [n1, n2]
      exact r
    · obtain ⟨cs, s5, hD, A5⟩ := q0
      rw [Int.toNat_natCast] at A5
      refine ⟨D, _, rfl, SqL.of hD, fun tp ntp => ?_⟩
      have s6 := s5.trans (same_new ntp (.tup (cs.map V.ref)))
      have hf6 := s6 _ _ hf4
      refine ⟨fa, _, _, rfl, rfl, hf6, by rw [List.length_map, AF.1]; exact small1000 (by omega), ?_⟩
      have hcsl : cs.length = arMax tt + 1 := by rw [A5.1, List.length_map, List.length_range]
      have smf := SM.lst (K := K) (o := .lst (fs.map V.ref ++ [V.ref tp])) hf6
      have hT : TblAt K (upd H5 tp (.tup (cs.map V.ref))) (arRow k tt (arMax tt + 1)) tp := ⟨cs, SqT.new, A5.1, fun i a row h1 h2 => Same.tup (same_new ntp _) (A5.2 i row a h2 h1)⟩
      refine ⟨mm - 1, by omega, j + 1, fs ++ [tp], ws.dropLast, _, _, _, _, by omega, rfl, fun b o e => ?_, by rw [upd_same, List.map_append]; rfl, ?_, ?_, ?_⟩
      · rw [upd_ne (ne_of_none e nHf)]
        exact s6 _ _ (sH4 _ _ e)
      · rw [upd_ne nfw.symm]
        exact s6 _ _ hw4
      · rw [eS, eS2]
        exact ((AF4.mono fun x a h => TblAt.mono (K := K) h (SM.of s6)).app (AllAt.one hT)).mono fun x a h => TblAt.mono (K := K) h smf
      · rw [eS, eS2]
        exact (AW4.mono fun x a (h : RowAt K H4 x a) => (Same.tup s6 h : RowAt K _ x a)).mono fun x a h => smf _ _ h
  · have e0 : decide (V.int ((tt.length : Nat) : Int) = V.int (((arMax tt + 1 : Nat) : Int) * ((k : Nat) : Int))) = false := decide_eq_false (fun z => c (by
      have z := V.int.inj z
      have z2 : ((tt.length : Nat) : Int) = (((arMax tt + 1) * k : Nat) : Int) := by rw [z]; push_cast; rfl
      exact Int.ofNat_inj.mp z2))
    have eS2 : arStep k m (arRun k m j) = ((arRun k m j).1, (arRun k m j).2.dropLast ++ (List.range (min (arMax tt + 2) m)).map fun x => tt ++ [x]) := by
      unfold arStep
      rw [eW]
      exact if_neg c
    refine (show (if decide (V.int ((tt.length : Nat) : Int) = V.int (((arMax tt + 1 : Nat) : Int) * ((k : Nat) : Int))) = true then _ else _) from ?_)
    rw [e0]
    have eN : ((if ((m : Nat) : Int) < ((arMax tt + 1 : Nat) : Int) + 1 then ((m : Nat) : Int) else ((arMax tt + 1 : Nat) : Int) + 1)).toNat = min (arMax tt + 2) m := by
      split <;> omega
    have bN : (if ((m : Nat) : Int) < ((arMax tt + 1 : Nat) : Int) + 1 then ((m : Nat) : Int) else ((arMax tt + 1 : Nat) : Int) + 1) ≤ 2 ∧ 0 ≤ (if ((m : Nat) : Int) < ((arMax tt + 1 : Nat) : Int) + 1 then ((m : Nat) : Int) else ((arMax tt + 1 : Nat) : Int) + 1) := by
      split <;> omega
    refine iteF ⟨_, rfl, .inl ⟨rfl, _, SqL.of hw4⟩, _, rfl, _, _, rfl, rfl, _, rfl, _, _, rfl, _, rfl, by omega, by omega, fun D nD => ?_⟩
    refine lc_it (walk_range (lo := 0)) (fun i H5 => ∃ cs : List Addr, Same H4 H5 ∧ H5 D = some (.lst (cs.map V.ref)) ∧ AllAt (RowAt K) H5 ((List.range i).map fun x => tt ++ [x]) cs)
      ⟨[], same_new nD _, upd_same, AllAt.nil⟩ (fun _ _ _ _ => trivial) (fun i x H5 H6 hi q0 yl => ?_) (fun H5 q0 => ?_)
    · obtain ⟨cs, s5, hD, A5⟩ := q0
      obtain ⟨rfl, rfl⟩ := yl
      rw [eN] at hi
      have e1 : V.int (0 + ((i : Nat) : Int)) = nV i := congrArg V.int (by omega)
      have hcs : cs.length = i := by rw [A5.1, List.length_map, List.length_range]
      show gName 6 (V.int (0 + ((i : Nat) : Int))) _ _ _
      rw [e1]
      refine ⟨rfl, tYes_if ⟨_, rfl, ta, _, rfl, .inl (Same.tup s5 hrow4), _, rfl, Nat.le_of_lt (small1000 (by simp; omega)), fun tp ntp => ?_⟩⟩
      have s7 := same_new ntp (.tup (tt.map nV ++ [nV i]))
      have hD7 := s7 _ _ hD
      refine ⟨_, hD7, by rw [List.length_map]; exact small1000 (by omega), cs ++ [tp], fun b o e => ?_, by rw [upd_same, List.map_append]; rfl, ?_⟩
      · rw [upd_ne (ne_of_none e nD)]
        exact s7 _ _ (s5 _ _ e)
      · rw [List.range_succ, List.map_append]
        have hT : RowAt K (upd H6 tp (.tup (tt.map nV ++ [nV i]))) (tt ++ [i]) tp := .inl (.inl (by
          rw [upd_same, List.map_append]
          rfl))
        exact ((A5.mono fun _ _ (h : RowAt K H6 _ _) => (Same.tup s7 h : RowAt K _ _ _)).app (AllAt.one hT)).mono fun _ _ h => SM.lst hD7 _ _ h
    · obtain ⟨cs, s5, hD, A5⟩ := q0
      rw [eN] at A5
      have hcsl : cs.length = min (arMax tt + 2) m := by rw [A5.1, List.length_map, List.length_range]
      have hw5 := s5 _ _ hw4
      refine ⟨wa, D, _, _, rfl, rfl, hw5, hD, Nat.le_of_lt (small1000 (by rw [List.length_map, List.length_map, hwl3]; omega)), ?_⟩
      have smw := SM.lst (K := K) (o := .lst (ws.dropLast.map V.ref ++ cs.map V.ref)) hw5
      refine ⟨mm - 1, by omega, j + 1, fs, ws.dropLast ++ cs, _, _, _, _, by omega, rfl, fun b o e => ?_, ?_, by rw [upd_same, List.map_append], ?_, ?_⟩
      · rw [upd_ne (ne_of_none e nHw)]
        exact s5 _ _ (sH4 _ _ e)
      · rw [upd_ne nfw]
        exact s5 _ _ hf4
      · rw [eS, eS2]
        exact (AF4.mono fun x a h => TblAt.mono (K := K) h (SM.of s5)).mono fun x a h => TblAt.mono (K := K) h smw
      · rw [eS, eS2]
        exact ((AW4.mono fun x a (h : RowAt K H4 x a) => (Same.tup s5 h : RowAt K H5 x a)).app A5).mono fun x a h => smw _ _ h
end
end Own
namespace Own
def endsM (s mask : Nat) : List Bool := (List.range s).map fun i => decide ((mask / 2 ^ i) % 2 = 1)
def tabM (R : List (List Nat)) (mask : Nat) : Tab := ⟨R, endsM R.length mask⟩
def rowsB (k h : Nat) (R : List (List Nat)) : Bool := decide (1 ≤ R.length) && decide (R.length ≤ h) && R.all fun r => decide (r.length = k) && r.all fun x => decide (x < R.length)
theorem allR_b {k h : Nat} (hk1 : 1 ≤ k) (hk : k ≤ 3) (hm1 : 1 ≤ h) (hm : h ≤ 2) : (allR k h).all (rowsB k h) = true ∧ [List.replicate k 0] ∈ allR k h := by
  have h1 : k = 1 ∨ k = 2 ∨ k = 3 := by omega
  have h2 : h = 1 ∨ h = 2 := by omega
  rcases h1 with rfl | rfl | rfl <;> rcases h2 with rfl | rfl <;> decide +kernel
theorem rowsB_iff {k h : Nat} {R : List (List Nat)} : rowsB k h R = true ↔ (1 ≤ R.length ∧ R.length ≤ h) ∧ ∀ r, r ∈ R → r.length = k ∧ ∀ x, x ∈ r → x < R.length := by
  unfold rowsB
  simp only [Bool.and_eq_true, decide_eq_true_eq, List.all_eq_true]
theorem allR_bok {k h : Nat} (hk1 : 1 ≤ k) (hk : k ≤ 3) (hm1 : 1 ≤ h) (hm : h ≤ 2) {R : List (List Nat)} (hR : R ∈ allR k h) (mask : Nat) : BOk (tabM R mask) k R.length ∧ R.length ≤ h := by
  have := List.all_eq_true.mp (allR_b hk1 hk hm1 hm).1 R hR
  obtain ⟨⟨a1, a2⟩, a3⟩ := rowsB_iff.mp this
  exact ⟨⟨hk1, hk, by omega, by omega, rfl, by show (endsM R.length mask).length = _; unfold endsM; rw [List.length_map, List.length_range], a3⟩, a2⟩
/-- the last of the first differences -/
def Among (k h : Nat) (O : Tab) : Prop := ∃ R mask, R ∈ allR k h ∧ mask < 2 ^ R.length ∧ O = tabM R mask
def LastIs (k h : Nat) (T : Tab) (L : Nat) (O : Tab) : Prop := (Among k h O ∧ FDis k T O (some L)) ∧ ∀ O' i, Among k h O' → FDis k T O' (some i) → i ≤ L
theorem some_differs {k h : Nat} (hk1 : 1 ≤ k) (hk : k ≤ 3) (hm1 : 1 ≤ h) (hm : h ≤ 2) (T : Tab) : ∃ O, Among k h O ∧ FDis k T O (some 0) := by
  have hm := (allR_b hk1 hk hm1 hm).2
  refine ⟨tabM [List.replicate k 0] (if T.acc 0 [] then 0 else 1), ⟨_, _, hm, ?_, rfl⟩, ⟨[], fun _ z => by simp at z, rfl, ?_⟩, fun v _ hv => by omega⟩
  · show _ < 2 ^ 1
    split <;> decide
  · unfold Dif
    cases T.acc 0 [] with
    | true => show true ≠ false; decide
    | false => show false ≠ true; decide
end Own
namespace Own
open PySem PySem.Spec PyProof.Rows L2
/-- the best so far -/
def Best (k : Nat) (T : Tab) (S : Tab → Prop) : Option (Nat × Tab) → Prop
  | none => ∀ O j, S O → ¬ FDis k T O (some j)
  | some (L, O) => S O ∧ FDis k T O (some L) ∧ ∀ O' j, S O' → FDis k T O' (some j) → j ≤ L
theorem Best.imp {k : Nat} {T : Tab} {S S' : Tab → Prop} (h : ∀ O, S O ↔ S' O) : ∀ {st : Option (Nat × Tab)}, Best k T S st → Best k T S' st
  | none, b => fun O j hs => b O j ((h O).mpr hs)
  | some (L, O), ⟨a, b, c⟩ => ⟨(h O).mp a, b, fun O' j hs => c O' j ((h O').mpr hs)⟩
theorem Best.skip {k : Nat} {T O : Tab} {S : Tab → Prop} (f : FDis k T O none) : ∀ {st : Option (Nat × Tab)}, Best k T S st → Best k T (fun O' => S O' ∨ O' = O) st
  | none, b => fun O' j hs hf => by
    rcases hs with hs | rfl
    · exact b O' j hs hf
    · cases f.uniq hf
  | some (L, _), ⟨a, b, c⟩ => ⟨.inl a, b, fun O' j hs hf => by
    rcases hs with hs | rfl
    · exact c O' j hs hf
    · cases f.uniq hf⟩
theorem Best.keep {k i L : Nat} {T O P : Tab} {S : Tab → Prop} (f : FDis k T O (some i)) (hi : i ≤ L) (b : Best k T S (some (L, P))) : Best k T (fun O' => S O' ∨ O' = O) (some (L, P)) :=
  ⟨.inl b.1, b.2.1, fun O' j hs hf => by
    rcases hs with hs | rfl
    · exact b.2.2 O' j hs hf
    · obtain rfl := Option.some.inj (f.uniq hf)
      exact hi⟩
theorem Best.take {k i : Nat} {T O : Tab} {S : Tab → Prop} {st : Option (Nat × Tab)} (f : FDis k T O (some i)) (hi : ∀ L P, st = some (L, P) → L < i) (b : Best k T S st) : Best k T (fun O' => S O' ∨ O' = O) (some (i, O)) :=
  ⟨.inr rfl, f, fun O' j hs hf => by
    rcases hs with hs | rfl
    · cases st with
      | none => exact absurd hf (b O' j hs)
      | some p =>
        obtain ⟨L, P⟩ := p
        have := b.2.2 O' j hs hf
        have := hi L P rfl
        omega
    · obtain rfl := Option.some.inj (f.uniq hf)
      exact Nat.le_refl _⟩
/-- .. in the heap -/
def StAt (K : PySem.W.Frag) (H : Hp) : Option (Nat × Tab) → V → V → Prop
  | none, v, u => v = .int (-1) ∧ u = .non
  | some (L, O), v, u => v = nV L ∧ ∃ a r e, u = .ref a ∧ TabAt K H a r e O
theorem StAt.same {K : PySem.W.Frag} {H H' : Hp} (s : Same H H') : ∀ {st : Option (Nat × Tab)} {v u : V}, StAt K H st v u → StAt K H' st v u
  | none, _, _, h => h
  | some (_, _), _, _, ⟨a, b, r, e, c, d⟩ => ⟨a, b, r, e, c, d.same s⟩
section
variable {P : Program} {w : World} {K : PySem.W.Frag} {mg : Str → Option Value} {base : Heap}
abbrev s_last_difference : Stmt := topS 26
theorem sc_last_difference : FnScope ["table", "most", "last", "found", "rows", "mask", "other", "index", "stand"] ["table", "most"] (defScope s_last_difference) := ⟨rfl, rfl, rfl, by decide +kernel, rfl, by decide +kernel, by decide +kernel⟩
def sp_last_difference (K : PySem.W.Frag) : Sp := fun vs H Q _ => ∃ (t r e : Addr) (T : Tab) (k n h : Nat), vs = [.ref t, nV h] ∧ TabAt K H t r e T ∧ BOk T k n ∧ 1 ≤ h ∧ h ≤ 2 ∧
  ∀ (p o r' e' : Addr) (L : Nat) (O : Tab) (H' : Hp), Same H H' → SqT K H' p [nV L, .ref o] → LastIs k h T L O → TabAt K H' o r' e' O → Q (.ref p) H'
theorem ok_last_difference {f : Addr} {fd : FuncData} (F : Fun K "_last_difference" "_last_difference" s_last_difference f fd) (B : Bt mg) (C_all_rows : Got P w K mg base CX0 1 "_all_rows" ["size", "most"] (sp_all_rows K)) (C_table_size : Got P w K mg base CX0 1 "table_size" ["table"] (sp_table_size K)) (C_difference : Got P w K mg base CX0 2 "_difference" ["one", "other"] (sp_difference K)) :
    FnOk P w K mg base CX0 3 f fd ["table", "most"] (sp_last_difference K) := by
  refine F.ok sc_last_difference (fun vs H Q E h => ?_) (fun cdv A outer s0 H vs Q E hr h => ?_)
  · obtain ⟨t, r, e, T, k, n, h, rfl, _⟩ := h
    rfl
  obtain ⟨t, r, e, T, k, n, h, rfl, A1, hT, h1, h2, q⟩ := h
  have hr1 : Room 1 _ := hr.mono (by decide)
  have two : ∀ n, n ≤ 10 → n ≤ sizeLine := fun n h => Nat.le_of_lt (small1000 (by omega))
  refine ⟨_, (pss_cons (ps_asg (pe_tup (pa_cons (pe_un un_neg pe_int) (pa_cons pe_non pa_nil))) (g_tup K 2 (pgs_cons (pg_name (i := 2) sc_last_difference.nd rfl (Or.inl rfl)) (pgs_cons (pg_name (i := 3) sc_last_difference.nd rfl (Or.inl rfl)) pgs_nil)))) (pss_cons (ps_for PassesOwn.never rfl (p_list K (C_all_rows.call hr1 (by rfl) (pa_cons (C_table_size.call hr1 (by rfl) (pa_cons (pv 0) pa_nil)) (pa_cons (pv 1) pa_nil)))) (pg_name (i := 4) sc_last_difference.nd rfl (Or.inl rfl)) (pss_one (ps_for PassesOwn.never rfl (pi_range1 (by rfl) B.range (pa_cons (pe_op op_oneShl pe_int (pe_callB (c_len K) (by rfl) B.len bt_len (pa_cons (pv 4) pa_nil))) pa_nil)) (pg_name (i := 5) sc_last_difference.nd rfl (Or.inr rfl)) (pss_cons (ps_set (i := 6) sc_last_difference.nd rfl (Or.inl rfl) (pe_tup (pa_cons (pv 4) (pa_cons (pe_callTy (c_tup K) (by rfl) B.tuple bt_tuple (pa_cons (pe_lc (own := [("stand", 8)]) rfl sc_last_difference.nd (pi_range1 (by rfl) B.range (pa_cons (pe_callB (c_len K) (by rfl) B.len bt_len (pa_cons (pv 4) pa_nil)) pa_nil)) (blkOk_by (by kernel_rfl)) (fun _ _ _ _ _ => (pg_name (i := 8) sc_last_difference.nd rfl (Or.inl rfl))) (fun _ _ _ _ _ => pts_nil) (fun _ _ _ _ _ => (pe_cmpR op_eq (pe_op op_odd (pe_op op_shrN (pv 5) (pv 8)) pe_int) pe_int (nomark _)))) pa_nil)) pa_nil)))) (pss_cons (ps_set (i := 7) sc_last_difference.nd rfl (Or.inl rfl) (C_difference.call hr (by rfl) (pa_cons (pv 0) (pa_cons (pv 6) pa_nil)))) (pss_one (ps_if (PW.pt (pw_and (pt_cmpR op_notN (pv 7) pe_non (nomark _)) (pw_and1 (pt_cmpR op_gt (pv 7) (pv 2) (nomark _))))) (pss_one (ps_par (i := 2) (j := 3) rfl sc_last_difference.nd rfl rfl (by decide) rfl rfl (pa_cons (pv 7) (pa_cons (pv 6) pa_nil)) (by rfl))) pss_nil))))))) (pss_one (ps_ret (pe_tup (pa_cons (pv 2) (pa_cons (pv 3) pa_nil))))))), ?_⟩
  have hk1 := hT.k1
  have hk3 := hT.k3
  have hn40 := hT.n40
  refine ⟨_, rfl, two 2 (by decide), fun p0 np0 => ?_⟩
  have s0' := same_new np0 (.tup [V.int (-1), V.non])
  refine ⟨p0, _, rfl, SqT.new, rfl, _, _, rfl, _, _, rfl, rfl, ?_⟩
  have A0 := A1.same s0'
  refine ⟨_, rfl, t, r, e, T, k, n, rfl, A0, hT, _, rfl, k, h, rfl, hk1, hk3, h1, h2, fun l as H1 s1 hl al => ⟨l, rfl, ⟨_, SqL.of hl⟩, ?_⟩⟩
  have s01 := s0'.trans s1
  refine for_list (K := K) (a := l) (xs := as.map V.ref) (fun i σ H2 => ∃ (st : Option (Nat × Tab)) (v2 v3 : V) (v4 v5 v6 v7 v8 : Option V), σ = [some (.ref t), some (nV h), some v2, some v3, v4, v5, v6, v7, v8] ∧ Same H1 H2 ∧ StAt K H2 st v2 v3 ∧ Best k T (fun O => ∃ R mask, R ∈ (allR k h).take i ∧ mask < 2 ^ R.length ∧ O = tabM R mask) st)
    ⟨none, _, _, none, none, none, none, none, rfl, Same.refl _, ⟨rfl, rfl⟩, fun O j ⟨R, mask, hR, _⟩ => by simp at hR⟩ (fun i σ H2 _ h => ?_) ?_ ?_
  · obtain ⟨_, _, _, _, _, _, _, _, _, h, _⟩ := h
    exact SqL.of (h _ _ hl)
  · rintro i x σ H2 hx ⟨st, v2, v3, v4, v5, v6, v7, v8, rfl, s2, hst, hb⟩
    rw [List.getElem?_map] at hx
    cases ea : as[i]? with
    | none =>
      rw [ea] at hx
      cases hx
    | some a =>
    rw [ea] at hx
    obtain rfl : V.ref a = x := Option.some.inj hx
    have hia : i < (allR k h).length := by
      rw [← al.1]
      exact (List.getElem?_eq_some_iff.mp ea).1
    obtain ⟨R, eR⟩ : ∃ R, (allR k h)[i]? = some R := ⟨_, List.getElem?_eq_getElem hia⟩
    have hRm := List.mem_of_getElem? eR
    have hra : RowsAt K H1 a R := al.2 i _ a eR ea
    have htk : (allR k h).take (i + 1) = (allR k h).take i ++ [R] := by
      rw [List.take_add_one, eR]
      rfl
    obtain ⟨bk0, hRh⟩ := allR_bok hk1 hk3 h1 h2 hRm 0
    have hR1 : 1 ≤ R.length := bk0.n1
    have hra2 := hra.same s2
    obtain ⟨ys, hys, hyl⟩ := hra2.len
    have e2 : (2 : Int) ^ R.length = ((2 ^ R.length : Nat) : Int) := by push_cast; rfl
    have p4 : 2 ^ R.length ≤ 4 := Nat.pow_le_pow_right (by decide) (show R.length ≤ 2 by omega)
    have q62 : -(2 ^ 62) ≤ (2 : Int) ^ R.length ∧ (2 : Int) ^ R.length < 2 ^ 62 := by
      rw [e2]
      generalize (2 ^ R.length : Nat) = z at p4
      omega
    refine ⟨_, rfl, a, _, rfl, .inr hys, R.length, rfl, by rw [hyl], by omega, _, rfl, q62.1, q62.2, ?_⟩
    rw [e2]
    refine for_range (lo := 0) (n := (((2 ^ R.length : Nat) : Int)).toNat) (fun b σ H3 => ∃ (st : Option (Nat × Tab)) (v2 v3 : V) (v5 v6 v7 v8 : Option V), σ = [some (.ref t), some (nV h), some v2, some v3, some (.ref a), v5, v6, v7, v8] ∧ Same H1 H3 ∧ StAt K H3 st v2 v3 ∧ Best k T (fun O => (∃ R mask, R ∈ (allR k h).take i ∧ mask < 2 ^ R.length ∧ O = tabM R mask) ∨ ∃ mask, mask < b ∧ O = tabM R mask) st)
      ⟨st, v2, v3, v5, v6, v7, v8, rfl, s2, hst, hb.imp fun O => ⟨.inl, fun h => h.elim id fun ⟨m, hm, _⟩ => by omega⟩⟩ ?_ ?_
    · rintro b σ H3 hbn ⟨st, v2, v3, v5, v6, v7, v8, rfl, s3, hst, hb⟩
      rw [Int.toNat_natCast] at hbn
      have eb : V.int (0 + ((b : Nat) : Int)) = nV b := congrArg V.int (by omega)
      show gName 5 (V.int (0 + ((b : Nat) : Int))) _ _ _
      rw [eb]
      have hra3 := hra.same s3
      obtain ⟨ys, hys, hyl⟩ := hra3.len
      refine ⟨_, rfl, _, rfl, a, _, rfl, .inr hys, _, rfl, by omega, by omega, fun D nD => ?_⟩
      rw [hyl, Int.toNat_natCast]
      refine lc_map (walk_range (lo := 0)) nD (fun i => V.bl (decide ((b / 2 ^ i) % 2 = 1))) (small1000 (by omega)) (fun _ _ => trivial) ?_ ?_
      · rintro y x H4 H5 hy s4 ⟨rfl, rfl⟩ Rr hR
        have ey : V.int (0 + ((y : Nat) : Int)) = nV y := congrArg V.int (by omega)
        show gName 8 (V.int (0 + ((y : Nat) : Int))) _ _ _
        rw [ey]
        have e3 : V.int (((b : Nat) : Int) / 2 ^ y) = V.int ((b / 2 ^ y : Nat) : Int) := congrArg V.int (by push_cast; rfl)
        refine ⟨rfl, _, rfl, _, rfl, ((b : Nat) : Int), y, rfl, rfl, b / 2 ^ y, e3, rfl, rfl, ?_⟩
        have e4 : decide (V.int ((b / 2 ^ y % 2 : Nat) : Int) = V.int 1) = decide ((b / 2 ^ y) % 2 = 1) := by
          rw [Bool.eq_iff_iff, decide_eq_true_eq, decide_eq_true_eq]
          exact ⟨fun z => by have := V.int.inj z; omega, fun z => by rw [z]; rfl⟩
        rw [e4]
        exact hR _ (Same.refl _)
      intro H4 s4 e4
      refine ⟨D, _, rfl, SqL.of e4, fun tp ntp => ⟨two 2 (by decide), fun oa noa => ?_⟩⟩
      have s5 := same_new ntp (.tup ((List.range R.length).map fun i => V.bl (decide ((b / 2 ^ i) % 2 = 1))))
      have s6 := same_new noa (.tup [V.ref a, V.ref tp])
      have s46 := (s4.trans s5).trans s6
      have Ao : TabAt K _ oa a tp (tabM R b) := ⟨SqT.new, hra3.same s46, Same.tup s6 (.inl (.inl (by
        rw [upd_same]
        show _ = some (HO.tup ((endsM R.length b).map V.bl))
        unfold endsM
        rw [List.map_map]
        rfl)))⟩
      have A6 := ((A0.same s1).same s3).same s46
      have hst6 := hst.same s46
      have sH6 := s3.trans s46
      generalize (upd (upd H4 tp (.tup ((List.range R.length).map fun i => V.bl (decide ((b / 2 ^ i) % 2 = 1))))) oa (.tup [V.ref a, V.ref tp])) = H6 at Ao A6 hst6 sH6 ⊢
      obtain ⟨bkb, _⟩ := allR_bok hk1 hk3 h1 h2 hRm b
      have nm : n * R.length ≤ 40 * 2 := Nat.mul_le_mul hn40 (by omega)
      refine ⟨_, rfl, _, rfl, t, r, e, oa, a, tp, T, tabM R b, k, n, R.length, rfl, A6, Ao, hT, bkb, by omega, fun o H7 hfd s7 => ?_⟩
      have Ao7 := Ao.same s7
      have hst7 := hst6.same s7
      have sH7 := sH6.trans s7
      have ext : ∀ {st' : Option (Nat × Tab)}, Best k T (fun O => ((∃ R mask, R ∈ (allR k h).take i ∧ mask < 2 ^ R.length ∧ O = tabM R mask) ∨ ∃ mask, mask < b ∧ O = tabM R mask) ∨ O = tabM R b) st' → Best k T (fun O => (∃ R mask, R ∈ (allR k h).take i ∧ mask < 2 ^ R.length ∧ O = tabM R mask) ∨ ∃ mask, mask < b + 1 ∧ O = tabM R mask) st' := fun hb => hb.imp fun O => by
        constructor
        · rintro ((z | ⟨m, hm, z⟩) | z)
          · exact .inl z
          · exact .inr ⟨m, by omega, z⟩
          · exact .inr ⟨b, by omega, z⟩
        · rintro (z | ⟨m, hm, z⟩)
          · exact .inl (.inl z)
          · by_cases c : m < b
            · exact .inl (.inr ⟨m, c, z⟩)
            · have : m = b := by omega
              subst this
              exact .inr z
      cases o with
      | none =>
        refine ⟨_, rfl, rfl, false, congrArg V.bl (by simp [oN]), iteF (iteF ⟨st, v2, v3, _, _, _, _, rfl, sH7, hst7, ext (hb.skip hfd)⟩)⟩
      | some j =>
        refine ⟨_, rfl, rfl, true, congrArg V.bl (by simp [oN, nV]), iteT ?_⟩
        cases st with
        | none =>
          obtain ⟨rfl, rfl⟩ := hst7
          refine ⟨_, rfl, _, rfl, _, _, rfl, rfl, true, congrArg V.bl (decide_eq_true (by omega)), iteT ⟨_, rfl, _, rfl, _, _, rfl, ?_⟩⟩
          exact ⟨some (j, tabM R b), _, _, _, _, _, _, rfl, sH7, ⟨rfl, oa, a, tp, rfl, Ao7⟩, ext (Best.take (st := none) hfd (fun L P z => by cases z) hb)⟩
        | some p =>
          obtain ⟨L, O⟩ := p
          obtain ⟨rfl, a', r', e', rfl, Aa⟩ := hst7
          by_cases c : L < j
          · refine ⟨_, rfl, _, rfl, _, _, rfl, rfl, true, congrArg V.bl (decide_eq_true (by omega)), iteT ⟨_, rfl, _, rfl, _, _, rfl, ?_⟩⟩
            exact ⟨some (j, tabM R b), _, _, _, _, _, _, rfl, sH7, ⟨rfl, oa, a, tp, rfl, Ao7⟩, ext (hb.take hfd fun L' P z => by obtain ⟨rfl, _⟩ := Prod.mk.inj (Option.some.inj z); exact c)⟩
          · refine ⟨_, rfl, _, rfl, _, _, rfl, rfl, false, congrArg V.bl (decide_eq_false (by omega)), iteF ?_⟩
            exact ⟨some (L, O), _, _, _, _, _, _, rfl, sH7, ⟨rfl, a', r', e', rfl, Aa⟩, ext (hb.keep hfd (by omega))⟩
    · rintro σ H3 ⟨st, v2, v3, v5, v6, v7, v8, rfl, s3, hst, hb⟩
      rw [Int.toNat_natCast] at hb
      refine ⟨st, v2, v3, _, _, _, _, _, rfl, s3, hst, hb.imp fun O => ?_⟩
      rw [htk]
      constructor
      · rintro (⟨R', m, z1, z2⟩ | ⟨m, z1, z2⟩)
        · exact ⟨R', m, List.mem_append_left _ z1, z2⟩
        · exact ⟨R, m, List.mem_append_right _ (List.mem_singleton.mpr rfl), z1, z2⟩
      · rintro ⟨R', m, z1, z2, z3⟩
        rcases List.mem_append.mp z1 with z | z
        · exact .inl ⟨R', m, z, z2, z3⟩
        · obtain rfl := List.mem_singleton.mp z
          exact .inr ⟨m, z2, z3⟩
  · rintro σ H2 ⟨st, v2, v3, v4, v5, v6, v7, v8, rfl, s2, hst, hb⟩
    rw [List.length_map, al.1, List.take_length] at hb
    have hb : Best k T (Among k h) st := hb
    obtain ⟨O0, g1, g2⟩ := some_differs hk1 hk3 h1 h2 T
    cases st with
    | none => exact absurd g2 (hb O0 0 g1)
    | some p =>
      obtain ⟨L, O⟩ := p
      obtain ⟨rfl, a', r', e', rfl, Aa⟩ := hst
      refine ⟨_, rfl, _, rfl, two 2 (by decide), fun pp npp => ?_⟩
      have s9 := same_new npp (.tup [nV L, V.ref a'])
      exact q pp a' r' e' L O _ ((s01.trans s2).trans s9) SqT.new ⟨⟨hb.1, hb.2.1⟩, hb.2.2⟩ (Aa.same s9)
end
end Own
namespace Own
open PySem PySem.Spec PyProof.Rows L2
section
variable {P : Program} {w : World} {K : PySem.W.Frag} {mg : Str → Option Value} {base : Heap}
abbrev s_check_limits : Stmt := topS 25
theorem sc_check_limits : FnScope ["table", "most"] ["table", "most"] (defScope s_check_limits) := ⟨rfl, rfl, rfl, by decide +kernel, rfl, by decide +kernel, by decide +kernel⟩
def sp_check_limits (K : PySem.W.Frag) : Sp := fun vs H Q _ => ∃ (t r e : Addr) (T : Tab) (k n h : Nat), vs = [.ref t, nV h] ∧ TabAt K H t r e T ∧ T.Ok k n ∧ 1 ≤ h ∧ h ≤ 2 ∧ ∀ H', Same H H' → Q .non H'
theorem ok_check_limits {f : Addr} {fd : FuncData} (F : Fun K "_check_limits" "_check_limits" s_check_limits f fd) (B : Bt mg) (C_check_table : Got P w K mg base CX0 5 "check_table" ["table"] (sp_check_table K)) (C_check_most : Got P w K mg base CX0 3 "_check_most" ["most"] sp_check_most) (C_table_size : Got P w K mg base CX0 1 "table_size" ["table"] (sp_table_size K)) :
    FnOk P w K mg base CX0 6 f fd ["table", "most"] (sp_check_limits K) := by
  refine F.ok sc_check_limits (fun vs H Q E h => ?_) (fun cdv A outer s0 H vs Q E hr h => ?_)
  · obtain ⟨t, r, e, T, k, n, h, rfl, _⟩ := h
    rfl
  obtain ⟨t, r, e, T, k, n, h, rfl, A1, O, h1, h2, q⟩ := h
  have hr1 : Room 1 _ := hr.mono (by decide)
  have hr3 : Room 3 _ := hr.mono (by decide)
  refine ⟨_, (pss_cons (ps_expr (C_check_table.call hr (by rfl) (pa_cons (pv 0) pa_nil))) (pss_cons (ps_expr (C_check_most.call hr3 (by rfl) (pa_cons (pv 1) pa_nil))) (pss_one (ps_if (pt_cmpR op_gt (pe_op op_mul (C_table_size.call hr1 (by rfl) (pa_cons (pv 0) pa_nil)) (pv 1)) (pe_g (by rfl) B.gProduct) (nomark _)) (pss_one ps_never) pss_nil)))), ?_⟩
  have hk3 := O.k3
  refine ⟨_, rfl, t, r, e, T, k, n, rfl, A1, O, fun H1 s1 => ?_⟩
  refine ⟨_, rfl, h, rfl, h1, by omega, ?_⟩
  refine ⟨_, rfl, t, r, e, T, k, n, rfl, A1.same s1, O.bok, _, rfl, _, _, rfl, rfl, .inl ⟨by omega, by omega⟩, _, _, rfl, rfl, false, congrArg V.bl (decide_eq_false ?_), iteF (q H1 s1)⟩
  have : k * h ≤ 3 * 2 := Nat.mul_le_mul hk3 h2
  have e2 : ((k : Nat) : Int) * ((h : Nat) : Int) = ((k * h : Nat) : Int) := by push_cast; rfl
  rw [e2]
  omega
end
end Own
namespace Own
open PySem PySem.Spec PyProof.Rows L2
/-- the first of some texts at which two tables differ -/
def FI (T O : Tab) (L : List Word) : Option Nat → Prop
  | none => ∀ u, u ∈ L → ¬ Dif T O u
  | some i => (∃ u, L[i]? = some u ∧ Dif T O u) ∧ ∀ (j : Nat) (v : Word), j < i → L[j]? = some v → ¬ Dif T O v
section
variable {P : Program} {w : World} {K : PySem.W.Frag} {mg : Str → Option Value} {base : Heap}
abbrev s_law_says : Stmt := topS 53
theorem sc_law_says : FnScope ["told", "due"] ["told", "due"] (defScope s_law_says) := ⟨rfl, rfl, rfl, by decide +kernel, rfl, by decide +kernel, by decide +kernel⟩
def sp_law_says : Sp := fun vs H Q _ => ∃ b c : Bool, vs = [.bl b, .bl c] ∧ Q (.bl (decide (b = c))) H
theorem ok_law_says {f : Addr} {fd : FuncData} (F : Fun K "_law_says" "_law_says" s_law_says f fd) (B : Bt mg) : FnOk P w K mg base CX0 1 f fd ["told", "due"] sp_law_says := by
  refine F.ok sc_law_says (fun vs H Q E h => ?_) (fun cdv A outer s0 H vs Q E hr h => ?_)
  · obtain ⟨b, c, rfl, _⟩ := h
    rfl
  obtain ⟨b, c, rfl, q⟩ := h
  refine ⟨_, (pss_one (ps_ret (pe_and (pe_callB (c_isi K) (by rfl) B.isinstance bt_isinstance (pa_cons (pv 0) (pa_cons (pe_bltn (v := .ty "bool") (by rfl) B.bool bt_bool rfl) pa_nil))) (pe_one (pe_cmpR op_eq (pv 0) (pv 1) (nomark _)))))), ?_⟩
  refine ⟨_, rfl, _, _, _, _, true, rfl, .ty "bool", .base (.bl b), kit_ty (by decide +kernel), true, rfl, iteT ⟨_, rfl, _, rfl, rfl, ?_⟩⟩
  have e : decide (V.bl b = V.bl c) = decide (b = c) := by
    rw [Bool.eq_iff_iff, decide_eq_true_eq, decide_eq_true_eq]
    exact ⟨fun z => V.bl.inj z, fun z => congrArg V.bl z⟩
  rw [e]
  exact q
abbrev s_law_index : Stmt := topS 55
theorem sc_law_index : FnScope ["table", "other", "texts", "index", "text"] ["table", "other", "texts"] (defScope s_law_index) := ⟨rfl, rfl, rfl, by decide +kernel, rfl, by decide +kernel, by decide +kernel⟩
def sp_law_index (K : PySem.W.Frag) : Sp := fun vs H Q _ => ∃ (t r e t' r' e' l : Addr) (T O : Tab) (k n m : Nat) (L : List Word), vs = [.ref t, .ref t', .ref l] ∧ TabAt K H t r e T ∧ TabAt K H t' r' e' O ∧ BOk T k n ∧ BOk O k m ∧ H l = some (.lst (L.map fun u => V.str (tx u))) ∧ (∀ u, u ∈ L → Wd k u ∧ u.length ≤ 100) ∧ L.length ≤ 1000 ∧
  ∀ (o : Option Nat) (H' : Hp), FI T O L o → Same H H' → Q (oN o) H'
theorem ok_law_index {f : Addr} {fd : FuncData} (F : Fun K "_law_index" "_law_index" s_law_index f fd) (B : Bt mg) (C_law_lead : Got P w K mg base CX0 1 "_law_lead" ["rows", "stand", "text"] (sp_law_lead K)) : FnOk P w K mg base CX0 2 f fd ["table", "other", "texts"] (sp_law_index K) := by
  refine F.ok sc_law_index (fun vs H Q E h => ?_) (fun cdv A outer s0 H vs Q E hr h => ?_)
  · obtain ⟨t, r, e, t', r', e', l, T, O, k, n, m, L, rfl, _⟩ := h
    rfl
  obtain ⟨t, r, e, t', r', e', l, T, O, k, n, m, L, rfl, A1, A2, hT, hO, hl, hL, hLl, q⟩ := h
  refine ⟨_, (pss_cons (ps_for PassesOwn.never rfl (pi_enum (by rfl) B.enumerate (pa_cons (pv 2) pa_nil)) (g_tup K 2 (pgs_cons (pg_name (i := 3) sc_law_index.nd rfl (Or.inl rfl)) (pgs_cons (pg_name (i := 4) sc_law_index.nd rfl (Or.inl rfl)) pgs_nil))) (pss_one (ps_if (pt_cmpR op_ne (p_ixt K (p_ixt K (pv 0) pe_int) (C_law_lead.call hr (by rfl) (pa_cons (p_ixt K (pv 0) pe_int) (pa_cons pe_int (pa_cons (pv 4) pa_nil))))) (p_ixt K (p_ixt K (pv 1) pe_int) (C_law_lead.call hr (by rfl) (pa_cons (p_ixt K (pv 1) pe_int) (pa_cons pe_int (pa_cons (pv 4) pa_nil))))) (nomark _)) (pss_one (ps_ret (pv 3))) pss_nil))) (pss_one (ps_ret pe_non))), ?_⟩
  refine ⟨_, rfl, l, _, rfl, SqL.of hl, for_it (walk_enum (K := K) (a := l) (xs := L.map fun u => V.str (tx u))) (fun i σ H2 => ∃ v3 v4 : Option V, σ = [some (.ref t), some (.ref t'), some (.ref l), v3, v4] ∧ Same H H2 ∧ ∀ u, u ∈ L.take i → ¬ Dif T O u)
    ⟨none, none, rfl, Same.refl _, fun u hu => by simp at hu⟩ (fun i σ H2 _ h => ?_) ?_ ?_⟩
  · obtain ⟨_, _, _, h, _⟩ := h
    exact SqL.of (h _ _ hl)
  · rintro i v σ H2 H3 hi ⟨v3, v4, rfl, s2, hag⟩ ⟨Tp, x1, x2, rfl, nT, rfl, f1, f2⟩
    obtain rfl : V.int ((i : Nat) : Int) = x1 := Option.some.inj f1
    rw [List.length_map] at hi
    have hg : L[i]? = some L[i] := List.getElem?_eq_getElem hi
    have f2 : (L.map fun u => V.str (tx u))[i]? = some x2 := f2
    rw [List.getElem?_map, hg] at f2
    obtain rfl : V.str (tx L[i]) = x2 := Option.some.inj f2
    obtain ⟨wu, wl⟩ := hL _ (List.getElem_mem hi)
    generalize hu : L[i] = u at hg wu wl nT
    have s3 := same_new nT (.tup [V.int ((i : Nat) : Int), V.str (tx u)])
    have B1 := (A1.same s2).same s3
    have B2 := (A2.same s2).same s3
    have r1 := hT.run_ltB hT.n1 wu
    have r2 := hO.run_ltB hO.n1 wu
    refine ⟨Tp, _, rfl, SqT.new, rfl, _, _, rfl, _, _, rfl, rfl, ?_⟩
    refine ⟨_, rfl, t, _, _, _, rfl, rfl, B1.top, rfl, _, rfl, t, _, _, _, rfl, rfl, B1.top, rfl, _, rfl, r, T, k, n, 0, u, rfl, B1.rows, hT, hT.n1, wu, by omega, e, _, _, _, rfl, rfl, B1.ends, at_fin0 hT r1, ?_⟩
    refine ⟨_, rfl, t', _, _, _, rfl, rfl, B2.top, rfl, _, rfl, t', _, _, _, rfl, rfl, B2.top, rfl, _, rfl, r', O, k, m, 0, u, rfl, B2.rows, hO, hO.n1, wu, by omega, e', _, _, _, rfl, rfl, B2.ends, at_fin0 hO r2, rfl, _, rfl, ?_⟩
    by_cases hd : Dif T O u
    · rw [decide_eq_false (show ¬ V.bl (T.fin (T.run 0 u)) = V.bl (O.fin (O.run 0 u)) from fun z => hd (V.bl.inj z))]
      refine iteT ⟨_, rfl, q (some i) _ ⟨⟨u, hg, hd⟩, fun j v hj hv => hag v (List.mem_of_getElem? (i := j) (by rw [List.getElem?_take_of_lt hj]; exact hv))⟩ (s2.trans s3)⟩
    · have : T.fin (T.run 0 u) = O.fin (O.run 0 u) := Classical.byContradiction fun z => hd z
      rw [this, decide_eq_true rfl]
      refine iteF ⟨_, _, rfl, s2.trans s3, fun v hv => ?_⟩
      rw [List.take_add_one, hg] at hv
      rcases List.mem_append.mp hv with z | z
      · exact hag v z
      · have : v = u := by simpa using z
        rw [this]
        exact hd
  · rintro σ H2 ⟨v3, v4, rfl, s2, hag⟩
    rw [List.length_map, List.take_length] at hag
    exact q none H2 hag s2
end
end Own
namespace Own
open PySem PySem.Spec PyProof.Rows L2
/-- the stands that are come to -/
def ctAdd (s : List Nat) (x : Nat) : List Nat := if x ∈ s then s else s ++ [x]
def ctRun (R : List (List Nat)) : Nat → List Nat
  | 0 => [0]
  | i + 1 => match (ctRun R i)[i]? with
    | none => ctRun R i
    | some s => (R.getD s []).foldl ctAdd (ctRun R i)
def ctB (R : List (List Nat)) : Bool := decide ((ctRun R R.length).length = R.length)
/-- it grows at its end, and holds stands -/
structure CtOk (n : Nat) (s : List Nat) : Prop where
  nd : s.Nodup
  lt : ∀ x, x ∈ s → x < n
theorem CtOk.add {n x : Nat} {s : List Nat} (h : CtOk n s) (hx : x < n) : CtOk n (ctAdd s x) := by
  unfold ctAdd
  split
  · exact h
  · rename_i hn
    refine ⟨nodup_snoc h.nd hn, fun y hy => ?_⟩
    rcases List.mem_append.mp hy with z | z
    · exact h.lt y z
    · rw [List.mem_singleton.mp z]
      exact hx
theorem CtOk.fold {n : Nat} : ∀ (r s : List Nat), CtOk n s → (∀ x, x ∈ r → x < n) → CtOk n (r.foldl ctAdd s)
  | [], _, h, _ => h
  | x :: r, s, h, hr => CtOk.fold r (ctAdd s x) (h.add (hr x List.mem_cons_self)) fun y hy => hr y (List.mem_cons_of_mem _ hy)
theorem ctAdd_pre (s : List Nat) (x : Nat) : s <+: ctAdd s x := by
  unfold ctAdd
  split
  · exact List.prefix_refl _
  · exact List.prefix_append _ _
theorem ctFold_pre : ∀ (r s : List Nat), s <+: r.foldl ctAdd s
  | [], s => List.prefix_refl _
  | x :: r, s => (ctAdd_pre s x).trans (ctFold_pre r (ctAdd s x))
theorem CtOk.few {n : Nat} {s : List Nat} (h : CtOk n s) : s.length ≤ n := nodup_lt_length n h.nd h.lt
theorem ctRun_ok {T : Tab} {k n : Nat} (O : BOk T k n) : ∀ i, CtOk n (ctRun T.rows i)
  | 0 => ⟨by simp [ctRun], fun x hx => by rw [ctRun, List.mem_singleton] at hx; rw [hx]; exact O.n1⟩
  | i + 1 => by
    have ih := ctRun_ok O i
    rw [ctRun]
    cases e : (ctRun T.rows i)[i]? with
    | none => exact ih
    | some s =>
      have hs := ih.lt s (List.mem_of_getElem? e)
      exact ih.fold _ _ fun x hx => ((O.row _ (List.mem_of_getElem? (O.rowget hs).2)).2 x hx)
theorem ctRun_stop {R : List (List Nat)} {i : Nat} (h : (ctRun R i).length ≤ i) : ∀ j, ctRun R (i + j) = ctRun R i
  | 0 => rfl
  | j + 1 => by
    show ctRun R (i + j + 1) = _
    rw [ctRun, ctRun_stop h j, List.getElem?_eq_none (by omega)]
section
variable {P : Program} {w : World} {K : PySem.W.Frag} {mg : Str → Option Value} {base : Heap}
abbrev s_law_come_to : Stmt := topS 56
theorem sc_law_come_to : FnScope ["table", "seen", "at", "there"] ["table"] (defScope s_law_come_to) := ⟨rfl, rfl, rfl, by decide +kernel, rfl, by decide +kernel, by decide +kernel⟩
def sp_law_come_to (K : PySem.W.Frag) : Sp := fun vs H Q _ => ∃ (t r e : Addr) (T : Tab) (k n : Nat), vs = [.ref t] ∧ TabAt K H t r e T ∧ BOk T k n ∧ ∀ H', Same H H' → Q (.bl (ctB T.rows)) H'
theorem ok_law_come_to {f : Addr} {fd : FuncData} (F : Fun K "_law_come_to" "_law_come_to" s_law_come_to f fd) (B : Bt mg) : FnOk P w K mg base CX0 1 f fd ["table"] (sp_law_come_to K) := by
  refine F.ok sc_law_come_to (fun vs H Q E h => ?_) (fun cdv A outer s0 H vs Q E hr h => ?_)
  · obtain ⟨t, r, e, T, k, n, rfl, _⟩ := h
    rfl
  obtain ⟨t, r, e, T, k, n, rfl, A1, O, q⟩ := h
  have hn40 := O.n40
  have two : ∀ n, n ≤ 10 → n ≤ sizeLine := fun n h => Nat.le_of_lt (small1000 (by omega))
  refine ⟨_, (pss_cons (ps_par (i := 1) (j := 2) rfl sc_law_come_to.nd rfl rfl (by decide) rfl rfl (pa_cons (pe_lst (pa_cons pe_int pa_nil)) (pa_cons pe_int pa_nil)) (by rfl)) (pss_cons (ps_while PassesOwn.never (pt_cmpR op_lt (pv 2) (pe_callB (c_len K) (by rfl) B.len bt_len (pa_cons (pv 1) pa_nil)) (nomark _)) (pss_cons (ps_for PassesOwn.never rfl (p_tup K (p_ixt K (p_ixt K (pv 0) pe_int) (p_ixl K (pv 1) (pv 2)))) (pg_name (i := 3) sc_law_come_to.nd rfl (Or.inl rfl)) (pss_one (ps_if (t_nin K (pv 3) (pv 1)) (pss_one (ps_expr (p_app K (pv 1) (pa_cons (pv 3) pa_nil)))) pss_nil))) (pss_one (ps_set (i := 2) sc_law_come_to.nd rfl (Or.inl rfl) (pe_op op_add (pv 2) pe_int))))) (pss_one (ps_ret (pe_cmpR op_eq (pe_callB (c_len K) (by rfl) B.len bt_len (pa_cons (pv 1) pa_nil)) (pe_callB (c_len K) (by rfl) B.len bt_len (pa_cons (p_ixt K (pv 0) pe_int) pa_nil)) (nomark _)))))), ?_⟩
  refine ⟨two 1 (by decide), fun sa nsa => ⟨_, _, rfl, ?_⟩⟩
  have s1 := same_new nsa (.lst [V.int 0])
  refine ⟨fun mm σ H2 => ∃ (i : Nat) (v3 : Option V), mm + i = n ∧ i ≤ (ctRun T.rows i).length ∧ σ = [some (.ref t), some (.ref sa), some (nV i), v3] ∧ Same H H2 ∧ H2 sa = some (.lst ((ctRun T.rows i).map nV)),
    ⟨n, 0, none, rfl, Nat.zero_le _, rfl, s1, upd_same⟩, ?_⟩
  rintro mm σ H2 ⟨i, v3, hmm, hil, rfl, s2, hs⟩
  have ck := ctRun_ok O i
  have hf := ck.few
  refine ⟨_, rfl, _, rfl, sa, _, rfl, .inl (SqL.of hs), _, _, rfl, rfl, _, rfl, ?_⟩
  rw [List.length_map]
  refine ite2 (fun c => ?_) (fun c => ?_)
  · have hi : i < (ctRun T.rows i).length := by
      have c := of_decide_eq_true c
      omega
    obtain ⟨s, es⟩ : ∃ s, (ctRun T.rows i)[i]? = some s := ⟨_, List.getElem?_eq_getElem hi⟩
    have hsn := ck.lt s (List.mem_of_getElem? es)
    have A2 := A1.same s2
    obtain ⟨a, xs, g1, g2, g3, _, g4⟩ := A2.rows.get (s := s) (by rw [O.rl]; exact hsn)
    refine ⟨fun σ' H' => ∃ m', m' < mm ∧ ∃ (i : Nat) (v3 : Option V), m' + i = n ∧ i ≤ (ctRun T.rows i).length ∧ σ' = [some (.ref t), some (.ref sa), some (nV i), v3] ∧ Same H H' ∧ H' sa = some (.lst ((ctRun T.rows i).map nV)), fun _ _ h => h, ?_⟩
    refine ⟨_, rfl, t, _, _, _, rfl, rfl, A2.top, rfl, _, rfl, _, rfl, sa, _, _, nV s, rfl, rfl, SqL.of hs, atI_nat (by rw [List.getElem?_map, es]; rfl), r, _, _, _, rfl, rfl, g1, g3, a, rfl, ⟨_, g4⟩, ?_⟩
    have nHs : H sa = none := nsa
    refine for_tup (K := K) (a := a) (xs := (T.rows.getD s []).map nV) (fun l σ H3 => ∃ v3 : Option V, σ = [some (.ref t), some (.ref sa), some (nV i), v3] ∧ Same H H3 ∧ SqT K H3 a ((T.rows.getD s []).map nV) ∧ H3 sa = some (.lst ((((T.rows.getD s []).take l).foldl ctAdd (ctRun T.rows i)).map nV)))
      ⟨v3, rfl, s2, g4, hs⟩ (fun l σ H3 _ h => ?_) ?_ ?_
    · obtain ⟨_, _, _, h, _⟩ := h
      exact h
    · rintro l x σ H3 hx ⟨v3, rfl, s3, h4, hs3⟩
      rw [List.getElem?_map] at hx
      cases ex : (T.rows.getD s [])[l]? with
      | none =>
        rw [ex] at hx
        cases hx
      | some y =>
      rw [ex] at hx
      obtain rfl : nV y = x := Option.some.inj hx
      have rowlt : ∀ z, z ∈ T.rows.getD s [] → z < n := fun z hz => (O.row _ (List.mem_of_getElem? (O.rowget hsn).2)).2 z hz
      have ck3 := ck.fold ((T.rows.getD s []).take l) _ fun z hz => rowlt z (List.mem_of_mem_take hz)
      have hf3 := ck3.few
      have etk : (T.rows.getD s []).take (l + 1) = (T.rows.getD s []).take l ++ [y] := by
        rw [List.take_add_one, ex]
        rfl
      rw [etk, List.foldl_append]
      generalize ((T.rows.getD s []).take l).foldl ctAdd (ctRun T.rows i) = S at ck3 hf3 hs3 ⊢
      refine ⟨_, rfl, _, rfl, sa, _, rfl, .inl (SqL.of hs3), rfl, flat_nV _, !decide (y ∈ S), congrArg (fun z => V.bl (!z)) (inV_nV _ _), ?_⟩
      by_cases hin : y ∈ S
      · rw [decide_eq_true hin]
        refine iteF ⟨_, rfl, s3, h4, ?_⟩
        show _ = some (HO.lst ((ctAdd S y).map nV))
        unfold ctAdd
        rw [if_pos hin]
        exact hs3
      · rw [decide_eq_false hin]
        refine iteT ⟨_, rfl, .inl ⟨rfl, _, SqL.of hs3⟩, _, rfl, sa, _, _, rfl, rfl, hs3, by rw [List.length_map]; exact small1000 (by omega), ?_⟩
        refine ⟨_, rfl, fun b o z => ?_, SM.lst hs3 _ _ h4, ?_⟩
        · rw [upd_ne (ne_of_none z nHs)]
          exact s3 _ _ z
        · show _ = some (HO.lst ((ctAdd S y).map nV))
          unfold ctAdd
          rw [if_neg hin, upd_same, List.map_append]
          rfl
    · rintro σ H3 ⟨v3, rfl, s3, h4, hs3⟩
      rw [List.length_map, List.take_length] at hs3
      have e5 : (T.rows.getD s []).foldl ctAdd (ctRun T.rows i) = ctRun T.rows (i + 1) := by
        rw [ctRun, es]
      have hp := (ctFold_pre (T.rows.getD s []) (ctRun T.rows i)).length_le
      rw [e5] at hs3 hp
      have ea : V.int (((i : Nat) : Int) + 1) = nV (i + 1) := congrArg V.int (by omega)
      exact ⟨_, rfl, _, _, rfl, rfl, mm - 1, by omega, i + 1, _, by omega, by omega, by rw [← ea]; rfl, s3, hs3⟩
  · have hi : (ctRun T.rows i).length ≤ i := by
      have c : ¬ ((i : Nat) : Int) < ((ctRun T.rows i).length : Nat) := of_decide_eq_false (Bool.eq_false_iff.mpr c)
      omega
    have A2 := A1.same s2
    obtain ⟨ys, hys, hyl⟩ := A2.rows.len
    have hin : i ≤ n := by omega
    have e6 : ctRun T.rows n = ctRun T.rows i := by
      have := ctRun_stop hi (n - i)
      rw [show i + (n - i) = n by omega] at this
      exact this
    refine ⟨_, rfl, sa, _, rfl, .inl (SqL.of hs), _, rfl, t, _, _, _, rfl, rfl, A2.top, rfl, r, _, rfl, .inr hys, rfl, ?_⟩
    have e7 : decide (V.int (((((ctRun T.rows i).map nV).length : Nat)) : Int) = V.int ((ys.length : Nat) : Int)) = ctB T.rows := by
      unfold ctB
      rw [List.length_map, hyl, O.rl, e6, Bool.eq_iff_iff, decide_eq_true_eq, decide_eq_true_eq]
      exact ⟨fun z => by have := V.int.inj z; omega, fun z => congrArg V.int (by omega)⟩
    rw [e7]
    exact q H2 s2
end
end Own
namespace Own
open PySem PySem.Spec PyProof.Rows L2
/-- all tables of some rows -/
def atOne (S : List (List Nat)) (p : List (List Nat) × List Bool) : List (List (List Nat) × List Bool) := [false, true].flatMap fun b => S.map fun r => (p.1 ++ [r], p.2 ++ [b])
def atUp (S : List (List Nat)) : Nat → List (List (List Nat) × List Bool)
  | 0 => [([], [])]
  | j + 1 => (atUp S j).flatMap (atOne S)
theorem atOne_len (S : List (List Nat)) (p : List (List Nat) × List Bool) : (atOne S p).length = 2 * S.length := by
  unfold atOne
  simp
  omega
theorem atUp_len (S : List (List Nat)) : ∀ j, (atUp S j).length = (2 * S.length) ^ j
  | 0 => rfl
  | j + 1 => by
    rw [atUp, List.length_flatMap]
    have : (atUp S j).map (fun p => (atOne S p).length) = (atUp S j).map fun _ => 2 * S.length := List.map_congr_left fun _ _ => atOne_len S _
    rw [this, List.map_const', List.sum_replicate_nat, atUp_len S j, Nat.pow_succ]
theorem mem_atUp {S : List (List Nat)} : ∀ {j : Nat} {p : List (List Nat) × List Bool}, p ∈ atUp S j → p.1.length = j ∧ p.2.length = j ∧ ∀ r, r ∈ p.1 → r ∈ S
  | 0, p, h => by
    rw [atUp, List.mem_singleton] at h
    subst h
    exact ⟨rfl, rfl, fun r h => by simp at h⟩
  | j + 1, p, h => by
    rw [atUp, List.mem_flatMap] at h
    obtain ⟨p', h1, h2⟩ := h
    unfold atOne at h2
    obtain ⟨b, _, h2⟩ := List.mem_flatMap.mp h2
    obtain ⟨r, hr, rfl⟩ := List.mem_map.mp h2
    obtain ⟨g1, g2, g3⟩ := mem_atUp h1
    refine ⟨by simp [g1], by simp [g2], fun x hx => ?_⟩
    rcases List.mem_append.mp hx with z | z
    · exact g3 x z
    · rw [List.mem_singleton.mp z]
      exact hr
theorem TabAt.mono {K : PySem.W.Frag} {H H' : Hp} {t r e : Addr} {T : Tab} (h : ∀ a xs, SqT K H a xs → SqT K H' a xs) (A : TabAt K H t r e T) : TabAt K H' t r e T := by
  obtain ⟨as, q1, q2, q3⟩ := A.rows
  exact ⟨h _ _ A.top, ⟨as, h _ _ q1, q2, fun i a row g1 g2 => h _ _ (q3 i a row g1 g2)⟩, h _ _ A.ends⟩
def TbAt (K : PySem.W.Frag) (H : Hp) (p : List (List Nat) × List Bool) (a : Addr) : Prop := ∃ r e, TabAt K H a r e ⟨p.1, p.2⟩
theorem TbAt.mono {K : PySem.W.Frag} {H H' : Hp} {p : List (List Nat) × List Bool} {a : Addr} (h : TbAt K H p a) (s : SM K H H') : TbAt K H' p a := by
  obtain ⟨r, e, A⟩ := h
  exact ⟨r, e, A.mono s⟩
theorem rows_snoc {K : PySem.W.Frag} {H : Hp} {c a : Addr} {qs : List Addr} {R : List (List Nat)} {row : List Nat} (hc : SqT K H c (qs.map V.ref ++ [V.ref a])) (hl : qs.length = R.length) (hq : ∀ (i : Nat) (b : Addr) (r : List Nat), qs[i]? = some b → R[i]? = some r → SqT K H b (r.map nV)) (hr : SqT K H a (row.map nV)) : RowsAt K H c (R ++ [row]) := by
  refine ⟨qs ++ [a], by rw [List.map_append]; exact hc, by rw [List.length_append, List.length_append, hl]; rfl, fun y b r h1 h2 => ?_⟩
  by_cases hy : y < qs.length
  · rw [List.getElem?_append_left hy] at h1
    rw [List.getElem?_append_left (by rw [← hl]; exact hy)] at h2
    exact hq y b r h1 h2
  · rw [List.getElem?_append_right (by omega)] at h1
    have hz : y - qs.length = 0 := by
      have := (List.getElem?_eq_some_iff.mp h1).1
      simp at this
      omega
    rw [hz] at h1
    rw [List.getElem?_append_right (by rw [← hl]; omega), ← hl, hz] at h2
    obtain rfl : a = b := by simpa using h1
    obtain rfl : row = r := by simpa using h2
    exact hr
section
variable {P : Program} {w : World} {K : PySem.W.Frag} {mg : Str → Option Value} {base : Heap}
abbrev s_law_all_tables : Stmt := topS 54
theorem sc_law_all_tables : FnScope ["size", "many", "some", "turn", "late", "row", "found", "rows", "ends", "end", "there"] ["size", "many"] (defScope s_law_all_tables) := ⟨rfl, rfl, rfl, by decide +kernel, rfl, by decide +kernel, by decide +kernel⟩
def sp_law_all_tables (K : PySem.W.Frag) : Sp := fun vs H Q _ => ∃ k m : Nat, vs = [nV k, nV m] ∧ ((k ≤ 3 ∧ m ≤ 2) ∨ (k ≤ 2 ∧ m ≤ 3)) ∧ ∀ (l : Addr) (as : List Addr) (H' : Hp), Same H H' → H' l = some (.lst (as.map V.ref)) → AllAt (TbAt K) H' (atUp (texts m k) m) as → Q (.ref l) H'
theorem ok_law_all_tables {f : Addr} {fd : FuncData} (F : Fun K "_law_all_tables" "_law_all_tables" s_law_all_tables f fd) (B : Bt mg) : FnOk P w K mg base CX0 1 f fd ["size", "many"] (sp_law_all_tables K) := by
  refine F.ok sc_law_all_tables (fun vs H Q E h => ?_) (fun cdv A outer s0 H vs Q E hr h => ?_)
  · obtain ⟨k, m, rfl, _⟩ := h
    rfl
  obtain ⟨k, m, rfl, hkm, q⟩ := h
  have two : ∀ n, n ≤ 10 → n ≤ sizeLine := fun n h => Nat.le_of_lt (small1000 (by omega))
  refine ⟨_, (pss_cons (ps_set (i := 2) sc_law_all_tables.nd rfl (Or.inl rfl) (pe_lst (pa_cons (pe_tup pa_nil) pa_nil))) (pss_cons (ps_for PassesOwn.never rfl (pi_range1 (by rfl) B.range (pa_cons (pv 0) pa_nil)) (pg_name (i := 3) sc_law_all_tables.nd rfl (Or.inl rfl)) (pss_cons (ps_set (i := 4) sc_law_all_tables.nd rfl (Or.inl rfl) (pe_lst pa_nil)) (pss_cons (ps_for PassesOwn.never rfl (p_list K (pv 2)) (pg_name (i := 5) sc_law_all_tables.nd rfl (Or.inr rfl)) (pss_one (ps_set (i := 4) sc_law_all_tables.nd rfl (Or.inl rfl) (pe_op op_cat (pv 4) (pe_lc (own := [("there", 10)]) rfl sc_law_all_tables.nd (pi_range1 (by rfl) B.range (pa_cons (pv 1) pa_nil)) (blkOk_by (by kernel_rfl)) (fun _ _ _ _ _ => (pg_name (i := 10) sc_law_all_tables.nd rfl (Or.inl rfl))) (fun _ _ _ _ _ => pts_nil) (fun _ _ _ _ _ => (p_catA K (pv 5) (pe_tup (pa_cons (pv 10) pa_nil))))))))) (pss_one (ps_set (i := 2) sc_law_all_tables.nd rfl (Or.inl rfl) (pv 4)))))) (pss_cons (ps_set (i := 6) sc_law_all_tables.nd rfl (Or.inl rfl) (pe_lst (pa_cons (pe_tup (pa_cons (pe_tup pa_nil) (pa_cons (pe_tup pa_nil) pa_nil))) pa_nil))) (pss_cons (ps_for PassesOwn.never rfl (pi_range1 (by rfl) B.range (pa_cons (pv 1) pa_nil)) (pg_name (i := 3) sc_law_all_tables.nd rfl (Or.inl rfl)) (pss_cons (ps_set (i := 4) sc_law_all_tables.nd rfl (Or.inl rfl) (pe_lst pa_nil)) (pss_cons (ps_for PassesOwn.never rfl (p_list K (pv 6)) (g_tup K 2 (pgs_cons (pg_name (i := 7) sc_law_all_tables.nd rfl (Or.inr rfl)) (pgs_cons (pg_name (i := 8) sc_law_all_tables.nd rfl (Or.inr rfl)) pgs_nil))) (pss_one (ps_for PassesOwn.never rfl (p_tup K (pe_tup (pa_cons pe_bl (pa_cons pe_bl pa_nil)))) (pg_name (i := 9) sc_law_all_tables.nd rfl (Or.inr rfl)) (pss_one (ps_set (i := 4) sc_law_all_tables.nd rfl (Or.inl rfl) (pe_op op_cat (pv 4) (pe_lc (own := [("row", 5)]) rfl sc_law_all_tables.nd (p_list K (pv 2)) (blkOk_by (by kernel_rfl)) (fun _ _ _ _ _ => (pg_name (i := 5) sc_law_all_tables.nd rfl (Or.inl rfl))) (fun _ _ _ _ _ => pts_nil) (fun _ _ _ _ _ => (pe_tup (pa_cons (p_catA K (pv 7) (pe_tup (pa_cons (pv 5) pa_nil))) (pa_cons (p_catA K (pv 8) (pe_tup (pa_cons (pv 9) pa_nil))) pa_nil))))))))))) (pss_one (ps_set (i := 6) sc_law_all_tables.nd rfl (Or.inl rfl) (pv 4)))))) (pss_one (ps_ret (pv 6))))))), ?_⟩
  refine ⟨two 0 (by decide), fun e0 ne0 => ⟨two 1 (by decide), fun ls nls => ?_⟩⟩
  have s1 := same_new ne0 (.tup [])
  have s2 := same_new nls (.lst [V.ref e0])
  have hpow : ∀ j, j ≤ k → (texts m j).length ≤ 9 := fun j hj => by
    rw [texts_length]
    have h : m = 0 ∨ m = 1 ∨ m = 2 ∨ m = 3 := by omega
    have h2 : j = 0 ∨ j = 1 ∨ j = 2 ∨ j = 3 := by omega
    rcases h with rfl | rfl | rfl | rfl <;> rcases h2 with rfl | rfl | rfl | rfl <;> first | decide | (exfalso; omega)
  refine ⟨_, rfl, ((k : Nat) : Int), rfl, by omega, by omega, for_range (lo := 0) (n := ((k : Nat) : Int).toNat) (fun j σ H1 => ∃ (ls : Addr) (as : List Addr) (v3 v4 v5 : Option V), j ≤ k ∧ σ = [some (nV k), some (nV m), some (.ref ls), v3, v4, v5, none, none, none, none, none] ∧ Same H H1 ∧ H1 ls = some (.lst (as.map V.ref)) ∧ AllAt (RowAt K) H1 (texts m j) as)
    ⟨ls, [e0], none, none, none, Nat.zero_le _, rfl, s1.trans s2, upd_same, AllAt.one (Same.tup s2 SqT.new)⟩ ?_ ?_⟩
  · rintro j σ H1 hj ⟨ls, as, v3, v4, v5, _, rfl, sH1, hls, A1⟩
    rw [Int.toNat_natCast] at hj
    have hnx := hpow (j + 1) (by omega)
    rw [← ext_texts] at hnx
    have extle : ∀ i, (ext m ((texts m j).take i)).length ≤ 9 := fun i => by
      have e3 : ext m (texts m j) = ext m ((texts m j).take i) ++ ext m ((texts m j).drop i) := by
        unfold ext
        rw [← List.flatMap_append, List.take_append_drop]
      rw [e3, List.length_append] at hnx
      omega
    refine ⟨two 0 (by decide), fun lt nlt => ?_⟩
    have s5 := same_new nlt (.lst [])
    refine ⟨_, rfl, ls, rfl, ⟨_, SqL.of (s5 _ _ hls)⟩, ?_⟩
    refine for_list (K := K) (a := ls) (xs := as.map V.ref) (fun i σ H2 => ∃ (lt : Addr) (bs : List Addr) (v5 : Option V), σ = [some (nV k), some (nV m), some (.ref ls), some (.int (0 + (j : Nat))), some (.ref lt), v5, none, none, none, none, none] ∧ Same H1 H2 ∧ H2 lt = some (.lst (bs.map V.ref)) ∧ AllAt (RowAt K) H2 (ext m ((texts m j).take i)) bs)
      ⟨lt, [], v5, rfl, s5, upd_same, AllAt.nil⟩ (fun i σ H2 _ h => ?_) ?_ ?_
    · obtain ⟨_, _, _, _, h, _⟩ := h
      exact SqL.of (h _ _ hls)
    · rintro i x σ H2 hx ⟨lt, bs, v5, rfl, sH2, hlt, A2⟩
      rw [List.getElem?_map] at hx
      cases ea : as[i]? with
      | none =>
        rw [ea] at hx
        cases hx
      | some a =>
      rw [ea] at hx
      obtain rfl : V.ref a = x := Option.some.inj hx
      have hia : i < (texts m j).length := by
        rw [← A1.1]
        exact (List.getElem?_eq_some_iff.mp ea).1
      have hrow : RowAt K H2 (texts m j)[i] a := Same.tup sH2 (A1.2 i _ a (List.getElem?_eq_getElem hia) ea)
      have hrl := (mem_texts.mp (List.getElem_mem hia)).1
      refine ⟨_, rfl, _, rfl, ((m : Nat) : Int), rfl, by omega, by omega, fun D nD => ?_⟩
      refine lc_it (walk_range (lo := 0)) (fun l H4 => ∃ cs : List Addr, Same H2 H4 ∧ H4 D = some (.lst (cs.map V.ref)) ∧ AllAt (RowAt K) H4 ((List.range l).map fun x => (texts m j)[i] ++ [x]) cs)
        ⟨[], same_new nD _, upd_same, AllAt.nil⟩ (fun _ _ _ _ => trivial) (fun l x H4 H5 hl q0 yl => ?_) (fun H4 q0 => ?_)
      · obtain ⟨cs, s4, hD, A4⟩ := q0
        obtain ⟨rfl, rfl⟩ := yl
        rw [Int.toNat_natCast] at hl
        have e0 : V.int (0 + ((l : Nat) : Int)) = nV l := congrArg V.int (by omega)
        have hcs : cs.length = l := by rw [A4.1, List.length_map, List.length_range]
        show gName 10 (V.int (0 + ((l : Nat) : Int))) _ _ _
        rw [e0]
        refine ⟨rfl, tYes_if ⟨_, rfl, _, rfl, two 1 (by decide), fun tp ntp => ?_⟩⟩
        refine cat_one (Same.tup s4 hrow) (by rw [List.length_map]; omega) (fun c H6 s6 hc => ?_) tp ntp
        have hD6 := s6 _ _ hD
        refine ⟨_, hD6, by rw [List.length_map]; exact small1000 (by omega), cs ++ [c], fun b o e => ?_, by rw [upd_same, List.map_append]; rfl, ?_⟩
        · rw [upd_ne (ne_of_none e nD)]
          exact s6 _ _ (s4 _ _ e)
        · rw [List.range_succ, List.map_append]
          refine ((A4.mono fun _ _ h => Same.tup s6 h).app (AllAt.one ?_)).mono fun _ _ h => SM.lst hD6 _ _ h
          show SqT K H6 c (((texts m j)[i] ++ [l]).map nV)
          rw [List.map_append]
          exact hc
      · obtain ⟨cs, s4, hD, A4⟩ := q0
        rw [Int.toNat_natCast] at A4
        have hb1 : bs.length ≤ 9 := by rw [A2.1]; exact extle i
        have hc1 : cs.length = m := by rw [A4.1, List.length_map, List.length_range]
        refine ⟨lt, D, _, _, rfl, rfl, s4 _ _ hlt, hD, by rw [List.length_map, List.length_map]; exact Nat.le_of_lt (small1000 (by omega)), fun l2 nl2 => ?_⟩
        have s6 := same_new nl2 (.lst (bs.map V.ref ++ cs.map V.ref))
        refine ⟨l2, bs ++ cs, _, rfl, sH2.trans (s4.trans s6), by rw [upd_same, List.map_append], ?_⟩
        have e2 : ext m ((texts m j).take (i + 1)) = ext m ((texts m j).take i) ++ (List.range m).map fun x => (texts m j)[i] ++ [x] := by
          rw [List.take_add_one, List.getElem?_eq_getElem hia]
          unfold ext
          rw [List.flatMap_append]
          simp
        rw [e2]
        exact (A2.mono fun _ _ h => Same.tup (s4.trans s6) h).app (A4.mono fun _ _ h => Same.tup s6 h)
    · rintro σ H2 ⟨lt, bs, v5, rfl, sH2, hlt, A2⟩
      rw [List.length_map, List.take_of_length_le (by rw [A1.1]; exact Nat.le_refl _), ext_texts] at A2
      exact ⟨_, rfl, lt, bs, _, _, _, by omega, rfl, sH1.trans sH2, hlt, A2⟩
  · rintro σ H1 ⟨ls, as, v3, v4, v5, _, rfl, sH1, hls, A1⟩
    rw [Int.toNat_natCast] at A1
    have hS9 := hpow k (Nat.le_refl _)
    have hm3 : m ≤ 3 := by omega
    have hasl : as.length ≤ 9 := by rw [A1.1]; exact hS9
    have tpow : ∀ j, j ≤ 3 → (atUp (texts m k) j).length ≤ 5832 := fun j hj => by
      rw [atUp_len]
      have h1 : (2 * (texts m k).length) ^ j ≤ 18 ^ j := Nat.pow_le_pow_left (by omega) j
      have h2 : 18 ^ j ≤ 18 ^ 3 := Nat.pow_le_pow_right (by decide) hj
      exact Nat.le_trans h1 h2
    refine ⟨two 0 (by decide), fun e1 ne1 => ⟨two 0 (by decide), fun e2 ne2 => ⟨two 2 (by decide), fun e3 ne3 => ⟨two 1 (by decide), fun lf nlf => ?_⟩⟩⟩⟩
    have s1' := same_new ne1 (.tup [])
    have s2' := same_new ne2 (.tup [])
    have s3' := same_new ne3 (.tup [V.ref e1, V.ref e2])
    have s4' := same_new nlf (.lst [V.ref e3])
    have hT0 : TbAt K (upd (upd (upd (upd H1 e1 (.tup [])) e2 (.tup [])) e3 (.tup [V.ref e1, V.ref e2])) lf (.lst [V.ref e3])) ([], []) e3 := ⟨e1, e2, Same.tup s4' SqT.new, ⟨[], Same.tup ((s2'.trans s3').trans s4') SqT.new, rfl, fun i a row h => by simp at h⟩, Same.tup (s3'.trans s4') SqT.new⟩
    refine ⟨_, rfl, ((m : Nat) : Int), rfl, by omega, by omega, for_range (lo := 0) (n := ((m : Nat) : Int).toNat) (fun j σ H2 => ∃ (lf : Addr) (fs : List Addr) (v3 v4 v5 v7 v8 v9 : Option V), j ≤ m ∧ σ = [some (nV k), some (nV m), some (.ref ls), v3, v4, v5, some (.ref lf), v7, v8, v9, none] ∧ Same H1 H2 ∧ H2 lf = some (.lst (fs.map V.ref)) ∧ AllAt (TbAt K) H2 (atUp (texts m k) j) fs)
      ⟨lf, [e3], v3, v4, v5, none, none, none, Nat.zero_le _, rfl, ((s1'.trans s2').trans s3').trans s4', upd_same, AllAt.one hT0⟩ ?_ ?_⟩
    · rintro j σ H2 hj ⟨lf, fs, v3, v4, v5, v7, v8, v9, _, rfl, sH2, hlf, A2⟩
      rw [Int.toNat_natCast] at hj
      have hnx := tpow (j + 1) (by omega)
      refine ⟨two 0 (by decide), fun lt nlt => ?_⟩
      have s5 := same_new nlt (.lst [])
      refine ⟨_, rfl, lf, rfl, ⟨_, SqL.of (s5 _ _ hlf)⟩, ?_⟩
      refine for_list (K := K) (a := lf) (xs := fs.map V.ref) (fun i σ H3 => ∃ (lt : Addr) (bs : List Addr) (v5 v7 v8 v9 : Option V), σ = [some (nV k), some (nV m), some (.ref ls), some (.int (0 + (j : Nat))), some (.ref lt), v5, some (.ref lf), v7, v8, v9, none] ∧ Same H2 H3 ∧ H3 lt = some (.lst (bs.map V.ref)) ∧ AllAt (TbAt K) H3 (((atUp (texts m k) j).take i).flatMap (atOne (texts m k))) bs)
        ⟨lt, [], v5, v7, v8, v9, rfl, s5, upd_same, AllAt.nil⟩ (fun i σ H3 _ h => ?_) ?_ ?_
      · obtain ⟨_, _, _, _, _, _, _, h, _⟩ := h
        exact SqL.of (h _ _ hlf)
      · rintro i x σ H3 hx ⟨lt, bs, v5, v7, v8, v9, rfl, sH3, hlt, A3⟩
        rw [List.getElem?_map] at hx
        cases ea : fs[i]? with
        | none =>
          rw [ea] at hx
          cases hx
        | some a =>
        rw [ea] at hx
        obtain rfl : V.ref a = x := Option.some.inj hx
        have hia : i < (atUp (texts m k) j).length := by
          rw [← A2.1]
          exact (List.getElem?_eq_some_iff.mp ea).1
        have htab : TbAt K H3 (atUp (texts m k) j)[i] a := TbAt.mono (A2.2 i _ a (List.getElem?_eq_getElem hia) ea) (SM.of sH3)
        obtain ⟨m1, m2, m3⟩ := mem_atUp (List.getElem_mem hia)
        have e3 : ((atUp (texts m k) j).take (i + 1)).flatMap (atOne (texts m k)) = ((atUp (texts m k) j).take i).flatMap (atOne (texts m k)) ++ atOne (texts m k) (atUp (texts m k) j)[i] := by
          rw [List.take_add_one, List.getElem?_eq_getElem hia, List.flatMap_append]
          simp
        have hbnd : (((atUp (texts m k) j).take (i + 1)).flatMap (atOne (texts m k))).length ≤ 5832 := by
          have e4 : (atUp (texts m k) (j + 1)) = ((atUp (texts m k) j).take (i + 1)).flatMap (atOne (texts m k)) ++ ((atUp (texts m k) j).drop (i + 1)).flatMap (atOne (texts m k)) := by
            rw [atUp, ← List.flatMap_append, List.take_append_drop]
          rw [e4, List.length_append] at hnx
          omega
        rw [e3]
        rw [e3] at hbnd
        generalize (atUp (texts m k) j)[i] = p at htab m1 m2 m3 hbnd ⊢
        obtain ⟨ra, ea', At⟩ := htab
        refine ⟨a, _, rfl, At.top, rfl, _, _, rfl, _, _, rfl, rfl, ?_⟩
        refine ⟨two 2 (by decide), fun tb ntb => ⟨tb, rfl, ⟨_, SqT.new⟩, ?_⟩⟩
        have s6 := same_new ntb (.tup [V.bl false, V.bl true])
        refine for_tup (K := K) (a := tb) (xs := [V.bl false, V.bl true]) (fun b σ H4 => ∃ (lt : Addr) (cs : List Addr) (v5 v9 : Option V), σ = [some (nV k), some (nV m), some (.ref ls), some (.int (0 + (j : Nat))), some (.ref lt), v5, some (.ref lf), some (.ref ra), some (.ref ea'), v9, none] ∧ Same H3 H4 ∧ SqT K H4 tb [V.bl false, V.bl true] ∧ H4 lt = some (.lst (cs.map V.ref)) ∧ AllAt (TbAt K) H4 (((atUp (texts m k) j).take i).flatMap (atOne (texts m k)) ++ ([false, true].take b).flatMap fun b => (texts m k).map fun r => (p.1 ++ [r], p.2 ++ [b])) cs)
          ⟨lt, bs, v5, v9, rfl, s6, SqT.new, s6 _ _ hlt, by rw [List.take_zero, List.flatMap_nil, List.append_nil]; exact A3.mono fun _ _ h => TbAt.mono h (SM.of s6)⟩ (fun b σ H4 _ h => ?_) ?_ ?_
        · obtain ⟨_, _, _, _, _, _, h, _⟩ := h
          exact h
        · rintro b x σ H4 hx ⟨lt, cs, v5, v9, rfl, sH4, htb, hlt, A4⟩
          obtain ⟨bb, ebb, rfl⟩ : ∃ bb : Bool, [false, true][b]? = some bb ∧ V.bl bb = x := by
            have h2 : ([false, true].map V.bl)[b]? = some x := hx
            rw [List.getElem?_map] at h2
            cases e : [false, true][b]? with
            | none => rw [e] at h2; cases h2
            | some z => rw [e] at h2; exact ⟨z, rfl, Option.some.inj h2⟩
          have hb2 : b < 2 := (List.getElem?_eq_some_iff.mp ebb).1
          have e5 : ([false, true].take (b + 1)).flatMap (fun b => (texts m k).map fun r => (p.1 ++ [r], p.2 ++ [b])) = ([false, true].take b).flatMap (fun b => (texts m k).map fun r => (p.1 ++ [r], p.2 ++ [b])) ++ (texts m k).map fun r => (p.1 ++ [r], p.2 ++ [bb]) := by
            rw [List.take_add_one, ebb, List.flatMap_append]
            simp
          have hls4 := sH4 _ _ (sH3 _ _ (sH2 _ _ hls))
          have A14 := A1.mono (H' := H4) fun _ _ h => Same.tup ((sH2.trans sH3).trans sH4) h
          have At4 := At.same sH4
          refine ⟨_, rfl, _, rfl, ls, rfl, ⟨_, SqL.of hls4⟩, fun D nD => ?_⟩
          refine lc_it (walk_list (K := K) (a := ls) (xs := as.map V.ref)) (fun l H5 => ∃ ds : List Addr, Same H4 H5 ∧ H5 D = some (.lst (ds.map V.ref)) ∧ AllAt (TbAt K) H5 (((texts m k).take l).map fun r => (p.1 ++ [r], p.2 ++ [bb])) ds)
            ⟨[], same_new nD _, upd_same, AllAt.nil⟩ (fun l H5 _ q0 => ?_) (fun l x H5 H6 hl q0 yl => ?_) (fun H5 q0 => ?_)
          · obtain ⟨_, s7, _, _⟩ := q0
            exact SqL.of (s7 _ _ hls4)
          · obtain ⟨ds, s7, hD, A5⟩ := q0
            obtain ⟨rfl, hv⟩ := yl
            rw [List.length_map] at hl
            rw [List.getElem?_map, List.getElem?_eq_getElem hl] at hv
            obtain rfl : V.ref as[l] = x := Option.some.inj hv
            have hlt2 : l < (texts m k).length := by rw [← A1.1]; exact hl
            have hr := Same.tup s7 (A14.2 l _ _ (List.getElem?_eq_getElem hlt2) (List.getElem?_eq_getElem hl))
            have hds : ds.length ≤ 9 := by
              rw [A5.1, List.length_map, List.length_take]
              omega
            have At5 := At4.same s7
            obtain ⟨qs, g1, g2, g3⟩ := At5.rows
            refine ⟨rfl, tYes_if ⟨_, rfl, _, rfl, two 1 (by decide), fun tp ntp => ?_⟩⟩
            have g2' : qs.length = p.1.length := g2
            refine cat_one g1 (by rw [List.length_map]; omega) (fun c1 H7 s8 hc1 => ?_) tp ntp
            refine ⟨_, rfl, _, rfl, two 1 (by decide), fun tq ntq => ?_⟩
            refine cat_one (Same.tup s8 At5.ends) (by show (p.2.map V.bl).length ≤ 100; rw [List.length_map]; omega) (fun c2 H8 s9 hc2 => ?_) tq ntq
            refine ⟨two 2 (by decide), fun tr ntr => ?_⟩
            have s10 := same_new ntr (.tup [V.ref c1, V.ref c2])
            have s80 := (s8.trans s9).trans s10
            have hD6 := s80 _ _ hD
            refine ⟨_, hD6, by rw [List.length_map]; exact small1000 (by omega), ds ++ [tr], fun b o e => ?_, by rw [upd_same, List.map_append]; rfl, ?_⟩
            · rw [upd_ne (ne_of_none e nD)]
              exact s80 _ _ (s7 _ _ e)
            · rw [List.take_add_one, List.getElem?_eq_getElem hlt2, List.map_append]
              refine ((A5.mono fun _ _ h => TbAt.mono h (SM.of s80)).app (AllAt.one ?_)).mono fun _ _ h => TbAt.mono h (SM.lst hD6)
              refine ⟨c1, c2, SqT.new, rows_snoc (Same.tup (s9.trans s10) hc1) g2 (fun y b r h1 h2 => Same.tup s80 (g3 y b r h1 h2)) (Same.tup s80 hr), ?_⟩
              show SqT K _ c2 ((p.2 ++ [bb]).map V.bl)
              rw [List.map_append]
              exact Same.tup s10 hc2
          · obtain ⟨ds, s7, hD, A5⟩ := q0
            rw [List.length_map, List.take_of_length_le (by rw [A1.1]; exact Nat.le_refl _)] at A5
            have hd1 : ds.length ≤ 9 := by
              rw [A5.1, List.length_map]
              exact hS9
            have hc1 : cs.length ≤ 6000 := by
              rw [A4.1, List.length_append]
              have e6 : (([false, true].take b).flatMap fun b => (texts m k).map fun r => (p.1 ++ [r], p.2 ++ [b])).length ≤ 18 := by
                have hb3 : b = 0 ∨ b = 1 := by omega
                rcases hb3 with rfl | rfl <;> simp <;> omega
              rw [List.length_append] at hbnd
              omega
            refine ⟨lt, D, _, _, rfl, rfl, s7 _ _ hlt, hD, by rw [List.length_map, List.length_map, sizeLine_eq]; omega, fun l2 nl2 => ?_⟩
            have s8 := same_new nl2 (.lst (cs.map V.ref ++ ds.map V.ref))
            have s78 := s7.trans s8
            refine ⟨l2, cs ++ ds, _, _, rfl, sH4.trans s78, Same.tup s78 htb, by rw [upd_same, List.map_append], ?_⟩
            rw [e5, ← List.append_assoc]
            exact (A4.mono fun _ _ h => TbAt.mono h (SM.of s78)).app (A5.mono fun _ _ h => TbAt.mono h (SM.of s8))
        · rintro σ H4 ⟨lt, cs, v5, v9, rfl, sH4, htb, hlt, A4⟩
          exact ⟨lt, cs, _, _, _, _, rfl, sH3.trans sH4, hlt, A4⟩
      · rintro σ H3 ⟨lt, bs, v5, v7, v8, v9, rfl, sH3, hlt, A3⟩
        rw [List.length_map, List.take_of_length_le (by rw [A2.1]; exact Nat.le_refl _)] at A3
        exact ⟨_, rfl, lt, bs, _, _, _, _, _, _, by omega, rfl, sH2.trans sH3, hlt, A3⟩
    · rintro σ H2 ⟨lf, fs, v3, v4, v5, v7, v8, v9, _, rfl, sH2, hlf, A2⟩
      rw [Int.toNat_natCast] at A2
      exact ⟨_, rfl, q lf fs H2 (sH1.trans sH2) hlf A2⟩
end
end Own
namespace Own
open PySem PySem.Spec PyProof.Rows L2
abbrev s_einit : Stmt := inClass (topS 21) 0
abbrev s_eshows : Stmt := inClass (topS 21) 2
theorem sc_einit : FnScope ["self", "number", "other"] ["self", "number", "other"] (defScope s_einit) := ⟨rfl, rfl, rfl, by decide +kernel, rfl, by decide +kernel, by decide +kernel⟩
theorem no_ : ¬ (("number" : Str) = "other") := by decide +kernel
def ef (v u : V) : List (Str × V) := putF "other" u (putF "number" v [])
theorem ef_number (v u : V) : (ef v u).lookup ("number" : Str) = some v := by
  unfold ef
  rw [lookup_putF, if_neg (fun z => no_ z), lookup_putF, if_pos rfl]
theorem ef_other (v u : V) : (ef v u).lookup ("other" : Str) = some u := by
  unfold ef
  rw [lookup_putF, if_pos rfl]
theorem ef_no (v u : V) {m : Str} (h1 : ¬ m = "number") (h2 : ¬ m = "other") : (ef v u).lookup m = none := by
  unfold ef
  rw [lookup_putF, if_neg h2, lookup_putF, if_neg h1]
  rfl
structure EnT (K : PySem.W.Frag) (mg : Str → Option Value) (C : Addr) : Prop where
  cl : Cls K C
  nN : NoAttr K C "number"
  nO : NoAttr K C "other"
  mgC : mg "Enough" = some (.ref C)
section
variable {P : Program} {w : World} {K : PySem.W.Frag} {mg : Str → Option Value} {base : Heap}
def sp_einit (C : Addr) : Sp := fun vs H Q _ => ∃ (p dx : Addr) (v u : V), vs = [.ref p, v, u] ∧ H p = some (.ins C dx []) ∧ ∀ H', But p H H' → H' p = some (.ins C dx (ef v u)) → Q .non H'
theorem ok_einit {f C : Addr} {fd : FuncData} (F : Fun K "__init__" "Enough.__init__" s_einit f fd) (T : EnT K mg C) : FnOk P w K mg base CX0 1 f fd ["self", "number", "other"] (sp_einit C) := by
  refine F.ok sc_einit (fun vs H Q E h => ?_) (fun cdv A outer s H vs Q E hr h => ?_)
  · obtain ⟨p, dx, v, u, rfl, _⟩ := h
    rfl
  obtain ⟨p, dx, v, u, rfl, hp, q⟩ := h
  refine ⟨_, pss_cons (ps_fld (pv 0) (pv 1) rfl) (pss_one (ps_fld (pv 0) (pv 2) rfl)), ?_⟩
  refine ⟨_, rfl, _, rfl, p, C, dx, [], rfl, hp, T.cl, T.nN, (by show 0 < 1000; decide), _, rfl, _, rfl, p, C, dx, _, rfl, upd_same, T.cl, T.nO, (by show 1 < 1000; decide), ?_⟩
  refine q _ (fun b o hb e => ?_) upd_same
  rw [upd_ne hb, upd_ne hb]
  exact e
abbrev s_judge_enough : Stmt := topS 22
theorem sc_judge_enough : FnScope ["table", "most", "number", "other"] ["table", "most"] (defScope s_judge_enough) := ⟨rfl, rfl, rfl, by decide +kernel, rfl, by decide +kernel, by decide +kernel⟩
/-- what it takes to make an Enough -/
structure Maker (P : Program) (w : World) (K : PySem.W.Frag) (mg : Str → Option Value) (base : Heap) (C : Addr) : Prop where
  T : EnT K mg C
  ex : ∃ (f : Addr) (fd : FuncData), Mk K C f ∧ FnOk P w K mg base CX0 1 f fd ["self", "number", "other"] (sp_einit C) ∧ Binds K fd ["self", "number", "other"] []
/-- .. there -/
def EnAt (H : Hp) (C p : Addr) (v u : V) : Prop := ∃ dx, H p = some (.ins C dx (ef v u))
theorem make_read {H : Hp} {C : Addr} {v u : V} {Q : VK} (q : ∀ p H', Same H H' → H p = none → EnAt H' C p v u → Q (.ref p) H') : ∀ x dx, H x = none → H dx = none → dx ≠ x → sp_einit C (.ref x :: ([v, u] ++ [])) (upd (upd H dx (.own x)) x (.ins C dx [])) (fun z H2 => z = .non ∧ Q (.ref x) H2) E0 := by
  intro x dx nx ndx hne
  refine ⟨x, dx, v, u, rfl, upd_same, fun H' b e => ⟨rfl, q x H' (fun b' o z => ?_) nx ⟨dx, e⟩⟩⟩
  have h1 := ne_of_none z nx
  refine b _ _ h1 ?_
  rw [upd_ne h1, upd_ne (ne_of_none z ndx)]
  exact z
def sp_judge_enough (K : PySem.W.Frag) (C : Addr) : Sp := fun vs H Q _ => ∃ (t r e : Addr) (T : Tab) (k n h : Nat), vs = [.ref t, nV h] ∧ TabAt K H t r e T ∧ T.Ok k n ∧ 1 ≤ h ∧ h ≤ 2 ∧
  ∀ (p o r' e' : Addr) (L : Nat) (O : Tab) (H' : Hp), Same H H' → EnAt H' C p (nV (L + 1)) (.ref o) → LastIs k h T L O → TabAt K H' o r' e' O → Q (.ref p) H'
theorem ok_judge_enough {f C : Addr} {fd : FuncData} (F : Fun K "judge_enough" "judge_enough" s_judge_enough f fd) (M : Maker P w K mg base C) (C_check_limits : Got P w K mg base CX0 6 "_check_limits" ["table", "most"] (sp_check_limits K)) (C_last_difference : Got P w K mg base CX0 3 "_last_difference" ["table", "most"] (sp_last_difference K)) :
    FnOk P w K mg base CX0 7 f fd ["table", "most"] (sp_judge_enough K C) := by
  refine F.ok sc_judge_enough (fun vs H Q E h => ?_) (fun cdv A outer s0 H vs Q E hr h => ?_)
  · obtain ⟨t, r, e, T, k, n, h, rfl, _⟩ := h
    rfl
  obtain ⟨t, r, e, T, k, n, h, rfl, A1, O, h1, h2, q⟩ := h
  have hr2 : Room 2 _ := hr.mono (by decide)
  have hr3 : Room 3 _ := hr.mono (by decide)
  obtain ⟨fi, fdi, mk, GI, bI⟩ := M.ex
  refine ⟨_, (pss_cons (ps_expr (C_check_limits.call hr (by rfl) (pa_cons (pv 0) (pa_cons (pv 1) pa_nil)))) (pss_cons (ps_asg (C_last_difference.call hr3 (by rfl) (pa_cons (pv 0) (pa_cons (pv 1) pa_nil))) (g_tup K 2 (pgs_cons (pg_name (i := 2) sc_judge_enough.nd rfl (Or.inl rfl)) (pgs_cons (pg_name (i := 3) sc_judge_enough.nd rfl (Or.inl rfl)) pgs_nil)))) (pss_one (ps_ret (pe_make mk GI hr2 (by rfl) M.T.mgC bI .nil pass0 (pa_cons (pe_op op_add (pv 2) pe_int) (pa_cons (pv 3) pa_nil))))))), ?_⟩
  refine ⟨_, rfl, _, rfl, t, r, e, T, k, n, h, rfl, A1, O, h1, h2, fun H1 s1 => ?_⟩
  refine ⟨_, rfl, _, rfl, t, r, e, T, k, n, h, rfl, A1.same s1, O.bok, h1, h2, fun p o r' e' L O' H2 s2 hp hL Ao => ?_⟩
  refine ⟨p, _, rfl, hp, rfl, _, _, rfl, _, _, rfl, rfl, ?_⟩
  refine ⟨_, rfl, _, _, rfl, rfl, _, rfl, make_read (v := nV (L + 1)) (u := .ref o) fun x H3 s3 _ hx => ?_⟩
  exact q x o r' e' L O' H3 ((s1.trans s2).trans s3) hx hL (Ao.same s3)
abbrev s_enough : Stmt := topS 23
theorem sc_enough : FnScope ["table", "most"] ["table", "most"] (defScope s_enough) := ⟨rfl, rfl, rfl, by decide +kernel, rfl, by decide +kernel, by decide +kernel⟩
def sp_enough (K : PySem.W.Frag) : Sp := fun vs H Q _ => ∃ (t r e : Addr) (T : Tab) (k n h : Nat), vs = [.ref t, nV h] ∧ TabAt K H t r e T ∧ T.Ok k n ∧ 1 ≤ h ∧ h ≤ 2 ∧ ∀ (L : Nat) (O : Tab) (H' : Hp), Same H H' → LastIs k h T L O → Q (nV (L + 1)) H'
theorem ok_enough {f C : Addr} {fd : FuncData} (F : Fun K "enough" "enough" s_enough f fd) (T0 : EnT K mg C) (C_judge_enough : Got P w K mg base CX0 7 "judge_enough" ["table", "most"] (sp_judge_enough K C)) : FnOk P w K mg base CX0 8 f fd ["table", "most"] (sp_enough K) := by
  refine F.ok sc_enough (fun vs H Q E h => ?_) (fun cdv A outer s0 H vs Q E hr h => ?_)
  · obtain ⟨t, r, e, T, k, n, h, rfl, _⟩ := h
    rfl
  obtain ⟨t, r, e, T, k, n, h, rfl, A1, O, h1, h2, q⟩ := h
  refine ⟨_, pss_one (ps_ret (pe_fld (C_judge_enough.call hr (by rfl) (pa_cons (pv 0) (pa_cons (pv 1) pa_nil))) rfl)), ?_⟩
  refine ⟨_, rfl, _, rfl, t, r, e, T, k, n, h, rfl, A1, O, h1, h2, fun p o r' e' L O' H1 s1 hx hL _ => ?_⟩
  obtain ⟨dx, hx⟩ := hx
  exact ⟨p, C, dx, _, _, rfl, hx, T0.cl, T0.nN, ef_number _ _, q L O' H1 s1 hL⟩
end
end Own
namespace Own
open PySem PySem.Spec PyProof.Rows L2
theorem sc_eshows : FnScope ["self", "table", "most", "number", "_"] ["self", "table", "most"] (defScope s_eshows) := ⟨rfl, rfl, rfl, by decide +kernel, rfl, by decide +kernel, by decide +kernel⟩
section
variable {P : Program} {w : World} {K : PySem.W.Frag} {mg : Str → Option Value} {base : Heap}
abbrev s_is_small_table : Stmt := topS 29
theorem sc_is_small_table : FnScope ["value", "size", "most"] ["value", "size", "most"] (defScope s_is_small_table) := ⟨rfl, rfl, rfl, by decide +kernel, rfl, by decide +kernel, by decide +kernel⟩
def sp_is_small_table (K : PySem.W.Frag) : Sp := fun vs H Q _ => ∃ (t r e : Addr) (T : Tab) (k n h : Nat), vs = [.ref t, nV k, nV h] ∧ TabAt K H t r e T ∧ BOk T k n ∧ ∀ (b : Bool) H', (n ≤ h → T.Ok k n → b = true) → (h < n → b = false) → Same H H' → Q (.bl b) H'
theorem ok_is_small_table {f : Addr} {fd : FuncData} (F : Fun K "_is_small_table" "_is_small_table" s_is_small_table f fd) (B : Bt mg) (C_is_table : Got P w K mg base CX0 4 "is_table" ["table"] (sp_is_table K)) (C_table_size : Got P w K mg base CX0 1 "table_size" ["table"] (sp_table_size K)) : FnOk P w K mg base CX0 5 f fd ["value", "size", "most"] (sp_is_small_table K) := by
  refine F.ok sc_is_small_table (fun vs H Q E h => ?_) (fun cdv A outer s0 H vs Q E hr h => ?_)
  · obtain ⟨t, r, e, T, k, n, h, rfl, _⟩ := h
    rfl
  obtain ⟨t, r, e, T, k, n, h, rfl, A1, O, q⟩ := h
  have hr1 : Room 1 _ := hr.mono (by decide)
  refine ⟨_, (pss_one (ps_ret (pe_and (C_is_table.call hr (by rfl) (pa_cons (pv 0) pa_nil)) (pe_and (pe_cmpR op_eq (C_table_size.call hr1 (by rfl) (pa_cons (pv 0) pa_nil)) (pv 1) (nomark _)) (pe_one (pe_cmpR op_le (pe_callB (c_len K) (by rfl) B.len bt_len (pa_cons (p_ixt K (pv 0) pe_int) pa_nil)) (pv 2) (nomark _))))))), ?_⟩
  refine ⟨_, rfl, t, r, e, T, k, n, rfl, A1, O, fun b H1 hb s1 => ⟨b, rfl, ?_⟩⟩
  have A2 := A1.same s1
  obtain ⟨ys, hys, hyl⟩ := A2.rows.len
  cases b with
  | false => exact iteF (q false H1 (fun _ z => hb z) (fun _ => rfl) s1)
  | true =>
    refine iteT ⟨_, rfl, t, r, e, T, k, n, rfl, A2, O, _, rfl, rfl, true, congrArg V.bl (decide_eq_true rfl), iteT ?_⟩
    refine ⟨_, rfl, t, _, _, _, rfl, rfl, A2.top, rfl, r, _, rfl, .inr hys, _, rfl, _, _, rfl, rfl, ?_⟩
    refine q _ H1 (fun z _ => decide_eq_true ?_) (fun z => decide_eq_false ?_) s1
    · rw [hyl, O.rl]
      omega
    · rw [hyl, O.rl]
      omega
def sp_eshows (K : PySem.W.Frag) (C : Addr) : Sp := fun vs H Q _ => ∃ (p t r e o r' e' : Addr) (T O : Tab) (k n m h num : Nat), vs = [.ref p, .ref t, nV h] ∧ EnAt H C p (nV num) (.ref o) ∧ TabAt K H t r e T ∧ T.Ok k n ∧ 1 ≤ h ∧ h ≤ 2 ∧ TabAt K H o r' e' O ∧ BOk O k m ∧ m ≤ 3 ∧ (m ≤ h → O.Ok k m) ∧
  ∀ (b : Bool) (H' : Hp), Same H H' → (m ≤ h → ∀ L P', LastIs k h T L P' → (b = true ↔ num = L + 1 ∧ FDis k T O (some L))) → (h < m → b = false) → Q (.bl b) H'
theorem ok_eshows {f C : Addr} {fd : FuncData} (F : Fun K "shows" "Enough.shows" s_eshows f fd) (B : Bt mg) (T0 : EnT K mg C) (C_check_limits : Got P w K mg base CX0 6 "_check_limits" ["table", "most"] (sp_check_limits K)) (C_is_integer : Got P w K mg base CX0 1 "is_integer" ["value"] sp_is_integer) (C_is_small_table : Got P w K mg base CX0 5 "_is_small_table" ["value", "size", "most"] (sp_is_small_table K))
    (C_table_size : Got P w K mg base CX0 1 "table_size" ["table"] (sp_table_size K)) (C_last_difference : Got P w K mg base CX0 3 "_last_difference" ["table", "most"] (sp_last_difference K)) (C_difference : Got P w K mg base CX0 2 "_difference" ["one", "other"] (sp_difference K)) : FnOk P w K mg base CX0 7 f fd ["self", "table", "most"] (sp_eshows K C) := by
  refine F.ok sc_eshows (fun vs H Q E h => ?_) (fun cdv A outer s0 H vs Q E hr h => ?_)
  · obtain ⟨p, t, r, e, o, r', e', T, O, k, n, m, h, num, rfl, _⟩ := h
    rfl
  obtain ⟨p, t, r, e, o, r', e', T, O, k, n, m, h, num, rfl, ⟨dx, hp⟩, A1, OT, h1, h2, A2, OO, hm3, hOk, q⟩ := h
  have hr1 : Room 1 _ := hr.mono (by decide)
  have hr2 : Room 2 _ := hr.mono (by decide)
  have hr3 : Room 3 _ := hr.mono (by decide)
  have hr5 : Room 5 _ := hr.mono (by decide)
  refine ⟨_, (pss_cons (ps_expr (C_check_limits.call hr (by rfl) (pa_cons (pv 1) (pa_cons (pv 2) pa_nil))))
    (pss_cons (ps_if (PW.pt (pw_or (pt_not (pt_val (C_is_integer.call hr1 (by rfl) (pa_cons (pe_fld (pv 0) rfl) pa_nil)))) (pw_or1 (pt_not (pt_val (C_is_small_table.call hr5 (by rfl) (pa_cons (pe_fld (pv 0) rfl) (pa_cons (C_table_size.call hr1 (by rfl) (pa_cons (pv 1) pa_nil)) (pa_cons (pv 2) pa_nil)))))))))
      (pss_one (ps_ret pe_bl))
      pss_nil)
    (pss_cons (ps_asg (C_last_difference.call hr3 (by rfl) (pa_cons (pv 1) (pa_cons (pv 2) pa_nil))) (g_tup K 2 (pgs_cons (pg_name (i := 3) sc_eshows.nd rfl (Or.inl rfl)) (pgs_cons (pg_name (i := 4) sc_eshows.nd rfl (Or.inl rfl)) pgs_nil))))
    (pss_one (ps_ret (pe_and (pe_cmpR op_eq (pe_fld (pv 0) rfl) (pe_op op_add (pv 3) pe_int) (nomark _)) (pe_one (pe_cmpR op_eq (C_difference.call hr2 (by rfl) (pa_cons (pv 1) (pa_cons (pe_fld (pv 0) rfl) pa_nil))) (pv 3) (nomark _))))))))), ?_⟩
  refine ⟨_, rfl, _, rfl, t, r, e, T, k, n, h, rfl, A1, OT, h1, h2, fun H1 s1 => ?_⟩
  have hp1 := s1 _ _ hp
  have B1 := A1.same s1
  have B2 := A2.same s1
  refine ⟨_, rfl, p, C, dx, _, _, rfl, hp1, T0.cl, T0.nN, ef_number _ _, ((num : Nat) : Int), rfl, true, rfl, iteF ?_⟩
  refine ⟨_, rfl, p, C, dx, _, _, rfl, hp1, T0.cl, T0.nO, ef_other _ _, _, rfl, t, r, e, T, k, n, rfl, B1, OT.bok, _, rfl, o, r', e', O, k, m, h, rfl, B2, OO, fun b H2 hb1 hb2 s2 => ⟨b, rfl, ?_⟩⟩
  have s12 := s1.trans s2
  cases b with
  | false =>
    refine iteT (q false H2 s12 (fun hm => ?_) fun _ => rfl)
    have := hb1 hm (hOk hm)
    cases this
  | true =>
    have hmh : m ≤ h := by
      by_cases c : m ≤ h
      · exact c
      · have := hb2 (by omega)
        cases this
    have hp2 := s2 _ _ hp1
    have D1 := B1.same s2
    refine iteF ⟨_, rfl, _, rfl, t, r, e, T, k, n, h, rfl, D1, OT.bok, h1, h2, fun pp o2 r2 e2 L P' H3 s3 hpp hL Ap => ?_⟩
    have hp3 := s3 _ _ hp2
    have E1 := D1.same s3
    have E2 := (B2.same s2).same s3
    have s13 := s12.trans s3
    refine ⟨pp, _, rfl, hpp, rfl, _, _, rfl, _, _, rfl, rfl, ?_⟩
    refine ⟨_, rfl, p, C, dx, _, _, rfl, hp3, T0.cl, T0.nN, ef_number _ _, _, rfl, _, _, rfl, rfl, rfl, decide (num = L + 1), congrArg V.bl ?_, ?_⟩
    · rw [Bool.eq_iff_iff, decide_eq_true_eq, decide_eq_true_eq]
      exact ⟨fun z => by have := V.int.inj z; omega, fun z => congrArg V.int (by omega)⟩
    have key : ∀ L' P'', LastIs k h T L' P'' → L' = L := fun L' P'' hL' => by
      have g1 := hL.2 P'' L' hL'.1.1 hL'.1.2
      have g2 := hL'.2 P' L hL.1.1 hL.1.2
      omega
    by_cases hn : num = L + 1
    · rw [decide_eq_true hn]
      have nm : n * m ≤ 40 * 3 := Nat.mul_le_mul OT.n40 hm3
      refine iteT ⟨_, rfl, _, rfl, p, C, dx, _, _, rfl, hp3, T0.cl, T0.nO, ef_other _ _, t, r, e, o, r', e', T, O, k, n, m, rfl, E1, E2, OT.bok, OO, by omega, fun od H4 hfd s4 => ⟨_, rfl, ?_, ?_⟩⟩
      · cases od <;> rfl
      · refine q _ H4 (s13.trans s4) (fun _ L' P'' hL' => ?_) fun z => by omega
        obtain rfl := key L' P'' hL'
        rw [decide_eq_true_eq]
        constructor
        · intro z
          cases od with
          | none => cases z
          | some i =>
            have z : V.int ((i : Nat) : Int) = V.int ((L' : Nat) : Int) := z
            have : i = L' := by have := V.int.inj z; omega
            subst this
            exact ⟨hn, hfd⟩
        · rintro ⟨_, z⟩
          have := hfd.uniq z
          subst this
          rfl
    · rw [decide_eq_false hn]
      refine iteF (q false H3 s13 (fun _ L' P'' hL' => ?_) fun z => by omega)
      obtain rfl := key L' P'' hL'
      exact ⟨(fun z => nomatch z), fun z => absurd z.1 hn⟩
end
end Own
namespace Own
/-! What the law's looks have to do with the first differences. -/
theorem idx_len {k : Nat} (hk : 1 ≤ k) : ∀ u, Wd k u → ∀ v, u.length < v.length → idx k u < idx k v := by
  refine snoc_cases _ (fun _ v hv => ?_) fun u x ih hu v hv => ?_
  · have hne : v ≠ [] := fun e => by rw [e] at hv; simp at hv
    have e := List.dropLast_concat_getLast hne
    rw [← e, idx_snoc]
    show 0 < _
    omega
  · have hne : v ≠ [] := fun e => by rw [e] at hv; simp at hv
    have e := List.dropLast_concat_getLast hne
    rw [← e, idx_snoc, idx_snoc]
    have hx := wd_snoc.mp hu
    have h1 := ih hx.1 v.dropLast (by rw [List.length_dropLast]; rw [List.length_append, List.length_singleton] at hv; omega)
    have h2 : k * (idx k u + 1) ≤ k * idx k v.dropLast := Nat.mul_le_mul_left _ h1
    rw [Nat.mul_add] at h2
    omega
theorem allT_idx {k L : Nat} (hk : 1 ≤ k) (h : (k ≤ 3 ∧ L ≤ 4) ∨ (k ≤ 2 ∧ L ≤ 6)) : (allT k L).map (idx k) = List.range (allT k L).length := by
  have h1 : k = 1 ∨ k = 2 ∨ k = 3 := by omega
  have h2 : L = 0 ∨ L = 1 ∨ L = 2 ∨ L = 3 ∨ L = 4 ∨ L = 5 ∨ L = 6 := by omega
  rcases h1 with rfl | rfl | rfl <;> rcases h2 with rfl | rfl | rfl | rfl | rfl | rfl | rfl <;> first | decide +kernel | (exfalso; omega)
section
variable {T O : Tab} {k L : Nat}
theorem allT_at (hk : 1 ≤ k) (h : (k ≤ 3 ∧ L ≤ 4) ∨ (k ≤ 2 ∧ L ≤ 6)) {i : Nat} {u : Word} (e : (allT k L)[i]? = some u) : idx k u = i := by
  have h1 : ((allT k L).map (idx k))[i]? = some (idx k u) := by rw [List.getElem?_map, e]; rfl
  rw [allT_idx hk h] at h1
  obtain ⟨_, h2⟩ := List.getElem?_eq_some_iff.mp h1
  rw [List.getElem_range] at h2
  exact h2.symm
theorem allT_pos (hk : 1 ≤ k) (h : (k ≤ 3 ∧ L ≤ 4) ∨ (k ≤ 2 ∧ L ≤ 6)) {v : Word} (hv : Wd k v) (hl : v.length ≤ L) : (allT k L)[idx k v]? = some v := by
  obtain ⟨i, hi⟩ := List.getElem?_of_mem (mem_allT.mpr ⟨hl, hv⟩)
  rw [allT_at hk h hi]
  exact hi
theorem FI.some (hk : 1 ≤ k) (h : (k ≤ 3 ∧ L ≤ 4) ∨ (k ≤ 2 ∧ L ≤ 6)) {i : Nat} (f : FI T O (allT k L) (some i)) : FDis k T O (Option.some i) := by
  obtain ⟨⟨u, hu, hd⟩, hb⟩ := f
  have hm := mem_allT.mp (List.mem_of_getElem? hu)
  have ei := allT_at hk h hu
  refine ⟨⟨u, hm.2, ei, hd⟩, fun v hv hlt => ?_⟩
  have hl : v.length ≤ u.length := by
    by_cases c : v.length ≤ u.length
    · exact c
    · have := idx_len hk u hm.2 v (by omega)
      omega
  exact hb _ v hlt (allT_pos hk h hv (by omega))
theorem FI.of_dis (hk : 1 ≤ k) (h : (k ≤ 3 ∧ L ≤ 4) ∨ (k ≤ 2 ∧ L ≤ 6)) {o : Option Nat} (f : FI T O (allT k L) o) {u : Word} (hu : Wd k u) (hl : u.length ≤ L) (hd : Dif T O u) : ∃ i, o = Option.some i := by
  cases o with
  | none => exact absurd hd (f u (mem_allT.mpr ⟨hl, hu⟩))
  | some i => exact ⟨i, rfl⟩
/-- few stands: the looks find it -/
theorem FI.full {n m : Nat} (hT : T.Ok k n) (hO : O.Ok k m) (h : (k ≤ 3 ∧ L ≤ 4) ∨ (k ≤ 2 ∧ L ≤ 6)) (hnm : n + m ≤ L + 2) {o : Option Nat} (f : FI T O (allT k L) o) : FDis k T O o := by
  cases o with
  | some i => exact f.some hT.k1 h
  | none =>
    intro u hu hd
    have := agree_all hT hO (by omega) fun w hw hl => by
      have := f w (mem_allT.mpr ⟨by omega, hw⟩)
      exact Classical.byContradiction fun z => this z
    exact hd (this u hu)
end
/-- the law's tables of some stands that are come to -/
def othS (k s : Nat) : List (List (List Nat) × List Bool) := (atUp (texts s k) s).filter fun p => ctB p.1
def oth (k h : Nat) : List (List (List Nat) × List Bool) := (List.range h).flatMap fun s => othS k (s + 1)
def goodB (k h : Nat) (p : List (List Nat) × List Bool) : Bool := (allR k h).contains p.1 && ((List.range (2 ^ p.1.length)).any fun mask => decide (p.2 = endsM p.1.length mask)) && (decide (p.1.length = 1) || (p.1.getD 0 []).contains 1)
theorem oth_b {k h : Nat} (hk1 : 1 ≤ k) (hk : k ≤ 3) (h1 : 1 ≤ h) (h2 : h ≤ 2) : (oth k h).all (goodB k h) = true ∧ ((allR k h).all fun R => (List.range (2 ^ R.length)).all fun mask => (oth k h).contains (R, endsM R.length mask)) = true := by
  have e1 : k = 1 ∨ k = 2 ∨ k = 3 := by omega
  have e2 : h = 1 ∨ h = 2 := by omega
  rcases e1 with rfl | rfl | rfl <;> rcases e2 with rfl | rfl <;> decide +kernel
def tbOf (p : List (List Nat) × List Bool) : Tab := ⟨p.1, p.2⟩
theorem oth_good {k h : Nat} (hk1 : 1 ≤ k) (hk : k ≤ 3) (h1 : 1 ≤ h) (h2 : h ≤ 2) {p : List (List Nat) × List Bool} (hp : p ∈ oth k h) : Among k h (tbOf p) ∧ (tbOf p).Ok k p.1.length ∧ p.1.length ≤ h := by
  have hb := List.all_eq_true.mp (oth_b hk1 hk h1 h2).1 p hp
  unfold goodB at hb
  rw [Bool.and_eq_true, Bool.and_eq_true] at hb
  obtain ⟨⟨b1, b2⟩, b3⟩ := hb
  have hR : p.1 ∈ allR k h := by simpa using b1
  obtain ⟨mask, hm1, hm2⟩ := List.any_eq_true.mp b2
  have hm1 := List.mem_range.mp hm1
  have hm2 := of_decide_eq_true hm2
  obtain ⟨bk, hl⟩ := allR_bok hk1 hk h1 h2 hR mask
  have et : tbOf p = tabM p.1 mask := by
    unfold tbOf tabM
    rw [hm2]
  refine ⟨⟨p.1, mask, hR, hm1, et⟩, ?_, hl⟩
  rw [et]
  refine ⟨hk1, hk, bk.n1, bk.n40, bk.rl, bk.el, bk.row, fun i h0 hi => ?_⟩
  have hi1 : i = 1 ∧ p.1.length = 2 := by omega
  obtain ⟨rfl, hl2⟩ := hi1
  have b3 : (p.1.getD 0 []).contains 1 = true := by
    rw [Bool.or_eq_true] at b3
    rcases b3 with z | z
    · have := of_decide_eq_true z
      omega
    · exact z
  have hm : 1 ∈ p.1.getD 0 [] := by simpa using b3
  obtain ⟨l, hl3⟩ := List.getElem?_of_mem hm
  refine ⟨0, by decide, l, ?_, ?_⟩
  · have := (List.getElem?_eq_some_iff.mp hl3).1
    have hrg : (p.1.getD 0 []).length = k := (bk.rowget (s := 0) (by omega)).1
    omega
  · show ((tabM p.1 mask).rows.getD 0 []).getD l 0 = 1
    show (p.1.getD 0 []).getD l 0 = 1
    rw [List.getD_eq_getElem?_getD, hl3]
    rfl
theorem among_oth {k h : Nat} (hk1 : 1 ≤ k) (hk : k ≤ 3) (h1 : 1 ≤ h) (h2 : h ≤ 2) {O : Tab} (a : Among k h O) : ∃ p, p ∈ oth k h ∧ O = tbOf p := by
  obtain ⟨R, mask, hR, hm, rfl⟩ := a
  have := List.all_eq_true.mp (List.all_eq_true.mp (oth_b hk1 hk h1 h2).2 R hR) mask (List.mem_range.mpr hm)
  exact ⟨(R, endsM R.length mask), by simpa using this, rfl⟩
end Own
namespace Own
open PySem PySem.Spec PyProof.Rows L2
/-! xs[::7]: some of the items. -/
theorem pick_vals {xs : List V} {its : List Value} (r : Vals xs its) : ∀ L : List Nat, Vals (L.filterMap (xs[·]?)) (L.filterMap (its.toArray[·]?))
  | [] => .nil
  | i :: L => by
    have ih := pick_vals r L
    rw [List.filterMap_cons, List.filterMap_cons]
    have e2 : its.toArray[i]? = its[i]? := by simp
    rw [e2]
    cases ex : xs[i]? with
    | none =>
      have hi : its[i]? = none := by
        have := List.getElem?_eq_none_iff.mp ex
        exact List.getElem?_eq_none (by rw [← r.length]; exact this)
      rw [hi]
      exact ih
    | some x =>
      obtain ⟨u, hu, rv⟩ := r.get ex
      rw [hu]
      exact .cons rv ih
theorem pick_len {α : Type} (f : Nat → Option α) (L : List Nat) : (L.filterMap f).length ≤ L.length := List.length_filterMap_le _ _
section
variable {X : Cx} {e : Expr} {te : TE} {k : Nat} {p1 p3 pos : Pos}
def tStep7 (K : PySem.W.Frag) (te : TE) : TE := fun σ H Q => te σ H fun x H1 => ∃ a xs, x = .ref a ∧ SqL K H1 a xs ∧ ∀ p ys, H1 p = none → (∀ y, y ∈ ys → y ∈ xs) → Q (.ref p) (upd H1 p (.lst ys))
theorem pe_step7 (K : PySem.W.Frag) (he : PE X e te) (hK : X.K = K := by rfl) : PE X (.Subscript e (.Slice none none (some (.Constant (.int 7) k p1)) p3) pos) (tStep7 K te) := by
  subst hK
  refine ⟨fun pins s σ H Q I h => ?_⟩
  refine Subscript_ (thn (he.run pins s σ H _ I h) fun v s1 ⟨x, H1, I1, r1, q1⟩ => ?_)
  obtain ⟨a, xs, ex, hx, q⟩ := q1
  subst ex
  cases r1
  have hst : PO X (some (.Constant (.int 7) k p1)) (tPart (tC (.int 7))) := po_some pe_int
  refine wpAny_Slice (thn (po_none.run pins s1 σ H1 (fun o H2 => o = none ∧ H2 = H1) I1 ⟨rfl, rfl⟩) fun vl s2 ⟨l, H2, I2, pl, el, e2⟩ => ?_)
  subst el e2
  refine thn (po_none.run pins s2 σ H2 (fun o H3 => o = none ∧ H3 = H2) I2 ⟨rfl, rfl⟩) fun vu s3 ⟨u, H3, I3, pu, eu, e3⟩ => ?_
  subst eu e3
  refine thn (hst.run pins s3 σ H3 (fun o H4 => o = some 7 ∧ H4 = H3) I3 ⟨7, rfl, rfl, rfl⟩) fun vs s4 ⟨o, H4, I4, ps, eo, e4⟩ => ?_
  subst eo e4
  have I5 : Inv X pins σ H4 { s4 with heap := s4.heap.push { cls := .type "slice", data := .fields #[vl, vu, vs] } } := I4.kept (t' := s4.toks) fun b ob q => Heap.get?_push_of_some _ q
  obtain ⟨its, r, ht, hz⟩ := I5.list hx
  have hlen := r.length
  show wpAny (model X.prog X.w) X.A (subscriptTail e (.Slice none none (some (.Constant (.int 7) k p1)) p3) (.ref a) (.ref s4.heap.objs.size)) (EP X pins σ Q) X.xe { s4 with heap := s4.heap.push { cls := .type "slice", data := .fields #[vl, vu, vs] } }
  refine tail_any (ops := [.ref a, .ref s4.heap.objs.size]) ht.isList.typeIs (PySem.slot_list_getitem.lookup) ?_ (by with_unfolding_all rfl)
  refine wpAny_getItem_list_slice ht.isList (Heap.IsSliceOf.new _ vl vu vs) pl pu ps (by decide) ?_ (by rw [List.size_toArray]; omega)
  have hP : ∃ L : List Nat, slicePick its.toArray none none (some 7) = (L.filterMap (its.toArray[·]?)).toArray ∧ L.length ≤ xs.length := by
    refine ⟨_, rfl, ?_⟩
    show (sliceRange 0 (its.toArray.size : Int) 7).length ≤ _
    unfold sliceRange
    rw [List.length_map, List.length_range, List.size_toArray, hlen]
    by_cases c : (0 : Int) < (its.length : Int)
    · rw [if_pos (by decide), if_pos c]
      omega
    · rw [if_pos (by decide), if_neg c]
      simp
  obtain ⟨L, eL, hL⟩ := hP
  rw [eL]
  refine ⟨.ref _, _, I5.laid (t' := s4.toks) (o := .lst (L.filterMap (xs[·]?))) (fun b ob q => Heap.get?_push_of_some _ q) (Nat.le_refl _) ?_, rfl, q _ _ (I5.hok.fresh (Nat.le_refl _)) fun y hy => ?_⟩
  · refine ⟨Nat.le_trans (pick_len _ _) (Nat.le_trans hL hz), _, 0, pick_vals r L, Heap.get?_push_size _ rfl⟩
  · obtain ⟨i, _, hi⟩ := List.mem_filterMap.mp hy
    exact List.mem_of_getElem? hi
end
end Own
set_option maxHeartbeats 4000000
namespace Own
open PySem PySem.Spec PyProof.Rows L2
/-! list(zip(a, b)) of two lists of one length. -/
theorem nolen_zip : typeLookup (.type "zip") "__len__" = pure none := by rw [typeLookup_type, builtinLookup_eq_fast]; kernel_rfl
theorem nohint_zip : typeLookup (.type "zip") "__length_hint__" = pure none := by rw [typeLookup_type, builtinLookup_eq_fast]; kernel_rfl
theorem Same.lst {K : PySem.W.Frag} {H H' : Hp} {a : Addr} {xs : List V} (e : Same H H') (h : SqL K H a xs) : SqL K H' a xs := by
  rcases h with (h | ⟨o, h⟩) | h
  · exact .inl (.inl (e _ _ h))
  · exact .inl (.inr ⟨o, e _ _ h⟩)
  · exact .inr h
theorem fpOk_upd {X : Cx} {pins : List (Addr × Obj)} {H : Hp} {b T : Addr} {o : HO} (h : FpOk X pins H b) (hne : b ≠ T) : FpOk X pins (upd H T o) b :=
  ⟨by rw [upd_ne hne]; exact h.1, h.2⟩
/-- the zip object between two turns; S: the list that is filled -/
def ZSt (z TI TO i1 i2 l1 l2 S : Addr) (i : Nat) (h : Heap) : Prop :=
  IsPair h TI (.ref i1) (.ref i2) ∧ h.IsListIter i1 l1 i ∧ h.IsListIter i2 l2 i ∧ (∃ oO, h.get? TO = some oO) ∧
    ((IsZip h z TI TO .none ∧ ∃ a b, IsPair h TO a b) ∨ ∃ T f oT, IsZipHeld h z TI TO T f ∧ h.get? T = some oT ∧ T ≠ z ∧ T ≠ i1 ∧ T ≠ i2 ∧ T ≠ S)
structure Off (z TI TO i1 i2 S : Addr) : Prop where
  z : S ≠ z
  TI : S ≠ TI
  TO : S ≠ TO
  i1 : S ≠ i1
  i2 : S ≠ i2
theorem ZSt.keep {z TI TO i1 i2 l1 l2 S : Addr} {i : Nat} {h h' : Heap} (o : Off z TI TO i1 i2 S) (st : ZSt z TI TO i1 i2 l1 l2 S i h) (k : ∀ b u, b ≠ S → h.get? b = some u → h'.get? b = some u) : ZSt z TI TO i1 i2 l1 l2 S i h' := by
  obtain ⟨h1, h2, h3, ⟨oO, hO⟩, h4⟩ := st
  refine ⟨k _ _ (Ne.symm o.TI) h1, h2.at fun u e => k _ u (Ne.symm o.i1) e, h3.at fun u e => k _ u (Ne.symm o.i2) e, ⟨oO, k _ _ (Ne.symm o.TO) hO⟩, ?_⟩
  rcases h4 with ⟨h4, a, b, h5⟩ | ⟨T, f, oT, h4, h5, r1, r2, r3, r4⟩
  · exact .inl ⟨k _ _ (Ne.symm o.z) h4, a, b, k _ _ (Ne.symm o.TO) h5⟩
  · exact .inr ⟨T, f, oT, k _ _ (Ne.symm o.z) h4, k _ _ r4 h5, r1, r2, r3, r4⟩
/-- the pairs of two lists, at the addresses ps -/
def PrsAt (H : Hp) (xs ys : List V) (ps : List Addr) : Prop := ∀ (j : Nat) (q : Addr) (x y : V), ps[j]? = some q → xs[j]? = some x → ys[j]? = some y → H q = some (.tup [x, y])
section
variable {X : Cx} {pins : List (Addr × Obj)} {σ : L2.St}
theorem ext_zip (A : Around) (hh : A.in1.handled = none) {z TI TO i1 i2 l1 l2 S : Addr} (D : ZipApart z TI TO i1 i2 l1 l2) (O : Off z TI TO i1 i2 S) {xs ys : List V} (hl : xs.length = ys.length) {H1 : Hp} (qx : SqL X.K H1 l1 xs) (qy : SqL X.K H1 l2 ys) (nS : H1 S = none) (hz : xs.length < sizeLine) (res : Value) {R : Result → Shared → Prop} :
    ∀ (k i : Nat) (s : Shared) (H : Hp) (ps : List Addr), xs.length - i = k → i ≤ xs.length → Inv X pins σ H s → Same H1 H → (∀ b, b ∈ [z, TI, TO, i1, i2] → FpOk X pins H b) → ZSt z TI TO i1 i2 l1 l2 S i s.heap → ps.length = i → H S = some (.lst (ps.map V.ref)) → PrsAt H xs ys ps →
    (∀ s' H' ps', Inv X pins σ H' s' → Same H1 H' → ps'.length = xs.length → H' S = some (.lst (ps'.map V.ref)) → PrsAt H' xs ys ps' → R (.ok (.ret res)) s') →
    codeAny (model X.prog X.w) A (.builtin "list.extend.loop" ⟨[.ref S, .ref z, res], []⟩) R s := by
  intro k
  induction k with
  | zero =>
    intro i s H ps hk hi I sm fp st hps hS hprs hR
    have hin : i = xs.length := by omega
    subst hin
    obtain ⟨its, rv, p1, _⟩ := I.list (Same.lst sm qx)
    obtain ⟨its2, rv2, p2, _⟩ := I.list (Same.lst sm qy)
    have e1 := rv.length
    have e2 := rv2.length
    have hend : its.toArray[xs.length]? = none ∨ its2.toArray[xs.length]? = none := .inl (by simp; omega)
    refine codeAny_builtin PySem.F.entry_extend_loop ?_
    rw [Around.under_plainId PySem.F.plain_extend_loop _]
    show wpAny _ A.in1 (pyNext (.ref z) >>= _) _ _ s
    obtain ⟨g1, g2, g3, ⟨oO, gO⟩, g4⟩ := st
    rcases g4 with ⟨g4, a, b, g5⟩ | ⟨T, f, oT, g4, g5, r1, r2, r3, r4⟩
    · refine wpAny_bind (wpAny_pyNext_zip_end hh D g4 g1 g5 g2 g3 p1.isList p2.isList hend fun h' hk' => ?_)
      refine wpAny_pure (hR _ H ps ?_ sm hps hS hprs)
      exact I.turnedL (t' := s.toks) (ch := [z, TO, i1, i2]) (fun b o hb q => hk' b o (fun q' => hb (by simp [q'])) (fun q' => hb (by simp [q'])) (fun q' => hb (by simp [q'])) (fun q' => hb (by simp [q'])) q) fun b hb => fp b (by simp at hb ⊢; rcases hb with h | h | h | h <;> simp [h])
    · refine wpAny_bind (wpAny_pyNext_zip_end_held hh D g4 g5 g1 g2 g3 p1.isList p2.isList hend fun h' hk' => ?_)
      refine wpAny_pure (hR _ H ps ?_ sm hps hS hprs)
      exact I.turnedL (t' := s.toks) (ch := [z, TO, i1, i2]) (fun b o hb q => hk' b o (fun q' => hb (by simp [q'])) (fun q' => hb (by simp [q'])) (fun q' => hb (by simp [q'])) q) fun b hb => fp b (by simp at hb ⊢; rcases hb with h | h | h | h <;> simp [h])
  | succ k ih =>
    intro i s H ps hk hi I sm fp st hps hS hprs hR
    have hlt : i < xs.length := by omega
    have hlt2 : i < ys.length := by omega
    obtain ⟨its, rv, p1, _⟩ := I.list (Same.lst sm qx)
    obtain ⟨its2, rv2, p2, _⟩ := I.list (Same.lst sm qy)
    have ex : xs[i]? = some xs[i] := List.getElem?_eq_getElem hlt
    have ey : ys[i]? = some ys[i] := List.getElem?_eq_getElem hlt2
    generalize xs[i] = x at ex
    generalize ys[i] = y at ey
    obtain ⟨u, hu, ru⟩ := rv.get ex
    obtain ⟨u2, hu2, ru2⟩ := rv2.get ey
    have hu : its.toArray[i]? = some u := by simpa using hu
    have hu2 : its2.toArray[i]? = some u2 := by simpa using hu2
    have hSlt : S < s.heap.objs.size := by
      obtain ⟨_, _, _, _, _, e⟩ := I.lstM hS
      exact Heap.lt_size e
    have hf : H s.heap.objs.size = none := I.fresh
    -- behind the new pair
    have rest : ∀ h', IsPair h' s.heap.objs.size u u2 → (∀ c o, c ≠ z → c ≠ TO → c ≠ i1 → c ≠ i2 → s.heap.get? c = some o → h'.get? c = some o) → ZSt z TI TO i1 i2 l1 l2 S (i + 1) h' →
        wpAny (model X.prog X.w) A.in1 (updateSeq S (·.push (.ref s.heap.objs.size)) >>= fun _ => again (.builtin "list.extend.loop" ⟨[.ref S, .ref z, res], []⟩)) (fun fin s' => match fin with | .done f => R (.ok f) s' | .again c' => c'.quiet = true ∧ codeAny (model X.prog X.w) A c' R s') (fun e s' => R (.error e) s') { s with heap := h' } := by
      intro h' hT kp st'
      have new : ObjOk X.prog X.w (upd H s.heap.objs.size (.tup [x, y])) h' s.heap.objs.size (.tup [x, y]) :=
        ⟨by show 2 ≤ sizeLine; decide, [u, u2], .cons ru (.cons ru2 .nil), ⟨_, hT, rfl, _, rfl⟩⟩
      have I1 : Inv X pins σ (upd H s.heap.objs.size (.tup [x, y])) { s with heap := h' } :=
        I.turnedNew (t' := s.toks) (ch := [z, TO, i1, i2]) (fun b o hb q => kp b o (fun q' => hb (by simp [q'])) (fun q' => hb (by simp [q'])) (fun q' => hb (by simp [q'])) (fun q' => hb (by simp [q'])) q) (fun b hb => fp b (by simp at hb ⊢; rcases hb with h | h | h | h <;> simp [h])) (Nat.le_refl _) new
      have hS1 : (upd H s.heap.objs.size (.tup [x, y])) S = some (.lst (ps.map V.ref)) := by
        rw [upd_ne (Nat.ne_of_lt hSlt)]
        exact hS
      obtain ⟨_, its3, n3, rv3, l3, e3⟩ := I1.lstM hS1
      have l4 : its3.length = i := by rw [← l3, List.length_map, hps]
      refine wpAny_bind ?_
      refine wpAny_updateSeq e3 rfl (wpAny_pure ⟨plainId_quiet PySem.F.plain_extend_loop _, ?_⟩) (by rw [List.size_toArray]; omega) (by show (its3.toArray.push _).size ≤ sizeLine + 1; rw [Array.size_push, List.size_toArray]; omega)
      have I2 := I1.lset (t' := s.toks) (its' := its3 ++ [.ref s.heap.objs.size]) (ys := ps.map V.ref ++ [.ref s.heap.objs.size]) (f := (·.push (.ref s.heap.objs.size))) hS1 e3 (by simp) (rv3.append (show Vals [V.ref s.heap.objs.size] [.ref s.heap.objs.size] from .cons rfl .nil)) (by rw [List.length_append, List.length_map, List.length_singleton]; omega)
      refine ih (i + 1) _ _ (ps ++ [s.heap.objs.size]) (by omega) hlt I2 (fun b o hb => ?_) (fun b hb => ?_) (st'.keep O fun b o hb q => (Heap.get?_update_other _ _ (Ne.symm hb)).trans q) (by rw [List.length_append, hps]; rfl) (by rw [upd_same, List.map_append]; rfl) (fun j q x' y' e1 e2 e3 => ?_) hR
      · have hb1 := sm _ _ hb
        have n1 : b ≠ S := ne_of_none hb nS
        rw [upd_ne n1, upd_ne (ne_of_none hb1 hf)]
        exact hb1
      · have hfb := fp b hb
        have h0 : s.heap.objs.size ≠ b := by
          have hmem : ∃ o, s.heap.get? b = some o := by
            obtain ⟨g1, ⟨_, g2, _⟩, ⟨_, g3, _⟩, gO, g4⟩ := st
            simp at hb
            rcases hb with rfl | rfl | rfl | rfl | rfl
            · rcases g4 with ⟨g4, _⟩ | ⟨_, _, _, g4, _⟩
              · exact ⟨_, g4⟩
              · exact ⟨_, g4⟩
            · exact ⟨_, g1⟩
            · exact gO
            · exact ⟨_, g2⟩
            · exact ⟨_, g3⟩
          obtain ⟨o, ho⟩ := hmem
          exact Nat.ne_of_gt (Heap.lt_size ho)
        refine fpOk_upd (fpOk_upd hfb (Ne.symm h0)) fun e => ?_
        subst e
        rw [hfb.1] at hS
        cases hS
      · by_cases hj : j < ps.length
        · rw [List.getElem?_append_left hj] at e1
          have := hprs j q x' y' e1 e2 e3
          have nq : q ≠ S := fun e => by
            subst e
            rw [hS] at this
            cases this
          rw [upd_ne nq, upd_ne (ne_of_none this hf)]
          exact this
        · have hj2 : j = ps.length := by
            have := (List.getElem?_eq_some_iff.mp e1).1
            rw [List.length_append, List.length_singleton] at this
            omega
          subst hj2
          rw [List.getElem?_append_right (Nat.le_refl _), Nat.sub_self] at e1
          obtain rfl : s.heap.objs.size = q := Option.some.inj e1
          rw [hps] at e2 e3
          rw [ex] at e2
          rw [ey] at e3
          obtain rfl := Option.some.inj e2
          obtain rfl := Option.some.inj e3
          rw [upd_ne (Nat.ne_of_gt hSlt), upd_same]
    refine codeAny_builtin PySem.F.entry_extend_loop ?_
    rw [Around.under_plainId PySem.F.plain_extend_loop _]
    show wpAny _ A.in1 (pyNext (.ref z) >>= _) _ _ s
    have st0 := st
    obtain ⟨g1, g2, g3, ⟨oO, gO⟩, g4⟩ := st
    have lt : ∀ {c o}, s.heap.get? c = some o → s.heap.objs.size ≠ c := fun e => Nat.ne_of_gt (Heap.lt_size e)
    have n1 : s.heap.objs.size ≠ i1 := let ⟨_, e, _⟩ := g2; lt e
    have n2 : s.heap.objs.size ≠ i2 := let ⟨_, e, _⟩ := g3; lt e
    rcases g4 with ⟨g4, a, b, g5⟩ | ⟨T, f, oT, g4, g5, r1, r2, r3, r4⟩
    · refine wpAny_bind (wpAny_pyNext_zip_item D g4 g1 g5 g2 g3 p1.isList p2.isList hu hu2 fun h' a1 a2 a3 a4 a5 a6 hk' => ?_)
      refine rest h' a5 hk' ⟨hk' _ _ D.TIz D.TITO D.TIi1 D.TIi2 g1, a3, a4, ⟨_, a2⟩, .inr ⟨s.heap.objs.size, false, _, a1, a5, lt g4, n1, n2, Nat.ne_of_gt hSlt⟩⟩
    · refine wpAny_bind (wpAny_pyNext_zip_item_held D g4 g5 g1 g2 g3 p1.isList p2.isList hu hu2 fun h' a1 a3 a4 a5 a6 hk' => ?_)
      refine rest h' a5 (fun c o c1 c2 c3 c4 e => hk' c o c1 c3 c4 e) ⟨hk' _ _ D.TIz D.TIi1 D.TIi2 g1, a3, a4, ⟨_, hk' _ _ D.TOz D.TOi1 D.TOi2 gO⟩, .inr ⟨T, true, oT, a1, hk' _ _ r1 r2 r3 g5, r1, r2, r3, r4⟩⟩
theorem call_list_zip (hc : X.calm = true) {s : Shared} {H1 : Hp} (I : Inv X pins σ H1 s) {z TI TO i1 i2 l1 l2 : Addr} (D : ZipApart z TI TO i1 i2 l1 l2) {xs ys : List V} (hl : xs.length = ys.length) (qx : SqL X.K H1 l1 xs) (qy : SqL X.K H1 l2 ys) (hz : xs.length < sizeLine)
    (fp : ∀ b, b ∈ [z, TI, TO, i1, i2] → FpOk X pins H1 b) (lt : ∀ b, b ∈ [z, TI, TO, i1, i2] → b < s.heap.objs.size) (st : IsPair s.heap TI (.ref i1) (.ref i2) ∧ s.heap.IsListIter i1 l1 0 ∧ s.heap.IsListIter i2 l2 0 ∧ IsZip s.heap z TI TO .none ∧ ∃ a b, IsPair s.heap TO a b)
    {Q : VK} (q : ∀ (p : Addr) (ps : List Addr) (H2 : Hp), H1 p = none → Same H1 H2 → ps.length = xs.length → H2 p = some (.lst (ps.map V.ref)) → PrsAt H2 xs ys ps → Q (.ref p) H2) :
    wpAny (model X.prog X.w) X.A (call (.type "list") [.ref z]) (EP X pins σ Q) X.xe s := by
  have nS : H1 s.heap.objs.size = none := I.fresh
  have O : Off z TI TO i1 i2 s.heap.objs.size := ⟨Nat.ne_of_gt (lt _ (by simp)), Nat.ne_of_gt (lt _ (by simp)), Nat.ne_of_gt (lt _ (by simp)), Nat.ne_of_gt (lt _ (by simp)), Nat.ne_of_gt (lt _ (by simp))⟩
  refine callType_codes (Q₁ := fun obj s₁ => obj = .ref s.heap.objs.size ∧ s₁ = { s with heap := s.heap.push { cls := .type "list", data := .seq #[] } }) PySem.F.called_list (PySem.F.typeCall_list_1 _) PySem.F.entry_list_init
    (code_list_new _ ⟨rfl, rfl⟩) fun obj s₁ h₁ => ?_
  obtain ⟨rfl, rfl⟩ := h₁
  have hS : (s.heap.push { cls := .type "list", data := .seq #[] }).get? s.heap.objs.size = some { cls := .type "list", data := .seq #[] } := Heap.get?_push_size _ rfl
  have I1 : Inv X pins σ (upd H1 s.heap.objs.size (.lst [])) { s with heap := s.heap.push { cls := .type "list", data := .seq #[] } } := I.lnew (t' := s.toks) (its := []) (ys := []) .nil (Nat.zero_le _)
  have sm : Same H1 (upd H1 s.heap.objs.size (.lst [])) := same_new nS _
  have st1 : ZSt z TI TO i1 i2 l1 l2 s.heap.objs.size 0 s.heap := by
    obtain ⟨g1, g2, g3, g4, a, b, g5⟩ := st
    exact ⟨g1, g2, g3, ⟨_, g5⟩, .inl ⟨g4, a, b, g5⟩⟩
  have st2 : ZSt z TI TO i1 i2 l1 l2 s.heap.objs.size 0 (s.heap.push { cls := .type "list", data := .seq #[] }) := st1.keep O fun b u _ e => Heap.get?_push_of_some _ e
  have gz : ∀ h', ZSt z TI TO i1 i2 l1 l2 s.heap.objs.size 0 h' → ∃ o, h'.get? z = some o ∧ o.cls = .type "zip" := fun h' g => by
    obtain ⟨_, _, _, _, g4⟩ := g
    rcases g4 with ⟨g4, _⟩ | ⟨_, _, _, g4, _⟩
    · exact ⟨_, g4, rfl⟩
    · exact ⟨_, g4, rfl⟩
  refine ⟨⟨_, hS, rfl⟩, PySem.F.args_list_init_2 _ _, ?_⟩
  show wpAny _ X.A.in1.in1 (do let old ← Builtin.List.listItems (.ref s.heap.objs.size); Builtin.List.listUpdate (.ref s.heap.objs.size) (fun _ => #[]); letGo old.toList.reverse; Builtin.List.listExtendWith (.ref s.heap.objs.size) (.ref z) .none) _ _ _
  refine wpAny_bind ?_
  unfold Builtin.List.listItems
  refine wpAny_bind (wpAny_seqItems hS rfl (wpAny_pure ?_))
  show wpAny _ X.A.in1.in1 (updateSeq s.heap.objs.size (fun _ => #[]) >>= fun _ => letGo (#[] : Array Value).toList.reverse >>= fun _ => Builtin.List.listExtendWith (.ref s.heap.objs.size) (.ref z) .none) _ _ _
  refine wpAny_bind (wpAny_updateSeq hS rfl ?_)
  have hS₂ := Heap.get?_update_self (Obj.mapSeq (fun _ => (#[] : Array Value))) hS rfl
  have I2 := I1.lset (t' := s.toks) (its' := []) (ys := []) (f := fun _ => (#[] : Array Value)) upd_same hS rfl .nil (Nat.zero_le _)
  rw [upd_upd] at I2
  have st3 := st2.keep O fun b u hb e => (Heap.get?_update_other (s.heap.push { cls := .type "list", data := .seq #[] }) (Obj.mapSeq (fun _ => (#[] : Array Value))) (Ne.symm hb)).trans e
  refine wpAny_bind (wpAny_letGo ?_)
  unfold Builtin.List.listExtendWith
  refine wpAny_bind (wpAny_typeOf (T := "zip") (gz _ st3) ?_)
  have h1 : Builtin.List.listSameRef (.ref s.heap.objs.size) (.ref z) = false := by simp [Builtin.List.listSameRef, O.z]
  have h2 : (Value.type "zip" == Value.type "list") = false := by decide
  have h3 : (Value.type "zip" == Value.type "tuple") = false := by decide
  simp only [h1, h2, h3, Bool.or_false, Bool.false_eq_true, if_false]
  refine wpAny_bind ?_
  have hzip : ∃ f0, IsZip ((s.heap.push { cls := .type "list", data := .seq #[] }).update s.heap.objs.size (Obj.mapSeq (fun _ => (#[] : Array Value)))) z TI TO f0 := by
    obtain ⟨_, _, _, g4, _⟩ := st
    exact ⟨_, (Heap.get?_update_other (s.heap.push { cls := .type "list", data := .seq #[] }) (Obj.mapSeq (fun _ => (#[] : Array Value))) O.z).trans (Heap.get?_push_of_some _ g4)⟩
  obtain ⟨f0, hzip⟩ := hzip
  refine wpAny_pyIter_zip hzip ?_
  refine wpAny_bind (wpAny_holding ?_)
  unfold Builtin.List.listLengthHint
  refine wpAny_bind (wpAny_specialOf (T := "zip") (gz _ st3) nolen_zip ?_)
  show wpAny _ X.A.in1.in1 (specialOf (Value.ref z) (Str.ofString "__length_hint__") >>= _) _ _ _
  refine wpAny_bind (wpAny_specialOf (T := "zip") (gz _ st3) nohint_zip ?_)
  refine wpAny_pure ?_
  show wpAny _ X.A.in1.in1 (rule "list.extend.makes-room" >>= fun _ => Builtin.List.listTouch (.ref s.heap.objs.size) >>= fun _ =>
    again (.builtin "list.extend.loop" ⟨[.ref s.heap.objs.size, .ref z, .none], []⟩)) _ _ _
  refine wpAny_bind (wpAny_rule ?_)
  refine wpAny_bind ?_
  show wpAny _ X.A.in1.in1 (updateSeq s.heap.objs.size (·.push .none) >>= fun _ => updateSeq s.heap.objs.size (·.pop)) _ _ _
  refine wpAny_bind (wpAny_updateSeq hS₂ rfl ?_)
  have hS₃ := Heap.get?_update_self (Obj.mapSeq (·.push Value.none)) hS₂ rfl
  refine wpAny_updateSeq hS₃ rfl ?_
  have hS₄ := Heap.get?_update_self (Obj.mapSeq (·.pop)) hS₃ rfl
  generalize hh2 : (s.heap.push { cls := .type "list", data := .seq #[] }).update s.heap.objs.size (Obj.mapSeq (fun _ => (#[] : Array Value))) = h2 at *
  have oth : ∀ b o, b ≠ s.heap.objs.size → h2.get? b = some o → ((h2.update s.heap.objs.size (Obj.mapSeq (·.push Value.none))).update s.heap.objs.size (Obj.mapSeq (·.pop))).get? b = some o :=
    fun b o hb e => (Heap.get?_update_other _ _ (Ne.symm hb)).trans ((Heap.get?_update_other _ _ (Ne.symm hb)).trans e)
  have I3 : Inv X pins σ (upd H1 s.heap.objs.size (.lst [])) { s with heap := (h2.update s.heap.objs.size (Obj.mapSeq (·.push Value.none))).update s.heap.objs.size (Obj.mapSeq (·.pop)) } := by
    have := I2.write (t' := s.toks) (x := s.heap.objs.size) (e := s.heap.objs.size) (o := .lst []) (h' := (h2.update s.heap.objs.size (Obj.mapSeq (·.push Value.none))).update s.heap.objs.size (Obj.mapSeq (·.pop))) (by rw [upd_same]; exact trivial) (.inl rfl) (fun b u hb e => oth b u hb e) ⟨_, hS₄⟩ ⟨Nat.zero_le _, [], _, .nil, by simpa [Obj.mapSeq] using hS₄⟩
    rw [upd_upd] at this
    exact this
  have st4 := st3.keep O oth
  refine wpAny_pure ⟨plainId_quiet PySem.F.plain_extend_loop _, ?_⟩
  refine ext_zip X.A.in1 (I.ok.hd hc) D O hl qx qy nS hz .none xs.length 0 _ _ [] (Nat.sub_zero _) (Nat.zero_le _) I3 sm (fun b hb => fpOk_upd (fp b hb) (Nat.ne_of_lt (lt b hb))) st4 rfl upd_same (fun j q x y e => by simp at e) fun s' H' ps' I' sm' hp' hS' hpr' => ?_
  exact ⟨rfl, .ref s.heap.objs.size, H', I', rfl, q _ ps' H' nS sm' hp' hS' hpr'⟩
/-- list(zip(e, e2)) -/
def tListZip (K : PySem.W.Frag) (ta : TA) : TE := fun σ H Q => ta σ H fun vs H1 => ∃ a b xs ys, vs = [.ref a, .ref b] ∧ SqL K H1 a xs ∧ SqL K H1 b ys ∧ xs.length = ys.length ∧ xs.length < sizeLine ∧
  ∀ (p : Addr) (ps : List Addr) (H2 : Hp), H1 p = none → Same H1 H2 → ps.length = xs.length → H2 p = some (.lst (ps.map V.ref)) → PrsAt H2 xs ys ps → Q (.ref p) H2
theorem pe_listzip {e e2 : Expr} {ta : TA} {p p0 pos pos0 : Pos} (K : PySem.W.Frag) (hg0 : Gl X "list") (hm0 : X.mg "list" = none) (hg : Gl X "zip") (hm : X.mg "zip" = none) (ha : PA X [e, e2] ta) (hc : X.calm = true := by rfl) (hK : X.K = K := by rfl)
    (hs0 : starEach [.Call (.Name "zip" p) [e, e2] [] pos] X.env = (false, eval (.Call (.Name "zip" p) [e, e2] [] pos) X.env) :: starEach [] X.env := by rfl)
    (hs : starEach [e, e2] X.env = (false, eval e X.env) :: starEach [e2] X.env := by rfl) (hpl : (backTo pos (starEach [e2] X.env)).any (·.1) = false := by rfl) (hpl0 : (backTo pos0 (starEach [] X.env)).any (·.1) = false := by rfl) :
    PE X (.Call (.Name "list" p0) [.Call (.Name "zip" p) [e, e2] [] pos] [] pos0) (tListZip K ta) := by
  subst hK
  refine ⟨fun pins s σ H Q I h => ?_⟩
  refine wpAny_Call_Name_kw (ld_blt I hg0 hm0 bt_list (PyProof.Rows.callWith_type1 ?_ hs0 hpl0))
  rw [hs0]
  show wpAny _ _ (spliced ((false, eval (.Call (.Name "zip" p) [e, e2] [] pos) X.env) :: backTo pos0 (starEach [] X.env))) _ _ s
  refine Calls.spliced_cons ?_
  refine Call_ (ld_blt I hg hm PyProof.Rows.boot_zip (PyProof.Rows.callWith_type1 (thn (ha.run pos pins s σ H _ I h) fun us s1 ⟨vs, H1, I1, r1, q1⟩ => ?_) hs hpl))
  obtain ⟨a, b, xs, ys, ex, hqx, hqy, hl, hz, q⟩ := q1
  subst ex
  cases r1 with
  | cons r rr =>
    cases rr with
    | cons r' rr =>
      cases rr
      cases r
      cases r'
      obtain ⟨its, rv, p1, _⟩ := I1.list hqx
      obtain ⟨its2, rv2, p2, _⟩ := I1.list hqy
      have la : a < s1.heap.objs.size := p1.lt
      have lb : b < s1.heap.objs.size := p2.lt
      refine call_zip_2 p1.isList p2.isList fun h' hz' hTI hTO h1 h2 hsz hk => ?_
      have I2 : Inv X pins σ H1 { s1 with heap := h' } := I1.kept (t' := s1.toks) hk
      refine Calls.spliced_nil ?_
      have mem : ∀ c, c ∈ [s1.heap.objs.size + 4, s1.heap.objs.size + 2, s1.heap.objs.size + 3, s1.heap.objs.size, s1.heap.objs.size + 1] → s1.heap.objs.size ≤ c ∧ c < s1.heap.objs.size + 5 := fun c hcm => by
        simp at hcm
        rcases hcm with z | z | z | z | z
        · rw [z]; exact ⟨Nat.le_add_right _ _, Nat.lt_succ_self _⟩
        · rw [z]; exact ⟨Nat.le_add_right _ _, Nat.add_lt_add_left (by decide : 2 < 5) _⟩
        · rw [z]; exact ⟨Nat.le_add_right _ _, Nat.add_lt_add_left (by decide : 3 < 5) _⟩
        · rw [z]; exact ⟨Nat.le_refl _, Nat.lt_add_of_pos_right (by decide)⟩
        · rw [z]; exact ⟨Nat.le_add_right _ _, Nat.add_lt_add_left (by decide : 1 < 5) _⟩
      exact call_list_zip hc I2 (PySem.W.ktu_apart s1.heap.objs.size a b la lb) hl hqx hqy hz (fun c hcm => I1.fpOk (mem c hcm).1 (I1.hok.fresh (mem c hcm).1)) (fun c hcm => by
        show c < h'.objs.size
        rw [hsz]
        exact (mem c hcm).2) ⟨hTI, h1, h2, hz', _, _, hTO⟩ q
end
end Own
namespace Own
mutual
/-- bounds of nodes by depth -/
theorem Pat.nb_le {k : Nat} : ∀ (p : Pat), p.Ok k → ∀ m, p.depth ≤ m → p.nb + 2 ≤ 3 * 5 ^ m
  | .non, _, m, _ => by
    have : 1 ≤ 5 ^ m := Nat.pow_pos (by decide)
    simp only [Pat.nb]
    omega
  | .emp, _, m, _ => by
    have : 1 ≤ 5 ^ m := Nat.pow_pos (by decide)
    simp only [Pat.nb]
    omega
  | .one _, _, m, _ => by
    have : 1 ≤ 5 ^ m := Nat.pow_pos (by decide)
    simp only [Pat.nb]
    omega
  | .row ps, ok, m, hd => by
    simp only [Pat.Ok] at ok
    simp only [Pat.depth] at hd
    obtain ⟨m', rfl⟩ : ∃ m', m = m' + 1 := ⟨m - 1, by omega⟩
    have h := Pats.nb_le ps ok.1 m' (by omega)
    have hl : ps.len * (3 * 5 ^ m') ≤ 4 * (3 * 5 ^ m') := Nat.mul_le_mul_right _ ok.2
    have : 1 ≤ 5 ^ m' := Nat.pow_pos (by decide)
    simp only [Pat.nb]
    rw [Nat.pow_succ]
    omega
  | .any ps, ok, m, hd => by
    simp only [Pat.Ok] at ok
    simp only [Pat.depth] at hd
    obtain ⟨m', rfl⟩ : ∃ m', m = m' + 1 := ⟨m - 1, by omega⟩
    have h := Pats.nb_le ps ok.1 m' (by omega)
    have hl : ps.len * (3 * 5 ^ m') ≤ 4 * (3 * 5 ^ m') := Nat.mul_le_mul_right _ ok.2
    have : 1 ≤ 5 ^ m' := Nat.pow_pos (by decide)
    simp only [Pat.nb]
    rw [Nat.pow_succ]
    omega
  | .again p lo hi, ok, m, hd => by
    simp only [Pat.Ok] at ok
    simp only [Pat.depth] at hd
    obtain ⟨m', rfl⟩ : ∃ m', m = m' + 1 := ⟨m - 1, by omega⟩
    obtain ⟨okp, hlo, hhi⟩ := ok
    have h := Pat.nb_le p okp m' (by omega)
    have h1 : lo * p.nb ≤ 3 * p.nb := Nat.mul_le_mul_right _ hlo
    simp only [Pat.nb]
    rw [Nat.pow_succ]
    cases hi with
    | none =>
      show lo * p.nb + 2 + (p.nb + 1) + 2 ≤ _
      omega
    | some x =>
      obtain ⟨a1, a2, a3⟩ := hhi x rfl
      have h2 : lo * p.nb + (x - lo) * (p.nb + 1) ≤ 3 * (p.nb + 1) := by
        have : lo * p.nb ≤ lo * (p.nb + 1) := Nat.mul_le_mul_left _ (by omega)
        have h3 : lo * (p.nb + 1) + (x - lo) * (p.nb + 1) = x * (p.nb + 1) := by
          rw [← Nat.add_mul]
          congr 1
          omega
        have h4 : x * (p.nb + 1) ≤ 3 * (p.nb + 1) := Nat.mul_le_mul_right _ a3
        omega
      show lo * p.nb + 2 + (x - lo) * (p.nb + 1) + 2 ≤ _
      omega
  | .group p, ok, m, hd => by
    simp only [Pat.Ok] at ok
    simp only [Pat.depth] at hd
    simp only [Pat.nb]
    obtain ⟨m', rfl⟩ : ∃ m', m = m' + 1 := ⟨m - 1, by omega⟩
    have h := Pat.nb_le p ok m' (by omega)
    rw [Nat.pow_succ]
    omega
theorem Pats.nb_le {k : Nat} : ∀ (ps : Pats), ps.Ok k → ∀ m, ps.depth ≤ m → ps.nb1 ≤ ps.len * (3 * 5 ^ m) ∧ ps.nb ≤ ps.len * (3 * 5 ^ m)
  | .nil, _, m, _ => by simp [Pats.nb1, Pats.nb]
  | .cons p ps, ok, m, hd => by
    simp only [Pats.Ok] at ok
    simp only [Pats.depth, Nat.max_le] at hd
    have h1 := Pat.nb_le p ok.1 m hd.1
    have h2 := Pats.nb_le ps ok.2 m hd.2
    simp only [Pats.nb1, Pats.nb, Pats.len]
    rw [Nat.succ_mul]
    omega
end
/-! The law's looks, all together. -/
structure Looks (T : Tab) (k L : Nat) (ps : List (List (List Nat) × List Bool)) (os : List (Option Nat)) : Prop where
  len : os.length = ps.length
  fi : ∀ (i : Nat) (p : List (List Nat) × List Bool) (o : Option Nat), ps[i]? = some p → os[i]? = some o → FI T (tbOf p) (allT k L) o
def plcs (os : List (Option Nat)) : List Nat := os.filterMap id
def Cnd (k L : Nat) : Prop := (k ≤ 3 ∧ L ≤ 4) ∨ (k ≤ 2 ∧ L ≤ 6)
section
variable {T : Tab} {k n h L : Nat} {ps : List (List (List Nat) × List Bool)} {os : List (Option Nat)}
theorem Looks.get (lk : Looks T k L ps os) {p : List (List Nat) × List Bool} (hp : p ∈ ps) : ∃ (i : Nat) (o : Option Nat), ps[i]? = some p ∧ os[i]? = some o ∧ FI T (tbOf p) (allT k L) o := by
  obtain ⟨i, hi⟩ := List.getElem?_of_mem hp
  have h1 := (List.getElem?_eq_some_iff.mp hi).1
  have h2 : i < os.length := by rw [lk.len]; exact h1
  exact ⟨i, os[i], hi, List.getElem?_eq_getElem h2, lk.fi i _ _ hi (List.getElem?_eq_getElem h2)⟩
theorem Looks.snoc (lk : Looks T k L ps os) {p : List (List Nat) × List Bool} {o : Option Nat} (f : FI T (tbOf p) (allT k L) o) : Looks T k L (ps ++ [p]) (os ++ [o]) := by
  refine ⟨by rw [List.length_append, List.length_append, lk.len]; rfl, fun i p' o' h1 h2 => ?_⟩
  by_cases hi : i < ps.length
  · rw [List.getElem?_append_left hi] at h1
    rw [List.getElem?_append_left (by rw [lk.len]; exact hi)] at h2
    exact lk.fi i p' o' h1 h2
  · rw [List.getElem?_append_right (by omega)] at h1
    have hz : i - ps.length = 0 := by
      have := (List.getElem?_eq_some_iff.mp h1).1
      simp at this
      omega
    rw [hz] at h1
    rw [List.getElem?_append_right (by rw [lk.len]; omega), lk.len, hz] at h2
    obtain rfl : p = p' := by simpa using h1
    obtain rfl : o = o' := by simpa using h2
    exact f
theorem mem_plcs {x : Nat} : x ∈ plcs os ↔ some x ∈ os := by
  unfold plcs
  rw [List.mem_filterMap]
  constructor
  · rintro ⟨a, h1, h2⟩
    rw [← h2]
    exact h1
  · exact fun z => ⟨_, z, rfl⟩
theorem plcs_take {j : Nat} {o : Option Nat} (e : os[j]? = some o) : plcs (os.take (j + 1)) = plcs (os.take j) ++ o.toList := by
  unfold plcs
  rw [List.take_add_one, e, List.filterMap_append]
  cases o <;> rfl
theorem plcs_len : (plcs os).length ≤ os.length := List.length_filterMap_le _ _
theorem idx_zero {u : Word} (h : idx k u = 0) : u = [] := by
  by_cases hne : u = []
  · exact hne
  · have e := List.dropLast_concat_getLast hne
    rw [← e, idx_snoc] at h
    omega
theorem Looks.ne (hT : T.Ok k n) (h1 : 1 ≤ h) (h2 : h ≤ 2) (hc : Cnd k L) (lk : Looks T k L (oth k h) os) : plcs os ≠ [] := by
  obtain ⟨O, a, hd⟩ := some_differs hT.k1 hT.k3 h1 h2 T
  obtain ⟨p, hp, rfl⟩ := among_oth hT.k1 hT.k3 h1 h2 a
  obtain ⟨i, o, _, ho, f⟩ := lk.get hp
  obtain ⟨⟨u, hu, eu, hdu⟩, _⟩ := hd
  obtain rfl := idx_zero eu
  obtain ⟨j, rfl⟩ := f.of_dis hT.k1 hc hu (Nat.zero_le _) hdu
  exact List.ne_nil_of_mem (mem_plcs.mpr (List.mem_of_getElem? ho))
/-- what is found is no more than the last -/
theorem Looks.le (hT : T.Ok k n) (h1 : 1 ≤ h) (h2 : h ≤ 2) (hc : Cnd k L) (lk : Looks T k L (oth k h) os) {M L' : Nat} {O : Tab} (hM : M ∈ plcs os) (hL : LastIs k h T L' O) : M ≤ L' := by
  obtain ⟨i, hi⟩ := List.getElem?_of_mem (mem_plcs.mp hM)
  have hlt : i < (oth k h).length := by rw [← lk.len]; exact (List.getElem?_eq_some_iff.mp hi).1
  have hp := List.getElem?_eq_getElem hlt
  have f := lk.fi i _ _ hp hi
  exact hL.2 _ _ (oth_good hT.k1 hT.k3 h1 h2 (List.getElem_mem hlt)).1 (f.some hT.k1 hc)
theorem Looks.full (hT : T.Ok k n) (h1 : 1 ≤ h) (h2 : h ≤ 2) (hc : Cnd k L) (hn : n + h ≤ L + 2) (lk : Looks T k L (oth k h) os) {i : Nat} {p : List (List Nat) × List Bool} {o : Option Nat} (hp : (oth k h)[i]? = some p) (ho : os[i]? = some o) : FDis k T (tbOf p) o := by
  obtain ⟨_, ok, hl⟩ := oth_good hT.k1 hT.k3 h1 h2 (List.mem_of_getElem? hp)
  exact (lk.fi i p o hp ho).full hT ok hc (by omega)
theorem Looks.eq (hT : T.Ok k n) (h1 : 1 ≤ h) (h2 : h ≤ 2) (hc : Cnd k L) (hn : n + h ≤ L + 2) (lk : Looks T k L (oth k h) os) {M L' : Nat} {O : Tab} (hM : M ∈ plcs os) (hx : ∀ y, y ∈ plcs os → y ≤ M) (hL : LastIs k h T L' O) : L' = M := by
  have a := lk.le hT h1 h2 hc hM hL
  obtain ⟨p, hp, rfl⟩ := among_oth hT.k1 hT.k3 h1 h2 hL.1.1
  obtain ⟨i, o, hi, ho, f⟩ := lk.get hp
  have fd := lk.full hT h1 h2 hc hn hi ho
  have := fd.uniq hL.1.2
  subst this
  have := hx L' (mem_plcs.mpr (List.mem_of_getElem? ho))
  omega
end
/-- how long the law's texts are -/
def txL (k n h : Nat) : Nat := min (n + h - 1) (if k < 3 then 6 else 4)
theorem txL_cnd {k n h : Nat} (hk : k ≤ 3) : Cnd k (txL k n h) := by
  unfold Cnd txL
  by_cases c : k < 3
  · rw [if_pos c]
    right
    omega
  · rw [if_neg c]
    left
    omega
theorem txL_few {k n h : Nat} (hk : k ≤ 3) (h1 : 1 ≤ h) (h2 : h ≤ 2) (hn : n ≤ 4) : n + h ≤ txL k n h + 2 := by
  unfold txL
  by_cases c : k < 3
  · rw [if_pos c]
    omega
  · rw [if_neg c]
    omega
theorem allT_few {k L : Nat} (hk : 1 ≤ k) (h : Cnd k L) : (allT k L).length ≤ 130 := by
  unfold Cnd at h
  have h1 : k = 1 ∨ k = 2 ∨ k = 3 := by omega
  have h2 : L = 0 ∨ L = 1 ∨ L = 2 ∨ L = 3 ∨ L = 4 ∨ L = 5 ∨ L = 6 := by omega
  rcases h1 with rfl | rfl | rfl <;> rcases h2 with rfl | rfl | rfl | rfl | rfl | rfl | rfl <;> first | decide +kernel | (exfalso; omega)
theorem texts_mem {s k : Nat} (hk1 : 1 ≤ k) (hk : k ≤ 3) (hs : s ≤ 3) {r : List Nat} (hr : r ∈ texts s k) : r.length = k ∧ ∀ x, x ∈ r → x < s := by
  have h1 : k = 1 ∨ k = 2 ∨ k = 3 := by omega
  have h2 : s = 0 ∨ s = 1 ∨ s = 2 ∨ s = 3 := by omega
  have key : ((texts s k).all fun r => decide (r.length = k) && r.all fun x => decide (x < s)) = true := by
    rcases h1 with rfl | rfl | rfl <;> rcases h2 with rfl | rfl | rfl | rfl <;> decide +kernel
  have := List.all_eq_true.mp key r hr
  rw [Bool.and_eq_true, List.all_eq_true] at this
  exact ⟨of_decide_eq_true this.1, fun x hx => of_decide_eq_true (this.2 x hx)⟩
/-- the law's tables are tables -/
theorem atUp_bok {s k : Nat} (hk1 : 1 ≤ k) (hk : k ≤ 3) (h1 : 1 ≤ s) (hs : s ≤ 3) {p : List (List Nat) × List Bool} (hp : p ∈ atUp (texts s k) s) : BOk (tbOf p) k s := by
  obtain ⟨g1, g2, g3⟩ := mem_atUp hp
  exact ⟨hk1, hk, h1, by omega, g1, g2, fun r hr => texts_mem hk1 hk hs (g3 r hr)⟩
theorem oth_few {k h : Nat} (hk1 : 1 ≤ k) (hk : k ≤ 3) (h1 : 1 ≤ h) (h2 : h ≤ 2) : (oth k h).length ≤ 300 := by
  have e1 : k = 1 ∨ k = 2 ∨ k = 3 := by omega
  have e2 : h = 1 ∨ h = 2 := by omega
  rcases e1 with rfl | rfl | rfl <;> rcases e2 with rfl | rfl <;> decide +kernel
theorem cut_get {xs : List L2.V} {hi : Option Int} {j : Nat} {x : L2.V} (e : (L2.cutV xs none hi)[j]? = some x) : xs[j]? = some x := by
  unfold L2.cutV at e
  rw [List.getElem?_take] at e
  split at e
  · rw [List.getElem?_drop] at e
    rw [show HT.sIx xs.length 0 none = 0 from rfl, Nat.zero_add] at e
    exact e
  · cases e
end Own
set_option maxHeartbeats 4000000
namespace Own
open PySem PySem.Spec PyProof.Rows L2
abbrev s_law : Stmt := topS 57
theorem sc_law : FnScope ["script", "draw", "size", "high", "table", "many", "texts", "others", "stands", "some", "places", "due", "found", "other", "place", "one"] ["script"] (defScope s_law) := ⟨rfl, rfl, rfl, by decide +kernel, rfl, by decide +kernel, by decide +kernel⟩
section
variable {P : Program} {w : World} {K : PySem.W.Frag} {mg : Str → Option Value} {base : Heap}
theorem cut1 {G C D : Prop} (f : (G → C) → D) (c : G → C) : D := f c
theorem ask_read {t4 t3 : TE} {σ : L2.St} {H : Hp} {C : Addr} {v u : V} {Q2 : VK} (q : ∀ xo dxo H', Same H H' → H' xo = some (.ins C dxo (ef v u)) → tCons t4 (tCons t3 tNil) σ H' fun vs H2 => sp_eshows K C (.ref xo :: (vs ++ [])) H2 Q2 E0) :
    ∀ x dx, H x = none → H dx = none → dx ≠ x → sp_einit C (.ref x :: ([v, u] ++ [])) (upd (upd H dx (.own x)) x (.ins C dx [])) (fun z H2 => z = .non ∧ ∃ a dx fs, V.ref x = .ref a ∧ H2 a = some (.ins C dx fs) ∧ fs.lookup ("shows" : Str) = none ∧ tCons t4 (tCons t3 tNil) σ H2 fun vs H3 => sp_eshows K C (.ref x :: (vs ++ [])) H3 Q2 E0) E0 := by
  intro x dx nx ndx hne
  refine make_read (Q := fun x0 H2 => ∃ a dx fs, x0 = .ref a ∧ H2 a = some (.ins C dx fs) ∧ fs.lookup ("shows" : Str) = none ∧ tCons t4 (tCons t3 tNil) σ H2 fun vs H3 => sp_eshows K C (x0 :: (vs ++ [])) H3 Q2 E0) (fun p H' s np hp => ?_) x dx nx ndx hne
  obtain ⟨d, hp⟩ := hp
  exact ⟨p, d, _, rfl, hp, ef_no _ _ (by decide +kernel) (by decide +kernel), q p d H' s hp⟩
/-- what it takes to ask an Enough -/
structure Shower (P : Program) (w : World) (K : PySem.W.Frag) (mg : Str → Option Value) (base : Heap) (C : Addr) : Prop where
  ex : ∃ (f : Addr) (fd : FuncData), Meth K C "shows" f ∧ FnOk P w K mg base CX0 7 f fd ["self", "table", "most"] (sp_eshows K C) ∧ Binds K fd ["self", "table", "most"] []
theorem read_cap {σ : L2.St} {H : Hp} {R : VK} {k : Nat} (hs : σ[2]? = some (some (nV k))) (q : R (nV (if k < 3 then 6 else 4)) H) : tIf (tTest (tOp (rI0 fun i j => V.bl (decide (i < j))) (tVar 2) (tC (V.int 3)))) (tC (V.int 6)) (tC (V.int 4)) σ H R := by
  by_cases c : k < 3
  · rw [if_pos c] at q
    exact ⟨_, hs, _, _, rfl, rfl, true, congrArg V.bl (decide_eq_true (by omega)), iteT q⟩
  · rw [if_neg c] at q
    exact ⟨_, hs, _, _, rfl, rfl, false, congrArg V.bl (decide_eq_false (by omega)), iteF q⟩
def sp_law (K : PySem.W.Frag) : Sp := fun vs H Q _ => ∃ (a : Addr) (xs : List Int), vs = [.ref a] ∧ SqL K H a (xs.map V.int) ∧ ∀ H', Q (.bl true) H'
theorem ok_law {f C : Addr} {fd : FuncData} (F : Fun K "law" "law" s_law f fd) (B : Bt mg) (Bz : mg "zip" = none) (Mk0 : Maker P w K mg base C) (S : Shower P w K mg base C) (C_law_next : Got P w K mg base CX0 3 "_law_next" ["draw", "bound"] sp_law_next)
    (C_law_pattern : Got P w K mg base CX0 10 "_law_pattern" ["draw", "size", "most"] (sp_law_pattern K)) (C_law_table : Got P w K mg base CX0 10 "_law_table" ["size", "patterns", "is_rules"] (sp_law_table K)) (C_law_texts : Got P w K mg base CX0 1 "_law_texts" ["size", "most"] sp_law_texts)
    (C_law_all_tables : Got P w K mg base CX0 1 "_law_all_tables" ["size", "many"] (sp_law_all_tables K)) (C_law_come_to : Got P w K mg base CX0 1 "_law_come_to" ["table"] (sp_law_come_to K)) (C_law_index : Got P w K mg base CX0 2 "_law_index" ["table", "other", "texts"] (sp_law_index K))
    (C_enough : Got P w K mg base CX0 8 "enough" ["table", "most"] (sp_enough K)) (C_judge_enough : Got P w K mg base CX0 7 "judge_enough" ["table", "most"] (sp_judge_enough K C)) (C_law_says : Got P w K mg base CX0 1 "_law_says" ["told", "due"] sp_law_says) : FnOk P w K mg base CX0 11 f fd ["script"] (sp_law K) := by
  refine F.ok sc_law (fun vs H Q E h => ?_) (fun cdv A outer s0 H vs Q E hr h => ?_)
  · obtain ⟨a, xs, rfl, _⟩ := h
    rfl
  obtain ⟨a, xs, rfl, hs, q⟩ := h
  have hr1 : Room 1 _ := hr.mono (by decide)
  have hr2 : Room 2 _ := hr.mono (by decide)
  have hr3 : Room 3 _ := hr.mono (by decide)
  have hr7 : Room 7 _ := hr.mono (by decide)
  have hr8 : Room 8 _ := hr.mono (by decide)
  have two : ∀ n, n ≤ 10 → n ≤ sizeLine := fun n h => Nat.le_of_lt (small1000 (by omega))
  obtain ⟨fi, fdi, mk, GI, bI⟩ := Mk0.ex
  obtain ⟨fs, fds, ms, GS, bS⟩ := S.ex
  refine ⟨_, (pss_cons (ps_set (i := 1) sc_law.nd rfl (Or.inl rfl) (pe_lst (pa_cons (pe_slice sl_list (pv 0) po_none (po_some pe_int)) (pa_cons pe_int (pa_cons pe_int pa_nil))))) (pss_cons (ps_set (i := 2) sc_law.nd rfl (Or.inl rfl) (pe_op op_add pe_int (C_law_next.call hr3 (by rfl) (pa_cons (pv 1) (pa_cons pe_int pa_nil))))) (pss_cons (ps_set (i := 3) sc_law.nd rfl (Or.inl rfl) (pe_op op_add pe_int (C_law_next.call hr3 (by rfl) (pa_cons (pv 1) (pa_cons pe_int pa_nil))))) (pss_cons (ps_set (i := 4) sc_law.nd rfl (Or.inr rfl) (C_law_table.call hr (by rfl) (pa_cons (pv 2) (pa_cons (pe_lst (pa_cons (C_law_pattern.call hr (by rfl) (pa_cons (pv 1) (pa_cons (pv 2) (pa_cons pe_int pa_nil)))) pa_nil)) (pa_cons pe_bl pa_nil))))) (pss_cons (ps_set (i := 5) sc_law.nd rfl (Or.inl rfl) (pe_callB (c_len K) (by rfl) B.len bt_len (pa_cons (p_ixt K (pv 4) pe_int) pa_nil))) (pss_cons (ps_set (i := 6) sc_law.nd rfl (Or.inr rfl) (C_law_texts.call hr1 (by rfl) (pa_cons (pv 2) (pa_cons (pe_callB (c_min K) (by rfl) B.min bt_min (pa_cons (pe_lst (pa_cons (pe_op op_sub (pe_op op_add (pv 5) (pv 3)) pe_int) (pa_cons (pe_ifExp (pt_cmpR op_lt (pv 2) pe_int (nomark _)) pe_int pe_int) pa_nil))) pa_nil)) pa_nil)))) (pss_cons (ps_set (i := 7) sc_law.nd rfl (Or.inl rfl) (pe_lst pa_nil)) (pss_cons (ps_for PassesOwn.never rfl (pi_range2 (by rfl) B.range (pa_cons pe_int (pa_cons (pe_op op_add (pv 3) pe_int) pa_nil))) (pg_name (i := 8) sc_law.nd rfl (Or.inl rfl)) (pss_one (ps_set (i := 7) sc_law.nd rfl (Or.inl rfl) (pe_op op_cat (pv 7) (pe_lc (own := [("one", 15)]) rfl sc_law.nd (p_list K (C_law_all_tables.call hr1 (by rfl) (pa_cons (pv 2) (pa_cons (pv 8) pa_nil)))) (blkOk_by (by kernel_rfl)) (fun _ _ _ _ _ => (pg_name (i := 15) sc_law.nd rfl (Or.inl rfl))) (fun _ _ _ _ _ => (pts_one (pt_val (C_law_come_to.call hr1 (by rfl) (pa_cons (pv 15) pa_nil))))) (fun _ _ _ _ _ => (pv 15))))))) (pss_cons (ps_setLc (i := 9) (own := [("other", 13)]) rfl sc_law.nd rfl rfl (sw_true rfl rfl rfl (by decide +kernel)) (p_list K (pv 7)) (blkOk_by (by kernel_rfl)) (fun _ _ _ _ _ => (pg_name (i := 13) sc_law.nd rfl (Or.inl rfl))) (fun _ _ _ _ _ => pts_nil) (fun _ _ _ _ _ => (C_law_index.call hr2 (by rfl) (pa_cons (pv 4) (pa_cons (pv 13) (pa_cons (pv 6) pa_nil)))))) (pss_cons (ps_setLc (i := 10) (own := [("place", 14)]) rfl sc_law.nd rfl rfl (sw_true rfl rfl rfl (by decide +kernel)) (p_list K (pv 9)) (blkOk_by (by kernel_rfl)) (fun _ _ _ _ _ => (pg_name (i := 14) sc_law.nd rfl (Or.inl rfl))) (fun _ _ _ _ _ => (pts_one (pt_cmpR op_notN (pv 14) pe_non (nomark _)))) (fun _ _ _ _ _ => (pv 14))) (pss_cons (ps_set (i := 11) sc_law.nd rfl (Or.inl rfl) (pe_op op_add (pe_callB (c_max K) (by rfl) B.max bt_max (pa_cons (pv 10) pa_nil)) pe_int)) (pss_cons (ps_if (pt_cmpR op_gt (pv 5) pe_int (nomark _)) (pss_one (ps_ret (pe_cmpR op_ge (C_enough.call hr8 (by rfl) (pa_cons (pv 4) (pa_cons (pv 3) pa_nil))) (pv 11) (nomark _)))) pss_nil) (pss_cons (ps_set (i := 12) sc_law.nd rfl (Or.inl rfl) (C_judge_enough.call hr7 (by rfl) (pa_cons (pv 4) (pa_cons (pv 3) pa_nil)))) (pss_cons (ps_if (PW.pt (pw_or (pt_cmpR op_ne (C_enough.call hr8 (by rfl) (pa_cons (pv 4) (pa_cons (pv 3) pa_nil))) (pv 11) (nomark _)) (pw_or (pt_cmpR op_ne (pe_fld (pv 12) rfl) (pv 11) (nomark _)) (pw_or1 (pt_cmpR op_notBl (pe_meth (pv 12) Mk0.T.cl ms GS hr7 bS .nil pass0 (pa_cons (pv 4) (pa_cons (pv 3) pa_nil))) pe_bl (nomark _)))))) (pss_one (ps_ret pe_bl)) pss_nil) (pss_cons (ps_for PassesOwn.never rfl (p_list K (pe_slice sl_list (pe_listzip K (by rfl) B.list (by rfl) Bz (pa_cons (pv 7) (pa_cons (pv 9) pa_nil))) po_none (po_some pe_int))) (g_tup K 2 (pgs_cons (pg_name (i := 13) sc_law.nd rfl (Or.inl rfl)) (pgs_cons (pg_name (i := 14) sc_law.nd rfl (Or.inl rfl)) pgs_nil))) (pss_cons (ps_if (pt_not (pt_val (C_law_says.call hr1 (by rfl) (pa_cons (pe_meth (pe_make mk GI hr2 (by rfl) Mk0.T.mgC bI .nil pass0 (pa_cons (pv 11) (pa_cons (pv 13) pa_nil))) Mk0.T.cl ms GS hr7 bS .nil pass0 (pa_cons (pv 4) (pa_cons (pv 3) pa_nil))) (pa_cons (pe_cmpR op_eq (pv 14) (pe_op op_sub (pv 11) pe_int) (nomark _)) pa_nil))))) (pss_one (ps_ret pe_bl)) pss_nil) (pss_one (ps_if (PW.pt (pw_and (pt_cmpR op_notN (pv 14) pe_non (nomark _)) (pw_and1 (pt_not (pt_val (C_law_says.call hr1 (by rfl) (pa_cons (pe_meth (pe_make mk GI hr2 (by rfl) Mk0.T.mgC bI .nil pass0 (pa_cons (pe_op op_add (pv 14) pe_int) (pa_cons (pv 13) pa_nil))) Mk0.T.cl ms GS hr7 bS .nil pass0 (pa_cons (pv 4) (pa_cons (pv 3) pa_nil))) (pa_cons (pe_cmpR op_eq (pe_op op_add (pv 14) pe_int) (pv 11) (nomark _)) pa_nil)))))))) (pss_one (ps_ret pe_bl)) pss_nil)))) (pss_cons (ps_if (pt_cmpR op_notBl (pe_meth (pe_make mk GI hr2 (by rfl) Mk0.T.mgC bI .nil pass0 (pa_cons (pe_op op_add (pv 11) pe_int) (pa_cons (pe_fld (pv 12) rfl) pa_nil))) Mk0.T.cl ms GS hr7 bS .nil pass0 (pa_cons (pv 4) (pa_cons (pv 3) pa_nil))) pe_bl (nomark _)) (pss_one (ps_ret pe_bl)) pss_nil) (pss_cons (ps_if (PW.pt (pw_and (pt_cmpR op_eq (pv 2) pe_int (nomark _)) (pw_and1 (pt_cmpR op_eq (pv 3) pe_int (nomark _))))) (pss_one (ps_ret pe_bl)) pss_nil) (pss_cons (ps_for PassesOwn.never rfl (p_list K (pe_step7 K (C_law_all_tables.call hr1 (by rfl) (pa_cons (pv 2) (pa_cons (pe_op op_add (pv 3) pe_int) pa_nil))))) (pg_name (i := 13) sc_law.nd rfl (Or.inl rfl)) (pss_one (ps_if (PW.pt (pw_and (pt_val (C_law_come_to.call hr1 (by rfl) (pa_cons (pv 13) pa_nil))) (pw_and1 (pt_cmpR op_eq (C_law_index.call hr2 (by rfl) (pa_cons (pv 4) (pa_cons (pv 13) (pa_cons (pv 6) pa_nil)))) (pe_op op_sub (pv 11) pe_int) (nomark _))))) (pss_one (ps_if (pt_cmpR op_notBl (pe_meth (pe_make mk GI hr2 (by rfl) Mk0.T.mgC bI .nil pass0 (pa_cons (pv 11) (pa_cons (pv 13) pa_nil))) Mk0.T.cl ms GS hr7 bS .nil pass0 (pa_cons (pv 4) (pa_cons (pv 3) pa_nil))) pe_bl (nomark _)) (pss_one (ps_ret pe_bl)) pss_nil)) pss_nil))) (pss_one (ps_ret pe_bl)))))))))))))))))))), ?_⟩
  refine ⟨_, rfl, _, rfl, a, _, rfl, hs, fun p np => ⟨two 3 (by decide), fun d nd => ?_⟩⟩
  have D0 : DrawOk (upd (upd H p (.lst (cutV (xs.map V.int) none (some 63)))) d (.lst [V.ref p, V.int 0, V.int 0])) d p := by
    obtain ⟨ys, hys⟩ : ∃ ys : List Int, cutV (xs.map V.int) none (some 63) = ys.map V.int := ⟨_, by
      unfold cutV
      rw [← List.map_drop, ← List.map_take]⟩
    have e := ne_of_none (upd_same : (upd H p (.lst (cutV (xs.map V.int) none (some 63)))) p = some _) nd
    refine ⟨ys, 0, upd_same, ?_, e⟩
    rw [upd_ne e, upd_same, hys]
  generalize (upd (upd H p (.lst (cutV (xs.map V.int) none (some 63)))) d (.lst [V.ref p, V.int 0, V.int 0])) = Hs at D0 ⊢
  refine ⟨_, rfl, d, p, 3, rfl, by decide, D0, fun r H2 hr2' b2 D2 => ⟨_, _, rfl, rfl, ?_⟩⟩
  have ek : V.int ((1 : Int) + ((r : Nat) : Int)) = nV (r + 1) := congrArg V.int (by omega)
  show gName 2 (V.int ((1 : Int) + ((r : Nat) : Int))) _ _ _
  rw [ek]
  have hk0 : 1 ≤ r + 1 ∧ r + 1 ≤ 3 := by omega
  generalize r + 1 = k at hk0 ⊢
  obtain ⟨hk1, hk3⟩ := hk0
  refine ⟨_, rfl, d, p, 2, rfl, by decide, D2, fun r2 H3 hr3' b3 D3 => ⟨_, _, rfl, rfl, ?_⟩⟩
  have ek : V.int ((1 : Int) + ((r2 : Nat) : Int)) = nV (r2 + 1) := congrArg V.int (by omega)
  show gName 3 (V.int ((1 : Int) + ((r2 : Nat) : Int))) _ _ _
  rw [ek]
  have hh0 : 1 ≤ r2 + 1 ∧ r2 + 1 ≤ 2 := by omega
  generalize r2 + 1 = h at hh0 ⊢
  obtain ⟨h1, h2⟩ := hh0
  refine ⟨_, rfl, _, rfl, _, rfl, d, p, k, rfl, hk1, hk3, D3, fun x pt H4 ok dp wt b4 D4 pat => ⟨two 1 (by decide), fun pl npl => ?_⟩⟩
  have s4 := same_new npl (.lst [V.ref x])
  have nb : pt.nb + 2 ≤ 375 := Pat.nb_le pt ok 3 dp
  refine ⟨pl, x, pt, k, rfl, upd_same, pat.same s4, ok, hk1, hk3, by omega, by omega, by omega, fun t rr e T n H5 s5 CT _ A5 => ?_⟩
  have O := CT.ok
  clear D4 D3 D2 b4 b3 b2 D0 pat
  obtain ⟨ys, hys, hyl⟩ := A5.rows.len
  refine ⟨_, rfl, t, _, _, _, rfl, rfl, A5.top, rfl, rr, _, rfl, .inr hys, ?_⟩
  have ey : V.int ((ys.length : Nat) : Int) = nV n := congrArg V.int (by rw [hyl, O.rl])
  show gName 5 (V.int ((ys.length : Nat) : Int)) _ _ _
  rw [ey]
  clear ey hyl hys ys
  -- the texts
  refine ⟨_, rfl, _, rfl, _, rfl, _, _, rfl, rfl, _, _, rfl, rfl, ?_⟩
  refine read_cap rfl ?_
  refine ⟨two 2 (by decide), fun lm nlm => ?_⟩
  have s6 := same_new nlm (.lst [V.int (((n : Nat) : Int) + ((h : Nat) : Int) - 1), nV (if k < 3 then 6 else 4)])
  refine ⟨lm, [((n : Nat) : Int) + ((h : Nat) : Int) - 1, (((if k < 3 then 6 else 4 : Nat) : Nat) : Int)], rfl, SqL.new, Nat.succ_pos _, fun mn hmn hle => ?_⟩
  obtain ⟨L, eL, hLt⟩ : ∃ L : Nat, V.int mn = nV L ∧ L = txL k n h := by
    have n1 := O.n1
    have e1 := hle _ (List.mem_cons_self)
    have e2 := hle _ (List.mem_cons_of_mem _ List.mem_cons_self)
    refine ⟨txL k n h, congrArg V.int ?_, rfl⟩
    unfold txL
    rcases List.mem_cons.mp hmn with z | z
    · omega
    · have z := List.mem_singleton.mp z
      omega
  rw [eL]
  clear eL hle hmn mn
  have hc : Cnd k L := by
    rw [hLt]
    exact txL_cnd hk3
  refine ⟨k, L, rfl, hc, fun l H6 s7 nl hl => ?_⟩
  have hLl := allT_few hk1 hc
  have hLw : ∀ u, u ∈ allT k L → Wd k u ∧ u.length ≤ 100 := fun u hu => by
    have := mem_allT.mp hu
    unfold Cnd at hc
    exact ⟨this.2, by omega⟩
  refine ⟨two 0 (by decide), fun lo nlo => ?_⟩
  have s8 := (s6.trans s7).trans (same_new nlo (.lst []))
  have A6 := A5.same s8
  have hl6 := (same_new nlo (.lst [])) _ _ hl
  have hlo6 : (upd H6 lo (.lst [])) lo = some (.lst []) := upd_same
  generalize upd H6 lo (.lst []) = H7 at A6 hl6 hlo6 ⊢
  clear s8 hl nlo s7 nl A5 s6 nlm s5 s4 npl
  refine ⟨_, rfl, _, _, rfl, rfl, 1, ((h : Nat) : Int) + 1, rfl, ⟨by decide, by decide, by omega, by omega⟩, for_range (lo := 1) (n := (((h : Nat) : Int) + 1 - 1).toNat) (fun i σ H1 => ∃ (lo : Addr) (as : List Addr) (v8 : Option V), σ = [some (.ref a), some (.ref d), some (nV k), some (nV h), some (.ref t), some (nV n), some (.ref l), some (.ref lo), v8, none, none, none, none, none, none, none] ∧ Same H7 H1 ∧ H1 lo = some (.lst (as.map V.ref)) ∧ AllAt (TbAt K) H1 (oth k i) as)
    ⟨lo, [], none, rfl, Same.refl _, hlo6, AllAt.nil⟩ ?_ ?_⟩
  · rintro i σ H8 hi ⟨lo, as, v8, rfl, s8, hlo, Aas⟩
    have hi : i < h := by omega
    have e8 : V.int ((1 : Int) + ((i : Nat) : Int)) = nV (i + 1) := congrArg V.int (by omega)
    refine ⟨_, rfl, _, rfl, _, rfl, k, i + 1, congrArg (fun z => [nV k, z]) e8, .inl ⟨hk3, by omega⟩, fun ls bs H9 s9 hls Abs => ⟨ls, rfl, ⟨_, SqL.of hls⟩, fun D nD => ?_⟩⟩
    have hat : ∀ p, p ∈ atUp (texts (i + 1) k) (i + 1) → BOk (tbOf p) k (i + 1) := fun p hp => atUp_bok hk1 hk3 (by omega) (by omega) hp
    have hbl : bs.length ≤ 900 := by
      rw [Abs.1, atUp_len]
      have : k = 1 ∨ k = 2 ∨ k = 3 := by omega
      have : i = 0 ∨ i = 1 := by omega
      rcases ‹k = 1 ∨ k = 2 ∨ k = 3› with rfl | rfl | rfl <;> rcases ‹i = 0 ∨ i = 1› with rfl | rfl <;> decide +kernel
    generalize hat0 : atUp (texts (i + 1) k) (i + 1) = at0 at Abs hat
    refine lc_it (walk_list (K := K) (a := ls) (xs := bs.map V.ref)) (fun j H5 => ∃ ds : List Addr, Same H9 H5 ∧ H5 D = some (.lst (ds.map V.ref)) ∧ AllAt (TbAt K) H5 ((at0.take j).filter fun p => ctB p.1) ds)
      ⟨[], same_new nD _, upd_same, AllAt.nil⟩ (fun j H5 _ q0 => ?_) (fun j x H5 H6 hj q0 yl => ?_) (fun H5 q0 => ?_)
    · obtain ⟨_, s7, _, _⟩ := q0
      exact SqL.of (s7 _ _ hls)
    · obtain ⟨ds, s7, hD, Ads⟩ := q0
      obtain ⟨rfl, hv⟩ := yl
      rw [List.length_map] at hj
      rw [List.getElem?_map, List.getElem?_eq_getElem hj] at hv
      obtain rfl : V.ref bs[j] = x := Option.some.inj hv
      have hj2 : j < at0.length := by rw [← Abs.1]; exact hj
      obtain ⟨r1, e1, A1⟩ := Abs.2 j _ _ (List.getElem?_eq_getElem hj2) (List.getElem?_eq_getElem hj)
      have hin : at0[j] ∈ at0 := List.getElem_mem hj2
      have etk : at0.take (j + 1) = at0.take j ++ [at0[j]] := by
        rw [List.take_add_one, List.getElem?_eq_getElem hj2]
        rfl
      rw [etk, List.filter_append]
      generalize at0[j] = pj at A1 hin etk ⊢
      generalize bs[j] = bj at A1 ⊢
      have hds : ds.length ≤ bs.length := by
        rw [Ads.1]
        have := List.length_filter_le (fun p : List (List Nat) × List Bool => ctB p.1) (at0.take j)
        rw [List.length_take] at this
        omega
      refine ⟨rfl, _, rfl, bj, r1, e1, tbOf pj, k, i + 1, rfl, A1.same s7, hat _ hin, fun H6 s6 => ⟨_, rfl, ?_⟩⟩
      have ec : ctB (tbOf pj).rows = ctB pj.1 := rfl
      rw [ec]
      by_cases c : ctB pj.1 = true
      · have ef : [pj].filter (fun p => ctB p.1) = [pj] := by
          rw [List.filter_cons, if_pos c]
          rfl
        rw [ef, c]
        refine iteT ⟨_, rfl, _, s6 _ _ hD, by rw [List.length_map]; exact small1000 (by omega), ds ++ [bj], fun b o e => ?_, by rw [upd_same, List.map_append]; rfl, ?_⟩
        · rw [upd_ne (ne_of_none e nD)]
          exact s6 _ _ (s7 _ _ e)
        · refine (((Ads.mono fun _ _ h => h.mono (SM.of s6)).app (AllAt.one ⟨r1, e1, A1.same (s7.trans s6)⟩)).mono fun _ _ h => h.mono (SM.lst (s6 _ _ hD)))
      · have ef : [pj].filter (fun p => ctB p.1) = [] := by
          rw [List.filter_cons, if_neg c]
          rfl
        rw [ef, List.append_nil, Bool.eq_false_iff.mpr c]
        exact iteF ⟨ds, s7.trans s6, s6 _ _ hD, Ads.mono fun _ _ h => h.mono (SM.of s6)⟩
    · obtain ⟨ds, s7, hD, Ads⟩ := q0
      rw [List.length_map, List.take_of_length_le (by rw [Abs.1]; exact Nat.le_refl _), ← hat0] at Ads
      have hlo5 := s7 _ _ (s9 _ _ hlo)
      have hl1 : as.length ≤ 300 := by
        rw [Aas.1]
        by_cases c : i = 0
        · rw [c]
          exact Nat.zero_le _
        · exact oth_few hk1 hk3 (by omega) (by omega)
      have hl2 : ds.length ≤ 900 := by
        rw [Ads.1]
        have := List.length_filter_le (fun p : List (List Nat) × List Bool => ctB p.1) (atUp (texts (i + 1) k) (i + 1))
        have := Abs.1
        rw [← hat0] at this
        omega
      refine ⟨lo, D, _, _, rfl, rfl, hlo5, hD, by rw [List.length_map, List.length_map, sizeLine_eq]; omega, fun l2 nl2 => ?_⟩
      have s10 := same_new nl2 (.lst (as.map V.ref ++ ds.map V.ref))
      have s79 := s9.trans s7
      refine ⟨l2, as ++ ds, _, rfl, (s8.trans s79).trans s10, by rw [upd_same, List.map_append], ?_⟩
      have eo : oth k (i + 1) = oth k i ++ othS k (i + 1) := by
        unfold oth
        rw [List.range_succ, List.flatMap_append]
        simp
      rw [eo]
      exact (Aas.mono fun _ _ h => h.mono (SM.of (s79.trans s10))).app (Ads.mono fun _ _ h => h.mono (SM.of s10))
  rintro σ H8 ⟨lo, as, v8, rfl, s8, hlo, Aas⟩
  rw [show (((h : Nat) : Int) + 1 - 1).toNat = h by omega] at Aas
  have hfew := oth_few hk1 hk3 h1 h2
  have hal : as.length ≤ 300 := by rw [Aas.1]; exact hfew
  have A8 := A6.same s8
  have hl8 := s8 _ _ hl6
  clear A6 hl6 hlo6 s8
  -- the looks
  refine ⟨_, rfl, lo, rfl, ⟨_, SqL.of hlo⟩, fun D nD => ?_⟩
  refine lc_it (walk_list (K := K) (a := lo) (xs := as.map V.ref)) (fun j H5 => ∃ os : List (Option Nat), Same H8 H5 ∧ H5 D = some (.lst (os.map oN)) ∧ Looks T k L ((oth k h).take j) os)
    ⟨[], same_new nD _, upd_same, ⟨rfl, fun i p o e => by simp at e⟩⟩ (fun j H5 _ q0 => ?_) (fun j x H5 H6 hj q0 yl => ?_) (fun H9 q0 => ?_)
  · obtain ⟨_, s7, _, _⟩ := q0
    exact SqL.of (s7 _ _ hlo)
  · obtain ⟨os, s7, hD, lk⟩ := q0
    obtain ⟨rfl, hv⟩ := yl
    rw [List.length_map] at hj
    rw [List.getElem?_map, List.getElem?_eq_getElem hj] at hv
    obtain rfl : V.ref as[j] = x := Option.some.inj hv
    have hj2 : j < (oth k h).length := by rw [← Aas.1]; exact hj
    obtain ⟨r1, e1, A1⟩ := Aas.2 j _ _ (List.getElem?_eq_getElem hj2) (List.getElem?_eq_getElem hj)
    obtain ⟨_, okj, _⟩ := oth_good hk1 hk3 h1 h2 (List.getElem_mem hj2)
    have etk : (oth k h).take (j + 1) = (oth k h).take j ++ [(oth k h)[j]] := by
      rw [List.take_add_one, List.getElem?_eq_getElem hj2]
      rfl
    rw [etk]
    generalize (oth k h)[j] = pj at A1 okj ⊢
    have hol : os.length ≤ 300 := by
      rw [lk.len, List.length_take]
      omega
    refine ⟨rfl, tYes_if ⟨_, rfl, _, rfl, _, rfl, t, rr, e, as[j], r1, e1, l, T, tbOf pj, k, n, pj.1.length, allT k L, rfl, A8.same s7, A1.same s7, O.bok, okj.bok, s7 _ _ hl8, hLw, by omega, fun o H6 fo s6 => ?_⟩⟩
    refine ⟨_, s6 _ _ hD, by rw [List.length_map]; exact small1000 (by omega), os ++ [o], fun b u eb => ?_, by rw [upd_same, List.map_append]; rfl, lk.snoc fo⟩
    rw [upd_ne (ne_of_none eb nD)]
    exact s6 _ _ (s7 _ _ eb)
  obtain ⟨os, s9, hso, lk⟩ := q0
  rw [List.length_map, List.take_of_length_le (by rw [Aas.1]; exact Nat.le_refl _)] at lk
  have hlo9 := s9 _ _ hlo
  have Aas9 : AllAt (TbAt K) H9 (oth k h) as := Aas.mono fun _ _ h => h.mono (SM.of s9)
  have A9 := A8.same s9
  have hl9 := s9 _ _ hl8
  have hol : os.length ≤ 300 := by rw [lk.len]; exact hfew
  clear A8 hl8 Aas hlo s9 nD
  -- the places
  refine ⟨_, rfl, D, rfl, ⟨_, SqL.of hso⟩, fun D2 nD2 => ?_⟩
  refine lc_it (walk_list (K := K) (a := D) (xs := os.map oN)) (fun j H5 => Same H9 H5 ∧ H5 D2 = some (.lst ((plcs (os.take j)).map nV)))
    ⟨same_new nD2 _, upd_same⟩ (fun j H5 _ q0 => SqL.of (q0.1 _ _ hso)) (fun j x H5 H6 hj q0 yl => ?_) (fun H10 q0 => ?_)
  · obtain ⟨s7, hD2⟩ := q0
    obtain ⟨rfl, hv⟩ := yl
    rw [List.length_map] at hj
    have eo := List.getElem?_eq_getElem hj
    rw [List.getElem?_map, eo] at hv
    obtain rfl : oN os[j] = x := Option.some.inj hv
    rw [plcs_take eo]
    have hpl : (plcs (os.take j)).length ≤ 300 := by
      have := plcs_len (os := os.take j)
      rw [List.length_take] at this
      omega
    generalize os[j] = o
    cases o with
    | none =>
      refine ⟨rfl, _, rfl, rfl, false, rfl, iteF ⟨s7, ?_⟩⟩
      rw [hD2]
      simp
    | some i =>
      refine ⟨rfl, _, rfl, rfl, true, rfl, iteT ⟨_, rfl, _, hD2, by rw [List.length_map]; exact small1000 (by omega), fun b u eb => ?_, ?_⟩⟩
      · rw [upd_ne (ne_of_none eb nD2)]
        exact s7 _ _ eb
      · rw [upd_same, List.map_append]
        rfl
  obtain ⟨s10, hpl⟩ := q0
  rw [List.length_map, List.take_length] at hpl
  have hlo10 := s10 _ _ hlo9
  have hso10 := s10 _ _ hso
  have Aas10 : AllAt (TbAt K) H10 (oth k h) as := Aas9.mono fun _ _ h => h.mono (SM.of s10)
  have A10 := A9.same s10
  have hl10 := s10 _ _ hl9
  clear A9 hl9 Aas9 hlo9 s10 nD2 hso
  -- the greatest
  have hne := lk.ne O h1 h2 hc
  have epl : (plcs os).map nV = ((plcs os).map fun x => ((x : Nat) : Int)).map V.int := by
    rw [List.map_map]
    rfl
  rw [epl] at hpl
  refine ⟨_, rfl, D2, _, rfl, SqL.of hpl, by rw [List.length_map]; exact List.length_pos_iff.mpr hne, fun mx hmx hge => ?_⟩
  obtain ⟨M, hM, rfl⟩ := List.mem_map.mp hmx
  have hx : ∀ y, y ∈ plcs os → y ≤ M := fun y hy => by
    have := hge _ (List.mem_map.mpr ⟨y, hy, rfl⟩)
    omega
  refine ⟨_, _, rfl, rfl, ?_⟩
  have eM : V.int (((M : Nat) : Int) + 1) = nV (M + 1) := congrArg V.int (by omega)
  show gName 11 (V.int (((M : Nat) : Int) + 1)) _ _ _
  rw [eM]
  clear hmx hge hpl epl eM
  -- many
  refine ⟨_, rfl, _, _, rfl, rfl, ?_⟩
  by_cases c4 : 4 < n
  · refine ⟨true, congrArg V.bl (decide_eq_true (by omega)), iteT ⟨_, rfl, _, rfl, t, rr, e, T, k, n, h, rfl, A10, O, h1, h2, fun L' O' H' s11 hL => ⟨_, rfl, _, _, rfl, rfl, ?_⟩⟩⟩
    have := lk.le O h1 h2 hc hM hL
    show Q (V.bl (decide (((M + 1 : Nat) : Int) ≤ ((L' + 1 : Nat) : Int)))) H'
    rw [show decide (((M + 1 : Nat) : Int) ≤ ((L' + 1 : Nat) : Int)) = true from decide_eq_true (by omega)]
    exact q H'
  refine ⟨false, congrArg V.bl (decide_eq_false (by omega)), iteF ?_⟩
  have hn4 : n ≤ 4 := by omega
  have hnh : n + h ≤ L + 2 := by
    rw [hLt]
    exact txL_few hk3 h1 h2 hn4
  have full := fun {i : Nat} {p : List (List Nat) × List Bool} {o : Option Nat} => lk.full (i := i) (p := p) (o := o) O h1 h2 hc hnh
  refine ⟨_, rfl, _, rfl, t, rr, e, T, k, n, h, rfl, A10, O, h1, h2, fun fo ox rx ex L' Ox H11 s11 hfo hL AO => ?_⟩
  have eL : L' = M := lk.eq O h1 h2 hc hnh hM hx hL
  subst eL
  have hlo11 := s11 _ _ hlo10
  have hso11 := s11 _ _ hso10
  have Aas11 : AllAt (TbAt K) H11 (oth k h) as := Aas10.mono fun _ _ h => h.mono (SM.of s11)
  have A11 := A10.same s11
  have hl11 := s11 _ _ hl10
  obtain ⟨px, hpx, eOx⟩ := among_oth hk1 hk3 h1 h2 hL.1.1
  obtain ⟨_, okx, hlx⟩ := oth_good hk1 hk3 h1 h2 hpx
  rw [← eOx] at okx
  clear A10 hl10 Aas10 hlo10 s11 hso10
  -- the program's own answer
  refine ⟨_, rfl, _, rfl, t, rr, e, T, k, n, h, rfl, A11, O, h1, h2, fun L2 O2 H12 s12 hL2 => ?_⟩
  obtain rfl : L2 = L' := lk.eq O h1 h2 hc hnh hM hx hL2
  clear hL2 O2
  have hlo12 := s12 _ _ hlo11
  have hso12 := s12 _ _ hso11
  have Aas12 : AllAt (TbAt K) H12 (oth k h) as := Aas11.mono fun _ _ h => h.mono (SM.of s12)
  have A12 := A11.same s12
  have hl12 := s12 _ _ hl11
  have AO12 := AO.same s12
  obtain ⟨dfo, hfo⟩ := hfo
  have hfo12 := s12 _ _ hfo
  clear A11 hl11 Aas11 hlo11 s12 hso11 AO hfo
  refine ⟨_, rfl, rfl, false, congrArg (fun z => V.bl (!z)) (decide_eq_true rfl), iteF ?_⟩
  refine ⟨_, rfl, fo, C, dfo, _, _, rfl, hfo12, Mk0.T.cl, Mk0.T.nN, ef_number _ _, _, rfl, rfl, false, congrArg (fun z => V.bl (!z)) (decide_eq_true rfl), iteF ?_⟩
  refine ⟨_, rfl, fo, dfo, _, rfl, hfo12, ef_no _ _ (by decide +kernel) (by decide +kernel), _, rfl, _, rfl, fo, t, rr, e, ox, rx, ex, T, Ox, k, n, px.1.length, h, L2 + 1, rfl, ⟨dfo, hfo12⟩, A12, O, h1, h2, AO12, okx.bok, by omega, fun _ => okx, fun b H13 s13 hb _ => ?_⟩
  have hb : b = true := (hb hlx L2 Ox hL).mpr ⟨rfl, hL.1.2⟩
  subst hb
  refine ⟨true, true, rfl, rfl, false, rfl, iteF ?_⟩
  have hlo13 := s13 _ _ hlo12
  have hso13 := s13 _ _ hso12
  have Aas13 : AllAt (TbAt K) H13 (oth k h) as := Aas12.mono fun _ _ h => h.mono (SM.of s13)
  have A13 := A12.same s13
  have hl13 := s13 _ _ hl12
  have AO13 := AO12.same s13
  have hfo13 := s13 _ _ hfo12
  clear A12 hl12 Aas12 hlo12 s13 hso12 AO12 hfo12 hb
  -- each other table, its place
  refine ⟨_, rfl, _, rfl, lo, D, as.map V.ref, os.map oN, rfl, SqL.of hlo13, SqL.of hso13, by rw [List.length_map, List.length_map, Aas13.1, lk.len], by rw [List.length_map]; exact small1000 (by omega), fun z zs H14 nz s14 hzl hz hpr => ?_⟩
  refine ⟨_, rfl, z, _, rfl, SqL.of hz, fun y ny => ?_⟩
  have s15 := s14.trans (same_new ny (.lst (cutV (zs.map V.ref) none (some 60))))
  have hpr15 : PrsAt (upd H14 y (.lst (cutV (zs.map V.ref) none (some 60)))) (as.map V.ref) (os.map oN) zs := fun j q x y' e1 e2 e3 => same_new ny _ _ _ (hpr j q x y' e1 e2 e3)
  have hy15 : (upd H14 y (.lst (cutV (zs.map V.ref) none (some 60)))) y = some (.lst (cutV (zs.map V.ref) none (some 60))) := upd_same
  generalize upd H14 y (.lst (cutV (zs.map V.ref) none (some 60))) = H15 at s15 hpr15 hy15 ⊢
  have Aas15 : AllAt (TbAt K) H15 (oth k h) as := Aas13.mono fun _ _ h => h.mono (SM.of s15)
  have A15 := A13.same s15
  have hl15 := s15 _ _ hl13
  have AO15 := AO13.same s15
  have hfo15 := s15 _ _ hfo13
  clear A13 hl13 Aas13 hlo13 s14 s15 hso13 AO13 hfo13 hpr ny hz nz
  refine ⟨y, rfl, ⟨_, SqL.of hy15⟩, for_it (walk_list (K := K) (a := y) (xs := cutV (zs.map V.ref) none (some 60))) (fun j σ H2 => ∃ v13 v14 : Option V, σ = [some (.ref a), some (.ref d), some (nV k), some (nV h), some (.ref t), some (nV n), some (.ref l), some (.ref lo), v8, some (.ref D), some (.ref D2), some (nV (L2 + 1)), some (.ref fo), v13, v14, none] ∧ Same H15 H2)
    ⟨none, none, rfl, Same.refl _⟩ (fun j σ H2 _ h0 => ?_) ?_ ?_⟩
  · obtain ⟨_, _, _, s2⟩ := h0
    exact SqL.of (s2 _ _ hy15)
  · rintro j x σ H2 H3 hj ⟨v13, v14, rfl, s2⟩ ⟨rfl, hv⟩
    have hv := cut_get hv
    rw [List.getElem?_map] at hv
    cases ez : zs[j]? with
    | none => rw [ez] at hv; cases hv
    | some qz =>
    rw [ez] at hv
    obtain rfl : V.ref qz = x := Option.some.inj hv
    have hjz := (List.getElem?_eq_some_iff.mp ez).1
    rw [List.length_map] at hzl
    have hja : j < as.length := by omega
    have hjo : j < os.length := by rw [lk.len, ← Aas15.1]; exact hja
    have hjp : j < (oth k h).length := by rw [← lk.len]; exact hjo
    have ea := List.getElem?_eq_getElem hja
    have eo := List.getElem?_eq_getElem hjo
    have ep := List.getElem?_eq_getElem hjp
    generalize as[j] = aj at ea
    generalize os[j] = o at eo
    generalize (oth k h)[j] = pj at ep
    have hq := hpr15 j qz (.ref aj) (oN o) ez (by rw [List.getElem?_map, ea]; rfl) (by rw [List.getElem?_map, eo]; rfl)
    obtain ⟨r1, e1, A1⟩ := Aas15.2 j _ _ ep ea
    obtain ⟨_, okj, hlj⟩ := oth_good hk1 hk3 h1 h2 (List.mem_of_getElem? ep)
    have fj := full ep eo
    refine ⟨qz, _, rfl, .inl (.inl (s2 _ _ hq)), rfl, _, _, rfl, _, _, rfl, rfl, ?_⟩
    refine ⟨_, rfl, _, rfl, ask_read fun xo dxo H4 s4 hxo => ?_⟩
    have s24 := s2.trans s4
    refine ⟨_, rfl, _, rfl, xo, t, rr, e, aj, r1, e1, T, tbOf pj, k, n, pj.1.length, h, L2 + 1, rfl, ⟨dxo, hxo⟩, A15.same s24, O, h1, h2, A1.same s24, okj.bok, by omega, fun _ => okj, fun b H5 s5 hb _ => ?_⟩
    have hb := hb hlj L2 Ox hL
    have s25 := s24.trans s5
    cases o with
    | none =>
      have hb0 : b = false := by
        cases b with
        | false => rfl
        | true => cases fj.uniq (hb.mp rfl).2
      subst hb0
      refine ⟨_, rfl, _, rfl, _, _, rfl, rfl, rfl, false, false, congrArg (fun z => [V.bl false, V.bl z]) (decide_eq_false (fun z => nomatch z)), _, rfl, iteF ?_⟩
      exact ⟨_, rfl, rfl, false, rfl, iteF (iteF ⟨_, _, rfl, s25⟩)⟩
    | some i =>
      have hb0 : b = decide (i = L2) := by
        rw [Bool.eq_iff_iff, decide_eq_true_eq, hb]
        constructor
        · intro z
          have := fj.uniq z.2
          exact Option.some.inj this
        · rintro rfl
          exact ⟨rfl, fj⟩
      subst hb0
      have ec : decide (oN (some i) = V.int (((L2 + 1 : Nat) : Int) - 1)) = decide (i = L2) := by
        rw [Bool.eq_iff_iff, decide_eq_true_eq, decide_eq_true_eq]
        constructor
        · intro z
          have := V.int.inj z
          omega
        · rintro rfl
          exact congrArg V.int (by omega)
      refine ⟨_, rfl, _, rfl, _, _, rfl, rfl, rfl, decide (i = L2), decide (i = L2), congrArg (fun z => [V.bl (decide (i = L2)), V.bl z]) ec, _, rfl, ?_⟩
      rw [show decide (decide (i = L2) = decide (i = L2)) = true from decide_eq_true rfl]
      refine iteF ⟨_, rfl, rfl, true, rfl, iteT ?_⟩
      have ei : V.int (((i : Nat) : Int) + 1) = nV (i + 1) := congrArg V.int (by omega)
      refine ⟨_, rfl, _, _, rfl, rfl, _, rfl, ask_read fun x6 d6 H6 s6 hx6 => ?_⟩
      have hx6 : H6 x6 = some (.ins C d6 (ef (V.int (((i : Nat) : Int) + 1)) (.ref aj))) := hx6
      rw [ei] at hx6
      have s26 := s25.trans s6
      refine ⟨_, rfl, _, rfl, x6, t, rr, e, aj, r1, e1, T, tbOf pj, k, n, pj.1.length, h, i + 1, rfl, ⟨d6, hx6⟩, A15.same s26, O, h1, h2, A1.same s26, okj.bok, by omega, fun _ => okj, fun b7 H7 s7 hb7 _ => ?_⟩
      have hb7 := hb7 hlj L2 Ox hL
      have s27 := s26.trans s7
      have hb0 : b7 = decide (i = L2) := by
        rw [Bool.eq_iff_iff, decide_eq_true_eq, hb7]
        constructor
        · intro z
          omega
        · rintro rfl
          exact ⟨rfl, fj⟩
      subst hb0
      have ec2 : decide (V.int (((i : Nat) : Int) + 1) = nV (L2 + 1)) = decide (i = L2) := by
        rw [Bool.eq_iff_iff, decide_eq_true_eq, decide_eq_true_eq]
        constructor
        · intro z
          have := V.int.inj z
          omega
        · rintro rfl
          exact congrArg V.int (by omega)
      refine ⟨_, rfl, _, _, rfl, rfl, _, rfl, rfl, decide (i = L2), decide (i = L2), congrArg (fun z => [V.bl (decide (i = L2)), V.bl z]) ec2, _, rfl, ?_⟩
      rw [show decide (decide (i = L2) = decide (i = L2)) = true from decide_eq_true rfl]
      exact iteF ⟨_, _, rfl, s27⟩
  · rintro σ H16 ⟨v13, v14, rfl, s16⟩
    have A16 := A15.same s16
    have hl16 := s16 _ _ hl15
    have AO16 := AO15.same s16
    have hfo16 := s16 _ _ hfo15
    clear A15 hl15 Aas15 AO15 hfo15 s16 hpr15 hy15
    -- one more
    have e2 : V.int (((L2 + 1 : Nat) : Int) + 1) = nV (L2 + 2) := congrArg V.int (by omega)
    refine ⟨_, rfl, _, _, rfl, rfl, _, rfl, fo, C, dfo, _, _, rfl, hfo16, Mk0.T.cl, Mk0.T.nO, ef_other _ _, ask_read fun x6 d6 H6 s6 hx6 => ?_⟩
    have hx6 : H6 x6 = some (.ins C d6 (ef (V.int (((L2 + 1 : Nat) : Int) + 1)) (.ref ox))) := hx6
    rw [e2] at hx6
    refine ⟨_, rfl, _, rfl, x6, t, rr, e, ox, rx, ex, T, Ox, k, n, px.1.length, h, L2 + 2, rfl, ⟨d6, hx6⟩, A16.same s6, O, h1, h2, AO16.same s6, okx.bok, by omega, fun _ => okx, fun b H7 s7 hb _ => ?_⟩
    have hb : b = false := by
      cases b with
      | false => rfl
      | true =>
        have := ((hb hlx L2 Ox hL).mp rfl).1
        omega
    subst hb
    refine ⟨false, false, rfl, rfl, false, rfl, iteF ?_⟩
    have s67 := s6.trans s7
    have A17 := A16.same s67
    have hl17 := s67 _ _ hl16
    clear A16 hl16 AO16 hfo16 s67 hx6 s7 s6
    -- size and high
    show tNext _ _ _
    apply cut1 (G := ¬ (k = 3 ∧ h = 2))
    · intro hC
      by_cases ck : k = 3
      · by_cases ch : h = 2
        · exact ⟨_, rfl, rfl, true, congrArg V.bl (decide_eq_true (congrArg V.int (by omega))), iteT ⟨_, rfl, rfl, true, congrArg V.bl (decide_eq_true (congrArg V.int (by omega))), iteT (q _)⟩⟩
        · exact ⟨_, rfl, rfl, true, congrArg V.bl (decide_eq_true (congrArg V.int (by omega))), iteT ⟨_, rfl, rfl, false, congrArg V.bl (decide_eq_false fun z => ch (by have := V.int.inj z; omega)), iteF (hC fun z => ch z.2)⟩⟩
      · exact ⟨_, rfl, rfl, false, congrArg V.bl (decide_eq_false fun z => ck (by have := V.int.inj z; omega)), iteF (iteF (hC fun z => ck z.1))⟩
    intro hkh
    -- tables with a stand more
    have e1h : V.int (((h : Nat) : Int) + 1) = nV (h + 1) := congrArg V.int (by omega)
    refine ⟨_, rfl, _, rfl, _, _, rfl, rfl, k, h + 1, congrArg (fun z => [nV k, z]) e1h, by omega, fun ls bs H8 s8 hls Abs => ⟨ls, _, rfl, SqL.of hls, fun p ys np hys => ?_⟩⟩
    have s9 := s8.trans (same_new np (.lst ys))
    have Abs9 : AllAt (TbAt K) (upd H8 p (.lst ys)) (atUp (texts (h + 1) k) (h + 1)) bs := Abs.mono fun _ _ h => h.mono (SM.of (same_new np _))
    have hp9 : (upd H8 p (.lst ys)) p = some (.lst ys) := upd_same
    generalize upd H8 p (.lst ys) = H9 at s9 Abs9 hp9 ⊢
    have A18 := A17.same s9
    have hl18 := s9 _ _ hl17
    clear A17 hl17 np Abs hls s8
    refine ⟨p, rfl, ⟨_, SqL.of hp9⟩, for_it (walk_list (K := K) (a := p) (xs := ys)) (fun j σ H2 => ∃ v13 : Option V, σ = [some (.ref a), some (.ref d), some (nV k), some (nV h), some (.ref t), some (nV n), some (.ref l), some (.ref lo), v8, some (.ref D), some (.ref D2), some (nV (L2 + 1)), some (.ref fo), v13, v14, none] ∧ Same H9 H2)
      ⟨v13, rfl, Same.refl _⟩ (fun j σ H2 _ h0 => ?_) ?_ ?_⟩
    · obtain ⟨_, _, s2⟩ := h0
      exact SqL.of (s2 _ _ hp9)
    · rintro j x σ H2 H3 hj ⟨v13, rfl, s2⟩ ⟨rfl, hv⟩
      have hx := hys x (List.mem_of_getElem? hv)
      obtain ⟨i, hi⟩ := List.getElem?_of_mem hx
      rw [List.getElem?_map] at hi
      cases eb : bs[i]? with
      | none => rw [eb] at hi; cases hi
      | some bj =>
      rw [eb] at hi
      obtain rfl : V.ref bj = x := Option.some.inj hi
      have hib := (List.getElem?_eq_some_iff.mp eb).1
      have hia : i < (atUp (texts (h + 1) k) (h + 1)).length := by rw [← Abs9.1]; exact hib
      obtain ⟨r1, e1, A1⟩ := Abs9.2 i _ _ (List.getElem?_eq_getElem hia) eb
      have bok := atUp_bok hk1 hk3 (show 1 ≤ h + 1 by omega) (show h + 1 ≤ 3 by omega) (List.getElem_mem hia)
      generalize (atUp (texts (h + 1) k) (h + 1))[i] = pj at A1 bok
      refine ⟨_, rfl, bj, r1, e1, tbOf pj, k, h + 1, rfl, A1.same s2, bok, fun H4 s4 => ⟨_, rfl, ?_⟩⟩
      have s24 := s2.trans s4
      by_cases c : ctB (tbOf pj).rows = true
      · rw [c]
        refine iteT ⟨_, rfl, _, rfl, _, rfl, t, rr, e, bj, r1, e1, l, T, tbOf pj, k, n, h + 1, allT k L, rfl, A18.same s24, A1.same s24, O.bok, bok, s24 _ _ hl18, hLw, by omega, fun o H5 _ s5 => ?_⟩
        have s25 := s24.trans s5
        obtain ⟨b2, hb2⟩ : ∃ b2, decide (oN o = V.int (((L2 + 1 : Nat) : Int) - 1)) = b2 := ⟨_, rfl⟩
        refine ⟨_, rfl, _, _, rfl, rfl, by cases o <;> rfl, b2, congrArg V.bl hb2, ?_⟩
        cases b2 with
        | false => exact iteF ⟨_, rfl, s25⟩
        | true =>
          refine iteT ⟨_, rfl, _, rfl, ask_read fun x6 d6 H6 s6 hx6 => ?_⟩
          have s26 := s25.trans s6
          refine ⟨_, rfl, _, rfl, x6, t, rr, e, bj, r1, e1, T, tbOf pj, k, n, h + 1, h, L2 + 1, rfl, ⟨d6, hx6⟩, A18.same s26, O, h1, h2, A1.same s26, bok, by omega, fun z => by omega, fun b H7 s7 _ hb => ?_⟩
          have hb : b = false := hb (by omega)
          subst hb
          exact ⟨false, false, rfl, rfl, false, rfl, iteF ⟨_, rfl, s26.trans s7⟩⟩
      · rw [Bool.eq_false_iff.mpr c]
        exact iteF (iteF ⟨_, rfl, s24⟩)
    · rintro σ H10 ⟨v13, rfl, _⟩
      exact q _
end
end Own
namespace Own
open PySem PySem.Spec PyProof.Rows L2
theorem Got.of {P : Program} {w : World} {K : PySem.W.Frag} {mg : Str → Option Value} {base : Heap} {CX : CXT} {k : Nat} {x : Str} {ps : List Str} {sp : Sp} {f : Addr} {fd : FuncData} (F : FnOk P w K mg base CX k f fd ps sp) (b : Binds K fd ps []) (kp : PySem.W.keepIn K (.ref f) = true) (m : mg x = some (.ref f)) : Got P w K mg base CX k x ps sp := ⟨f, fd, F, b, kp, m⟩
/-- a def as the module's top has left it -/
structure DefK (K : PySem.W.Frag) (x : Str) (st : Stmt) (f : Addr) (fd : FuncData) : Prop where
  a : PySem.W.nsIn K mainGlobals x = some (some (.ref f))
  F : Fun K x x st f fd
theorem DefK.of {K : PySem.W.Frag} {x : Str} {st : Stmt} {f : Addr} {od an : Option Addr} {sl : Array (Option Value)} {oc kV dc pm cd ct : Value}
    (a : PySem.W.nsIn K mainGlobals x = some (some (.ref f))) (l : K.lookup f = some ⟨oc, od, .func (PySem.W.fnOf x x (defArgs st) (defBody st) (defScope st) .none kV dc pm an cd ct), sl⟩) (c : PySem.W.codeIn K cd x = true) (k : PySem.W.keepIn K (.ref f) = true) :
    DefK K x st f (PySem.W.fnOf x x (defArgs st) (defBody st) (defScope st) .none kV dc pm an cd ct) := ⟨a, fun_mk l c k⟩
/-- .. a method -/
structure MethK (K : PySem.W.Frag) (C : Addr) (x q : Str) (st : Stmt) (f : Addr) (fd : FuncData) : Prop where
  a : Meth K C x f
  F : Fun K x q st f fd
theorem MethK.of {K : PySem.W.Frag} {C : Addr} {x q : Str} {st : Stmt} {f : Addr} {od an : Option Addr} {sl : Array (Option Value)} {oc kV dc pm cd ct : Value}
    (a : PySem.W.findIn K (.ref C) x = some (some (.ref f))) (i : PySem.W.isFn K (.ref f) = true) (l : K.lookup f = some ⟨oc, od, .func (PySem.W.fnOf x q (defArgs st) (defBody st) (defScope st) .none kV dc pm an cd ct), sl⟩) (c : PySem.W.codeIn K cd q = true) (k : PySem.W.keepIn K (.ref f) = true) :
    MethK K C x q st f (PySem.W.fnOf x q (defArgs st) (defBody st) (defScope st) .none kV dc pm an cd ct) := ⟨⟨a, i, k⟩, fun_mk l c k⟩
/-- what the module holds beside its defs -/
theorem bt_mk {K : PySem.W.Frag} {h : Heap} {mg : Str → Option Value} (X : K.In h) (G : h.Ns mainGlobals mg)
    (z0 : PySem.W.nsIn K mainGlobals "len" = some none) (z1 : PySem.W.nsIn K mainGlobals "isinstance" = some none) (z2 : PySem.W.nsIn K mainGlobals "sum" = some none) (z3 : PySem.W.nsIn K mainGlobals "max" = some none) (z4 : PySem.W.nsIn K mainGlobals "min" = some none) (z5 : PySem.W.nsIn K mainGlobals "all" = some none) (z6 : PySem.W.nsIn K mainGlobals "any" = some none) (z7 : PySem.W.nsIn K mainGlobals "sorted" = some none) (z8 : PySem.W.nsIn K mainGlobals "list" = some none) (z9 : PySem.W.nsIn K mainGlobals "tuple" = some none) (z10 : PySem.W.nsIn K mainGlobals "int" = some none) (z11 : PySem.W.nsIn K mainGlobals "set" = some none) (z12 : PySem.W.nsIn K mainGlobals "bool" = some none) (z13 : PySem.W.nsIn K mainGlobals "str" = some none) (z14 : PySem.W.nsIn K mainGlobals "range" = some none) (z15 : PySem.W.nsIn K mainGlobals "enumerate" = some none)
    (y0 : ∃ t, PySem.W.nsIn K mainGlobals "LETTERS" = some (some (.str "abc" t))) (y1 : ∃ t, PySem.W.nsIn K mainGlobals "MOST_STANDS" = some (some (.int 40 t))) (y2 : ∃ t, PySem.W.nsIn K mainGlobals "MOST_STANDS_LEARNT" = some (some (.int 4 t))) (y3 : ∃ t, PySem.W.nsIn K mainGlobals "MOST_PRODUCT" = some (some (.int 6 t))) : Bt mg :=
  ⟨PySem.W.mg_none_of X G z0, PySem.W.mg_none_of X G z1, PySem.W.mg_none_of X G z2, PySem.W.mg_none_of X G z3, PySem.W.mg_none_of X G z4, PySem.W.mg_none_of X G z5, PySem.W.mg_none_of X G z6, PySem.W.mg_none_of X G z7, PySem.W.mg_none_of X G z8, PySem.W.mg_none_of X G z9, PySem.W.mg_none_of X G z10, PySem.W.mg_none_of X G z11, PySem.W.mg_none_of X G z12, PySem.W.mg_none_of X G z13, PySem.W.mg_none_of X G z14, PySem.W.mg_none_of X G z15, y0.elim fun t h => ⟨t, PySem.W.mg_of X G h⟩, y1.elim fun t h => ⟨t, PySem.W.mg_of X G h⟩, y2.elim fun t h => ⟨t, PySem.W.mg_of X G h⟩, y3.elim fun t h => ⟨t, PySem.W.mg_of X G h⟩⟩
section
variable {P : Program} {w : World} {K : PySem.W.Frag} {mg : Str → Option Value} {base h : Heap}
set_option maxHeartbeats 8000000 in
theorem defs_ok (X : K.In h) (G : h.Ns mainGlobals mg) (B : Bt mg) {CE : Addr} (TE : EnT K mg CE) (mkE : PySem.W.makesIn K CE = true) (kcE : PySem.W.keepIn K (.ref CE) = true) (Bz : mg "zip" = none)
    {f0 : Addr} {fd0 : FuncData} (D0 : DefK K "_law_cell_at" s_law_cell_at f0 fd0)
    {f1 : Addr} {fd1 : FuncData} (D1 : DefK K "_law_draw" s_law_draw f1 fd1)
    {f2 : Addr} {fd2 : FuncData} (D2 : DefK K "_law_number" s_law_number f2 fd2)
    {f3 : Addr} {fd3 : FuncData} (D3 : DefK K "_law_next" s_law_next f3 fd3)
    {f4 : Addr} {fd4 : FuncData} (D4 : DefK K "_law_pick" s_law_pick f4 fd4)
    {f5 : Addr} {fd5 : FuncData} (D5 : DefK K "_law_letters" s_law_letters f5 fd5)
    {f6 : Addr} {fd6 : FuncData} (D6 : DefK K "_law_many" s_law_many f6 fd6)
    {f7 : Addr} {fd7 : FuncData} (D7 : DefK K "_law_grown" s_law_grown f7 fd7)
    {f8 : Addr} {fd8 : FuncData} (D8 : DefK K "_law_inner" s_law_inner f8 fd8)
    {f9 : Addr} {fd9 : FuncData} (D9 : DefK K "_law_parts" s_law_parts f9 fd9)
    {f10 : Addr} {fd10 : FuncData} (D10 : DefK K "_law_weight" s_law_weight f10 fd10)
    {f11 : Addr} {fd11 : FuncData} (D11 : DefK K "_law_pattern" s_law_pattern f11 fd11)
    {f12 : Addr} {fd12 : FuncData} (D12 : DefK K "_law_node" s_law_node f12 fd12)
    {f13 : Addr} {fd13 : FuncData} (D13 : DefK K "_law_wire_again" s_law_wire_again f13 fd13)
    {f14 : Addr} {fd14 : FuncData} (D14 : DefK K "_law_wire" s_law_wire f14 fd14)
    {f15 : Addr} {fd15 : FuncData} (D15 : DefK K "_law_still" s_law_still f15 fd15)
    {f16 : Addr} {fd16 : FuncData} (D16 : DefK K "_law_step" s_law_step f16 fd16)
    {f17 : Addr} {fd17 : FuncData} (D17 : DefK K "_law_classes" s_law_classes f17 fd17)
    {f18 : Addr} {fd18 : FuncData} (D18 : DefK K "_law_least" s_law_least f18 fd18)
    {f19 : Addr} {fd19 : FuncData} (D19 : DefK K "_law_table" s_law_table f19 fd19)
    {f20 : Addr} {fd20 : FuncData} (D20 : DefK K "_law_lead" s_law_lead f20 fd20)
    {f21 : Addr} {fd21 : FuncData} (D21 : DefK K "_law_texts" s_law_texts f21 fd21)
    {f22 : Addr} {fd22 : FuncData} (D22 : DefK K "is_integer" s_is_integer f22 fd22)
    {f23 : Addr} {fd23 : FuncData} (D23 : DefK K "is_between" s_is_between f23 fd23)
    {f24 : Addr} {fd24 : FuncData} (D24 : DefK K "is_tuple_of" s_is_tuple_of f24 fd24)
    {f25 : Addr} {fd25 : FuncData} (D25 : DefK K "table_size" s_table_size f25 fd25)
    {f26 U26 : Addr} {oc26 kV26 dc26 pm26 cd26 ct26 oT26 v26 : Value} {od26 an26 dT26 : Option Addr} {sl26 slT26 : Array (Option Value)} {nT26 : Nat}
    (a26 : PySem.W.nsIn K mainGlobals "first_texts" = some (some (.ref f26))) (l26 : K.lookup f26 = some ⟨oc26, od26, .func (PySem.W.fnOf "first_texts" "first_texts" (defArgs s_first_texts) (defBody s_first_texts) (defScope s_first_texts) (.ref U26) kV26 dc26 pm26 an26 cd26 ct26), sl26⟩) (c26 : PySem.W.codeIn K cd26 "first_texts" = true) (k26 : PySem.W.keepIn K (.ref f26) = true)
    (lT26 : K.lookup U26 = some ⟨oT26, dT26, .seq #[v26] nT26, slT26⟩) (vT26 : RelV (.int 0) v26)
    {f27 : Addr} {fd27 : FuncData} (D27 : DefK K "_are_rows" s_are_rows f27 fd27)
    {f28 : Addr} {fd28 : FuncData} (D28 : DefK K "is_table" s_is_table f28 fd28)
    {f29 : Addr} {fd29 : FuncData} (D29 : DefK K "check_table" s_check_table f29 fd29)
    {f30 : Addr} {fd30 : FuncData} (D30 : DefK K "_check_most" s_check_most f30 fd30)
    {f31 : Addr} {fd31 : FuncData} (D31 : DefK K "_difference" s_difference f31 fd31)
    {f32 : Addr} {fd32 : FuncData} (D32 : DefK K "_all_rows" s_all_rows f32 fd32)
    {f33 : Addr} {fd33 : FuncData} (D33 : DefK K "_last_difference" s_last_difference f33 fd33)
    {f34 : Addr} {fd34 : FuncData} (D34 : DefK K "_check_limits" s_check_limits f34 fd34)
    {f35 : Addr} {fd35 : FuncData} (D35 : DefK K "_law_says" s_law_says f35 fd35)
    {f36 : Addr} {fd36 : FuncData} (D36 : DefK K "_law_index" s_law_index f36 fd36)
    {f37 : Addr} {fd37 : FuncData} (D37 : DefK K "_law_come_to" s_law_come_to f37 fd37)
    {f38 : Addr} {fd38 : FuncData} (D38 : DefK K "_law_all_tables" s_law_all_tables f38 fd38)
    {f39 : Addr} {fd39 : FuncData} (D39 : MethK K CE "__init__" "Enough.__init__" s_einit f39 fd39)
    {f40 : Addr} {fd40 : FuncData} (D40 : DefK K "judge_enough" s_judge_enough f40 fd40)
    {f41 : Addr} {fd41 : FuncData} (D41 : DefK K "enough" s_enough f41 fd41)
    {f42 : Addr} {fd42 : FuncData} (D42 : DefK K "_is_small_table" s_is_small_table f42 fd42)
    {f43 : Addr} {fd43 : FuncData} (D43 : MethK K CE "shows" "Enough.shows" s_eshows f43 fd43)
    {f44 : Addr} {fd44 : FuncData} (D44 : DefK K "law" s_law f44 fd44)
    : Binds K fd44 ["script"] [] ∧ FnOk P w K mg base CX0 11 f44 fd44 ["script"] (sp_law K) := by
  have b0 := D0.F.binds (ps := ["script", "k"]) fun _ _ _ _ _ _ us hl => match us, hl with | [_, _], _ => rfl
  have C_law_cell_at := Got.of (x := "_law_cell_at") (ok_law_cell_at (P := P) (w := w) (base := base) D0.F B) b0 D0.F.kp (PySem.W.mg_of X G D0.a)
  have b1 := D1.F.binds (ps := ["cell", "k", "bound"]) fun _ _ _ _ _ _ us hl => match us, hl with | [_, _, _], _ => rfl
  have C_law_draw := Got.of (x := "_law_draw") (ok_law_draw (P := P) (w := w) (base := base) D1.F B) b1 D1.F.kp (PySem.W.mg_of X G D1.a)
  have b2 := D2.F.binds (ps := ["cell", "k", "bound"]) fun _ _ _ _ _ _ us hl => match us, hl with | [_, _, _], _ => rfl
  have C_law_number := Got.of (x := "_law_number") (ok_law_number (P := P) (w := w) (base := base) D2.F B C_law_draw) b2 D2.F.kp (PySem.W.mg_of X G D2.a)
  have b3 := D3.F.binds (ps := ["draw", "bound"]) fun _ _ _ _ _ _ us hl => match us, hl with | [_, _], _ => rfl
  have C_law_next := Got.of (x := "_law_next") (ok_law_next (P := P) (w := w) (base := base) D3.F B C_law_cell_at C_law_number) b3 D3.F.kp (PySem.W.mg_of X G D3.a)
  have b4 := D4.F.binds (ps := ["draw", "things"]) fun _ _ _ _ _ _ us hl => match us, hl with | [_, _], _ => rfl
  have C_law_pick := Got.of (x := "_law_pick") (ok_law_pick (P := P) (w := w) (base := base) D4.F B C_law_next) b4 D4.F.kp (PySem.W.mg_of X G D4.a)
  have b5 := D5.F.binds (ps := ["draw", "size"]) fun _ _ _ _ _ _ us hl => match us, hl with | [_, _], _ => rfl
  have C_law_letters := Got.of (x := "_law_letters") (ok_law_letters (P := P) (w := w) (base := base) D5.F B C_law_next) b5 D5.F.kp (PySem.W.mg_of X G D5.a)
  have b6 := D6.F.binds (ps := ["draw", "part"]) fun _ _ _ _ _ _ us hl => match us, hl with | [_, _], _ => rfl
  have C_law_many := Got.of (x := "_law_many") (ok_law_many (P := P) (w := w) (base := base) D6.F B C_law_pick) b6 D6.F.kp (PySem.W.mg_of X G D6.a)
  have b7 := D7.F.binds (ps := ["draw", "size", "deep"]) fun _ _ _ _ _ _ us hl => match us, hl with | [_, _, _], _ => rfl
  have C_law_grown : Got P w K mg base CX0 9 "_law_grown" ["draw", "size", "deep"] (sp_law_grown K 4) := Got.of (ok_law_grown (P := P) (w := w) (base := base) D7.F B C_law_next C_law_pick C_law_letters C_law_many (fun k sp g => Got.of g b7 D7.F.kp (PySem.W.mg_of X G D7.a)) 4) b7 D7.F.kp (PySem.W.mg_of X G D7.a)
  have b8 := D8.F.binds (ps := ["pattern"]) fun _ _ _ _ _ _ us hl => match us, hl with | [_], _ => rfl
  have C_law_inner := Got.of (x := "_law_inner") (ok_law_inner (P := P) (w := w) (base := base) D8.F B) b8 D8.F.kp (PySem.W.mg_of X G D8.a)
  have b9 := D9.F.binds (ps := ["pattern"]) fun _ _ _ _ _ _ us hl => match us, hl with | [_], _ => rfl
  have C_law_parts : Got P w K mg base CX0 5 "_law_parts" ["pattern"] (sp_law_parts K 4) := Got.of (ok_law_parts (P := P) (w := w) (base := base) D9.F B C_law_inner (fun k sp g => Got.of g b9 D9.F.kp (PySem.W.mg_of X G D9.a)) 4) b9 D9.F.kp (PySem.W.mg_of X G D9.a)
  have b10 := D10.F.binds (ps := ["pattern"]) fun _ _ _ _ _ _ us hl => match us, hl with | [_], _ => rfl
  have C_law_weight : Got P w K mg base CX0 5 "_law_weight" ["pattern"] (sp_law_weight K 4) := Got.of (ok_law_weight (P := P) (w := w) (base := base) D10.F B C_law_inner (fun k sp g => Got.of g b10 D10.F.kp (PySem.W.mg_of X G D10.a)) 4) b10 D10.F.kp (PySem.W.mg_of X G D10.a)
  have b11 := D11.F.binds (ps := ["draw", "size", "most"]) fun _ _ _ _ _ _ us hl => match us, hl with | [_, _, _], _ => rfl
  have C_law_pattern := Got.of (x := "_law_pattern") (ok_law_pattern (P := P) (w := w) (base := base) D11.F B C_law_grown C_law_letters C_law_parts C_law_weight) b11 D11.F.kp (PySem.W.mg_of X G D11.a)
  have b12 := D12.F.binds (ps := ["net"]) fun _ _ _ _ _ _ us hl => match us, hl with | [_], _ => rfl
  have C_law_node := Got.of (x := "_law_node") (ok_law_node (P := P) (w := w) (base := base) D12.F B) b12 D12.F.kp (PySem.W.mg_of X G D12.a)
  have b13 := D13.F.binds (ps := ["net", "pattern", "begin"]) fun _ _ _ _ _ _ us hl => match us, hl with | [_, _, _], _ => rfl
  have b14 := D14.F.binds (ps := ["net", "pattern", "begin"]) fun _ _ _ _ _ _ us hl => match us, hl with | [_, _, _], _ => rfl
  have C_law_wire : Got P w K mg base CX0 9 "_law_wire" ["net", "pattern", "begin"] (sp_law_wire K 4) := Got.of (ok_law_wire (P := P) (w := w) (base := base) D14.F D13.F B C_law_node (fun k sp g => Got.of g b14 D14.F.kp (PySem.W.mg_of X G D14.a)) (fun k sp g => Got.of g b13 D13.F.kp (PySem.W.mg_of X G D13.a)) 4) b14 D14.F.kp (PySem.W.mg_of X G D14.a)
  have b15 := D15.F.binds (ps := ["net", "nodes"]) fun _ _ _ _ _ _ us hl => match us, hl with | [_, _], _ => rfl
  have C_law_still := Got.of (x := "_law_still") (ok_law_still (P := P) (w := w) (base := base) D15.F B) b15 D15.F.kp (PySem.W.mg_of X G D15.a)
  have b16 := D16.F.binds (ps := ["net", "nodes", "letter"]) fun _ _ _ _ _ _ us hl => match us, hl with | [_, _, _], _ => rfl
  have C_law_step := Got.of (x := "_law_step") (ok_law_step (P := P) (w := w) (base := base) D16.F B C_law_still) b16 D16.F.kp (PySem.W.mg_of X G D16.a)
  have b17 := D17.F.binds (ps := ["things"]) fun _ _ _ _ _ _ us hl => match us, hl with | [_], _ => rfl
  have C_law_classes := Got.of (x := "_law_classes") (ok_law_classes (P := P) (w := w) (base := base) D17.F B) b17 D17.F.kp (PySem.W.mg_of X G D17.a)
  have b18 := D18.F.binds (ps := ["rows", "marks"]) fun _ _ _ _ _ _ us hl => match us, hl with | [_, _], _ => rfl
  have C_law_least := Got.of (x := "_law_least") (ok_law_least (P := P) (w := w) (base := base) D18.F B C_law_classes) b18 D18.F.kp (PySem.W.mg_of X G D18.a)
  have b19 := D19.F.binds (ps := ["size", "patterns", "is_rules"]) fun _ _ _ _ _ _ us hl => match us, hl with | [_, _, _], _ => rfl
  have C_law_table := Got.of (x := "_law_table") (ok_law_table (P := P) (w := w) (base := base) D19.F B C_law_node C_law_wire C_law_still C_law_step C_law_least) b19 D19.F.kp (PySem.W.mg_of X G D19.a)
  have b20 := D20.F.binds (ps := ["rows", "stand", "text"]) fun _ _ _ _ _ _ us hl => match us, hl with | [_, _, _], _ => rfl
  have C_law_lead := Got.of (x := "_law_lead") (ok_law_lead (P := P) (w := w) (base := base) D20.F B) b20 D20.F.kp (PySem.W.mg_of X G D20.a)
  have b21 := D21.F.binds (ps := ["size", "most"]) fun _ _ _ _ _ _ us hl => match us, hl with | [_, _], _ => rfl
  have C_law_texts := Got.of (x := "_law_texts") (ok_law_texts (P := P) (w := w) (base := base) D21.F B) b21 D21.F.kp (PySem.W.mg_of X G D21.a)
  have b22 := D22.F.binds (ps := ["value"]) fun _ _ _ _ _ _ us hl => match us, hl with | [_], _ => rfl
  have C_is_integer := Got.of (x := "is_integer") (ok_is_integer (P := P) (w := w) (base := base) D22.F B) b22 D22.F.kp (PySem.W.mg_of X G D22.a)
  have b23 := D23.F.binds (ps := ["value", "low", "high"]) fun _ _ _ _ _ _ us hl => match us, hl with | [_, _, _], _ => rfl
  have C_is_between := Got.of (x := "is_between") (ok_is_between (P := P) (w := w) (base := base) D23.F B C_is_integer) b23 D23.F.kp (PySem.W.mg_of X G D23.a)
  have b24 := D24.F.binds (ps := ["value", "many"]) fun _ _ _ _ _ _ us hl => match us, hl with | [_, _], _ => rfl
  have C_is_tuple_of := Got.of (x := "is_tuple_of") (ok_is_tuple_of (P := P) (w := w) (base := base) D24.F B) b24 D24.F.kp (PySem.W.mg_of X G D24.a)
  have b25 := D25.F.binds (ps := ["table"]) fun _ _ _ _ _ _ us hl => match us, hl with | [_], _ => rfl
  have C_table_size := Got.of (x := "table_size") (ok_table_size (P := P) (w := w) (base := base) D25.F B) b25 D25.F.kp (PySem.W.mg_of X G D25.a)
  have F26 : FunD K "first_texts" "first_texts" (defArgs s_first_texts) (defBody s_first_texts) (defScope s_first_texts) [.int 0] [] f26 _ := ⟨⟨oc26, od26, .ref U26, kV26, dc26, pm26, an26, cd26, ct26, sl26, rfl, l26, c26, .inr ⟨(fun z => nomatch z), U26, _, [v26], nT26, rfl, lT26, rfl, .cons vT26 .nil⟩, .inl rfl⟩, k26⟩
  obtain ⟨ds26, rds26, b26⟩ := F26.binds1 (ps := ["rows", "start"]) 1 0 (fun z => nomatch z) rfl fun _ _ _ _ _ _ _ us its h1 h2 => match us, its, h1, h2 with | [_], [_], _, _ => ⟨_, rfl, rfl⟩
  have C_first_texts : GotD P w K mg base CX0 1 "first_texts" ["rows", "start"] [.int 0] (sp_first_texts K) := ⟨f26, _, ds26, ok_first_texts F26 B, b26, rds26, k26, PySem.W.mg_of X G a26⟩
  have b27 := D27.F.binds (ps := ["rows"]) fun _ _ _ _ _ _ us hl => match us, hl with | [_], _ => rfl
  have C_are_rows := Got.of (x := "_are_rows") (ok_are_rows (P := P) (w := w) (base := base) D27.F B C_is_tuple_of C_is_between) b27 D27.F.kp (PySem.W.mg_of X G D27.a)
  have b28 := D28.F.binds (ps := ["table"]) fun _ _ _ _ _ _ us hl => match us, hl with | [_], _ => rfl
  have C_is_table := Got.of (x := "is_table") (ok_is_table (P := P) (w := w) (base := base) D28.F B C_is_tuple_of C_are_rows C_first_texts) b28 D28.F.kp (PySem.W.mg_of X G D28.a)
  have b29 := D29.F.binds (ps := ["table"]) fun _ _ _ _ _ _ us hl => match us, hl with | [_], _ => rfl
  have C_check_table := Got.of (x := "check_table") (ok_check_table (P := P) (w := w) (base := base) D29.F B C_is_table) b29 D29.F.kp (PySem.W.mg_of X G D29.a)
  have b30 := D30.F.binds (ps := ["most"]) fun _ _ _ _ _ _ us hl => match us, hl with | [_], _ => rfl
  have C_check_most := Got.of (x := "_check_most") (ok_check_most (P := P) (w := w) (base := base) D30.F B C_is_between) b30 D30.F.kp (PySem.W.mg_of X G D30.a)
  have b31 := D31.F.binds (ps := ["one", "other"]) fun _ _ _ _ _ _ us hl => match us, hl with | [_, _], _ => rfl
  have C_difference := Got.of (x := "_difference") (ok_difference (P := P) (w := w) (base := base) D31.F B C_table_size) b31 D31.F.kp (PySem.W.mg_of X G D31.a)
  have b32 := D32.F.binds (ps := ["size", "most"]) fun _ _ _ _ _ _ us hl => match us, hl with | [_, _], _ => rfl
  have C_all_rows := Got.of (x := "_all_rows") (ok_all_rows (P := P) (w := w) (base := base) D32.F B) b32 D32.F.kp (PySem.W.mg_of X G D32.a)
  have b33 := D33.F.binds (ps := ["table", "most"]) fun _ _ _ _ _ _ us hl => match us, hl with | [_, _], _ => rfl
  have C_last_difference := Got.of (x := "_last_difference") (ok_last_difference (P := P) (w := w) (base := base) D33.F B C_all_rows C_table_size C_difference) b33 D33.F.kp (PySem.W.mg_of X G D33.a)
  have b34 := D34.F.binds (ps := ["table", "most"]) fun _ _ _ _ _ _ us hl => match us, hl with | [_, _], _ => rfl
  have C_check_limits := Got.of (x := "_check_limits") (ok_check_limits (P := P) (w := w) (base := base) D34.F B C_check_table C_check_most C_table_size) b34 D34.F.kp (PySem.W.mg_of X G D34.a)
  have b35 := D35.F.binds (ps := ["told", "due"]) fun _ _ _ _ _ _ us hl => match us, hl with | [_, _], _ => rfl
  have C_law_says := Got.of (x := "_law_says") (ok_law_says (P := P) (w := w) (base := base) D35.F B) b35 D35.F.kp (PySem.W.mg_of X G D35.a)
  have b36 := D36.F.binds (ps := ["table", "other", "texts"]) fun _ _ _ _ _ _ us hl => match us, hl with | [_, _, _], _ => rfl
  have C_law_index := Got.of (x := "_law_index") (ok_law_index (P := P) (w := w) (base := base) D36.F B C_law_lead) b36 D36.F.kp (PySem.W.mg_of X G D36.a)
  have b37 := D37.F.binds (ps := ["table"]) fun _ _ _ _ _ _ us hl => match us, hl with | [_], _ => rfl
  have C_law_come_to := Got.of (x := "_law_come_to") (ok_law_come_to (P := P) (w := w) (base := base) D37.F B) b37 D37.F.kp (PySem.W.mg_of X G D37.a)
  have b38 := D38.F.binds (ps := ["size", "many"]) fun _ _ _ _ _ _ us hl => match us, hl with | [_, _], _ => rfl
  have C_law_all_tables := Got.of (x := "_law_all_tables") (ok_law_all_tables (P := P) (w := w) (base := base) D38.F B) b38 D38.F.kp (PySem.W.mg_of X G D38.a)
  have b39 := D39.F.binds (ps := ["self", "number", "other"]) fun _ _ _ _ _ _ us hl => match us, hl with | [_, _, _], _ => rfl
  have Mk0 : Maker P w K mg base CE := ⟨TE, f39, fd39, ⟨mkE, D39.a.at_, D39.a.fn, kcE⟩, ok_einit (P := P) (w := w) (base := base) D39.F TE, b39⟩
  have b40 := D40.F.binds (ps := ["table", "most"]) fun _ _ _ _ _ _ us hl => match us, hl with | [_, _], _ => rfl
  have C_judge_enough := Got.of (x := "judge_enough") (ok_judge_enough (P := P) (w := w) (base := base) D40.F Mk0 C_check_limits C_last_difference) b40 D40.F.kp (PySem.W.mg_of X G D40.a)
  have b41 := D41.F.binds (ps := ["table", "most"]) fun _ _ _ _ _ _ us hl => match us, hl with | [_, _], _ => rfl
  have C_enough := Got.of (x := "enough") (ok_enough (P := P) (w := w) (base := base) D41.F TE C_judge_enough) b41 D41.F.kp (PySem.W.mg_of X G D41.a)
  have b42 := D42.F.binds (ps := ["value", "size", "most"]) fun _ _ _ _ _ _ us hl => match us, hl with | [_, _, _], _ => rfl
  have C_is_small_table := Got.of (x := "_is_small_table") (ok_is_small_table (P := P) (w := w) (base := base) D42.F B C_is_table C_table_size) b42 D42.F.kp (PySem.W.mg_of X G D42.a)
  have b43 := D43.F.binds (ps := ["self", "table", "most"]) fun _ _ _ _ _ _ us hl => match us, hl with | [_, _, _], _ => rfl
  have S0 : Shower P w K mg base CE := ⟨f43, fd43, D43.a, ok_eshows (P := P) (w := w) (base := base) D43.F B TE C_check_limits C_is_integer C_is_small_table C_table_size C_last_difference C_difference, b43⟩
  have b44 := D44.F.binds (ps := ["script"]) fun _ _ _ _ _ _ us hl => match us, hl with | [_], _ => rfl
  exact ⟨b44, ok_law D44.F B Bz Mk0 S0 C_law_next C_law_pattern C_law_table C_law_texts C_law_all_tables C_law_come_to C_law_index C_enough C_judge_enough C_law_says⟩
end
theorem all_mk {l : PySem.W.OpenLaw} {w : World} {K : PySem.W.Frag} {h : Heap} {mg : Str → Option Value} {fa CE : Addr} (X : K.In h) (G : h.Ns mainGlobals mg) (hfa : mg "law" = some (.ref fa))
    (z0 : PySem.W.nsIn K mainGlobals "len" = some none) (z1 : PySem.W.nsIn K mainGlobals "isinstance" = some none) (z2 : PySem.W.nsIn K mainGlobals "sum" = some none) (z3 : PySem.W.nsIn K mainGlobals "max" = some none) (z4 : PySem.W.nsIn K mainGlobals "min" = some none) (z5 : PySem.W.nsIn K mainGlobals "all" = some none) (z6 : PySem.W.nsIn K mainGlobals "any" = some none) (z7 : PySem.W.nsIn K mainGlobals "sorted" = some none) (z8 : PySem.W.nsIn K mainGlobals "list" = some none) (z9 : PySem.W.nsIn K mainGlobals "tuple" = some none) (z10 : PySem.W.nsIn K mainGlobals "int" = some none) (z11 : PySem.W.nsIn K mainGlobals "set" = some none) (z12 : PySem.W.nsIn K mainGlobals "bool" = some none) (z13 : PySem.W.nsIn K mainGlobals "str" = some none) (z14 : PySem.W.nsIn K mainGlobals "range" = some none) (z15 : PySem.W.nsIn K mainGlobals "enumerate" = some none)
    (zxBz : PySem.W.nsIn K mainGlobals "zip" = some none)
    {w0 w1 w2 w3 : Tok} (y0 : PySem.W.nsIn K mainGlobals "LETTERS" = some (some (.str "abc" w0))) (y1 : PySem.W.nsIn K mainGlobals "MOST_STANDS" = some (some (.int 40 w1))) (y2 : PySem.W.nsIn K mainGlobals "MOST_STANDS_LEARNT" = some (some (.int 4 w2))) (y3 : PySem.W.nsIn K mainGlobals "MOST_PRODUCT" = some (some (.int 6 w3)))
    (aE : PySem.W.nsIn K mainGlobals "Enough" = some (some (.ref CE))) (pgE : PySem.W.plainGet K CE Str.empty = true) (hdE : PySem.W.hasDictIn K CE = true) (poE : PySem.W.plainOver K CE = true) (saE : PySem.W.findIn K (.ref CE) "__setattr__" = some (some (.builtin "object.__setattr__"))) (mkE : PySem.W.makesIn K CE = true) (kcE : PySem.W.keepIn K (.ref CE) = true) (nEnumber : PySem.W.findIn K (.ref CE) "number" = some none) (nEother : PySem.W.findIn K (.ref CE) "other" = some none)
    {f0 : Addr} {oc0 kV0 dc0 pm0 cd0 ct0 : Value} {od0 an0 : Option Addr} {sl0 : Array (Option Value)}
      (a0 : PySem.W.nsIn K mainGlobals "_law_cell_at" = some (some (.ref f0))) (l0 : K.lookup f0 = some ⟨oc0, od0, .func (PySem.W.fnOf "_law_cell_at" "_law_cell_at" (defArgs s_law_cell_at) (defBody s_law_cell_at) (defScope s_law_cell_at) .none kV0 dc0 pm0 an0 cd0 ct0), sl0⟩) (c0 : PySem.W.codeIn K cd0 "_law_cell_at" = true) (k0 : PySem.W.keepIn K (.ref f0) = true)
    {f1 : Addr} {oc1 kV1 dc1 pm1 cd1 ct1 : Value} {od1 an1 : Option Addr} {sl1 : Array (Option Value)}
      (a1 : PySem.W.nsIn K mainGlobals "_law_draw" = some (some (.ref f1))) (l1 : K.lookup f1 = some ⟨oc1, od1, .func (PySem.W.fnOf "_law_draw" "_law_draw" (defArgs s_law_draw) (defBody s_law_draw) (defScope s_law_draw) .none kV1 dc1 pm1 an1 cd1 ct1), sl1⟩) (c1 : PySem.W.codeIn K cd1 "_law_draw" = true) (k1 : PySem.W.keepIn K (.ref f1) = true)
    {f2 : Addr} {oc2 kV2 dc2 pm2 cd2 ct2 : Value} {od2 an2 : Option Addr} {sl2 : Array (Option Value)}
      (a2 : PySem.W.nsIn K mainGlobals "_law_number" = some (some (.ref f2))) (l2 : K.lookup f2 = some ⟨oc2, od2, .func (PySem.W.fnOf "_law_number" "_law_number" (defArgs s_law_number) (defBody s_law_number) (defScope s_law_number) .none kV2 dc2 pm2 an2 cd2 ct2), sl2⟩) (c2 : PySem.W.codeIn K cd2 "_law_number" = true) (k2 : PySem.W.keepIn K (.ref f2) = true)
    {f3 : Addr} {oc3 kV3 dc3 pm3 cd3 ct3 : Value} {od3 an3 : Option Addr} {sl3 : Array (Option Value)}
      (a3 : PySem.W.nsIn K mainGlobals "_law_next" = some (some (.ref f3))) (l3 : K.lookup f3 = some ⟨oc3, od3, .func (PySem.W.fnOf "_law_next" "_law_next" (defArgs s_law_next) (defBody s_law_next) (defScope s_law_next) .none kV3 dc3 pm3 an3 cd3 ct3), sl3⟩) (c3 : PySem.W.codeIn K cd3 "_law_next" = true) (k3 : PySem.W.keepIn K (.ref f3) = true)
    {f4 : Addr} {oc4 kV4 dc4 pm4 cd4 ct4 : Value} {od4 an4 : Option Addr} {sl4 : Array (Option Value)}
      (a4 : PySem.W.nsIn K mainGlobals "_law_pick" = some (some (.ref f4))) (l4 : K.lookup f4 = some ⟨oc4, od4, .func (PySem.W.fnOf "_law_pick" "_law_pick" (defArgs s_law_pick) (defBody s_law_pick) (defScope s_law_pick) .none kV4 dc4 pm4 an4 cd4 ct4), sl4⟩) (c4 : PySem.W.codeIn K cd4 "_law_pick" = true) (k4 : PySem.W.keepIn K (.ref f4) = true)
    {f5 : Addr} {oc5 kV5 dc5 pm5 cd5 ct5 : Value} {od5 an5 : Option Addr} {sl5 : Array (Option Value)}
      (a5 : PySem.W.nsIn K mainGlobals "_law_letters" = some (some (.ref f5))) (l5 : K.lookup f5 = some ⟨oc5, od5, .func (PySem.W.fnOf "_law_letters" "_law_letters" (defArgs s_law_letters) (defBody s_law_letters) (defScope s_law_letters) .none kV5 dc5 pm5 an5 cd5 ct5), sl5⟩) (c5 : PySem.W.codeIn K cd5 "_law_letters" = true) (k5 : PySem.W.keepIn K (.ref f5) = true)
    {f6 : Addr} {oc6 kV6 dc6 pm6 cd6 ct6 : Value} {od6 an6 : Option Addr} {sl6 : Array (Option Value)}
      (a6 : PySem.W.nsIn K mainGlobals "_law_many" = some (some (.ref f6))) (l6 : K.lookup f6 = some ⟨oc6, od6, .func (PySem.W.fnOf "_law_many" "_law_many" (defArgs s_law_many) (defBody s_law_many) (defScope s_law_many) .none kV6 dc6 pm6 an6 cd6 ct6), sl6⟩) (c6 : PySem.W.codeIn K cd6 "_law_many" = true) (k6 : PySem.W.keepIn K (.ref f6) = true)
    {f7 : Addr} {oc7 kV7 dc7 pm7 cd7 ct7 : Value} {od7 an7 : Option Addr} {sl7 : Array (Option Value)}
      (a7 : PySem.W.nsIn K mainGlobals "_law_grown" = some (some (.ref f7))) (l7 : K.lookup f7 = some ⟨oc7, od7, .func (PySem.W.fnOf "_law_grown" "_law_grown" (defArgs s_law_grown) (defBody s_law_grown) (defScope s_law_grown) .none kV7 dc7 pm7 an7 cd7 ct7), sl7⟩) (c7 : PySem.W.codeIn K cd7 "_law_grown" = true) (k7 : PySem.W.keepIn K (.ref f7) = true)
    {f8 : Addr} {oc8 kV8 dc8 pm8 cd8 ct8 : Value} {od8 an8 : Option Addr} {sl8 : Array (Option Value)}
      (a8 : PySem.W.nsIn K mainGlobals "_law_inner" = some (some (.ref f8))) (l8 : K.lookup f8 = some ⟨oc8, od8, .func (PySem.W.fnOf "_law_inner" "_law_inner" (defArgs s_law_inner) (defBody s_law_inner) (defScope s_law_inner) .none kV8 dc8 pm8 an8 cd8 ct8), sl8⟩) (c8 : PySem.W.codeIn K cd8 "_law_inner" = true) (k8 : PySem.W.keepIn K (.ref f8) = true)
    {f9 : Addr} {oc9 kV9 dc9 pm9 cd9 ct9 : Value} {od9 an9 : Option Addr} {sl9 : Array (Option Value)}
      (a9 : PySem.W.nsIn K mainGlobals "_law_parts" = some (some (.ref f9))) (l9 : K.lookup f9 = some ⟨oc9, od9, .func (PySem.W.fnOf "_law_parts" "_law_parts" (defArgs s_law_parts) (defBody s_law_parts) (defScope s_law_parts) .none kV9 dc9 pm9 an9 cd9 ct9), sl9⟩) (c9 : PySem.W.codeIn K cd9 "_law_parts" = true) (k9 : PySem.W.keepIn K (.ref f9) = true)
    {f10 : Addr} {oc10 kV10 dc10 pm10 cd10 ct10 : Value} {od10 an10 : Option Addr} {sl10 : Array (Option Value)}
      (a10 : PySem.W.nsIn K mainGlobals "_law_weight" = some (some (.ref f10))) (l10 : K.lookup f10 = some ⟨oc10, od10, .func (PySem.W.fnOf "_law_weight" "_law_weight" (defArgs s_law_weight) (defBody s_law_weight) (defScope s_law_weight) .none kV10 dc10 pm10 an10 cd10 ct10), sl10⟩) (c10 : PySem.W.codeIn K cd10 "_law_weight" = true) (k10 : PySem.W.keepIn K (.ref f10) = true)
    {f11 : Addr} {oc11 kV11 dc11 pm11 cd11 ct11 : Value} {od11 an11 : Option Addr} {sl11 : Array (Option Value)}
      (a11 : PySem.W.nsIn K mainGlobals "_law_pattern" = some (some (.ref f11))) (l11 : K.lookup f11 = some ⟨oc11, od11, .func (PySem.W.fnOf "_law_pattern" "_law_pattern" (defArgs s_law_pattern) (defBody s_law_pattern) (defScope s_law_pattern) .none kV11 dc11 pm11 an11 cd11 ct11), sl11⟩) (c11 : PySem.W.codeIn K cd11 "_law_pattern" = true) (k11 : PySem.W.keepIn K (.ref f11) = true)
    {f12 : Addr} {oc12 kV12 dc12 pm12 cd12 ct12 : Value} {od12 an12 : Option Addr} {sl12 : Array (Option Value)}
      (a12 : PySem.W.nsIn K mainGlobals "_law_node" = some (some (.ref f12))) (l12 : K.lookup f12 = some ⟨oc12, od12, .func (PySem.W.fnOf "_law_node" "_law_node" (defArgs s_law_node) (defBody s_law_node) (defScope s_law_node) .none kV12 dc12 pm12 an12 cd12 ct12), sl12⟩) (c12 : PySem.W.codeIn K cd12 "_law_node" = true) (k12 : PySem.W.keepIn K (.ref f12) = true)
    {f13 : Addr} {oc13 kV13 dc13 pm13 cd13 ct13 : Value} {od13 an13 : Option Addr} {sl13 : Array (Option Value)}
      (a13 : PySem.W.nsIn K mainGlobals "_law_wire_again" = some (some (.ref f13))) (l13 : K.lookup f13 = some ⟨oc13, od13, .func (PySem.W.fnOf "_law_wire_again" "_law_wire_again" (defArgs s_law_wire_again) (defBody s_law_wire_again) (defScope s_law_wire_again) .none kV13 dc13 pm13 an13 cd13 ct13), sl13⟩) (c13 : PySem.W.codeIn K cd13 "_law_wire_again" = true) (k13 : PySem.W.keepIn K (.ref f13) = true)
    {f14 : Addr} {oc14 kV14 dc14 pm14 cd14 ct14 : Value} {od14 an14 : Option Addr} {sl14 : Array (Option Value)}
      (a14 : PySem.W.nsIn K mainGlobals "_law_wire" = some (some (.ref f14))) (l14 : K.lookup f14 = some ⟨oc14, od14, .func (PySem.W.fnOf "_law_wire" "_law_wire" (defArgs s_law_wire) (defBody s_law_wire) (defScope s_law_wire) .none kV14 dc14 pm14 an14 cd14 ct14), sl14⟩) (c14 : PySem.W.codeIn K cd14 "_law_wire" = true) (k14 : PySem.W.keepIn K (.ref f14) = true)
    {f15 : Addr} {oc15 kV15 dc15 pm15 cd15 ct15 : Value} {od15 an15 : Option Addr} {sl15 : Array (Option Value)}
      (a15 : PySem.W.nsIn K mainGlobals "_law_still" = some (some (.ref f15))) (l15 : K.lookup f15 = some ⟨oc15, od15, .func (PySem.W.fnOf "_law_still" "_law_still" (defArgs s_law_still) (defBody s_law_still) (defScope s_law_still) .none kV15 dc15 pm15 an15 cd15 ct15), sl15⟩) (c15 : PySem.W.codeIn K cd15 "_law_still" = true) (k15 : PySem.W.keepIn K (.ref f15) = true)
    {f16 : Addr} {oc16 kV16 dc16 pm16 cd16 ct16 : Value} {od16 an16 : Option Addr} {sl16 : Array (Option Value)}
      (a16 : PySem.W.nsIn K mainGlobals "_law_step" = some (some (.ref f16))) (l16 : K.lookup f16 = some ⟨oc16, od16, .func (PySem.W.fnOf "_law_step" "_law_step" (defArgs s_law_step) (defBody s_law_step) (defScope s_law_step) .none kV16 dc16 pm16 an16 cd16 ct16), sl16⟩) (c16 : PySem.W.codeIn K cd16 "_law_step" = true) (k16 : PySem.W.keepIn K (.ref f16) = true)
    {f17 : Addr} {oc17 kV17 dc17 pm17 cd17 ct17 : Value} {od17 an17 : Option Addr} {sl17 : Array (Option Value)}
      (a17 : PySem.W.nsIn K mainGlobals "_law_classes" = some (some (.ref f17))) (l17 : K.lookup f17 = some ⟨oc17, od17, .func (PySem.W.fnOf "_law_classes" "_law_classes" (defArgs s_law_classes) (defBody s_law_classes) (defScope s_law_classes) .none kV17 dc17 pm17 an17 cd17 ct17), sl17⟩) (c17 : PySem.W.codeIn K cd17 "_law_classes" = true) (k17 : PySem.W.keepIn K (.ref f17) = true)
    {f18 : Addr} {oc18 kV18 dc18 pm18 cd18 ct18 : Value} {od18 an18 : Option Addr} {sl18 : Array (Option Value)}
      (a18 : PySem.W.nsIn K mainGlobals "_law_least" = some (some (.ref f18))) (l18 : K.lookup f18 = some ⟨oc18, od18, .func (PySem.W.fnOf "_law_least" "_law_least" (defArgs s_law_least) (defBody s_law_least) (defScope s_law_least) .none kV18 dc18 pm18 an18 cd18 ct18), sl18⟩) (c18 : PySem.W.codeIn K cd18 "_law_least" = true) (k18 : PySem.W.keepIn K (.ref f18) = true)
    {f19 : Addr} {oc19 kV19 dc19 pm19 cd19 ct19 : Value} {od19 an19 : Option Addr} {sl19 : Array (Option Value)}
      (a19 : PySem.W.nsIn K mainGlobals "_law_table" = some (some (.ref f19))) (l19 : K.lookup f19 = some ⟨oc19, od19, .func (PySem.W.fnOf "_law_table" "_law_table" (defArgs s_law_table) (defBody s_law_table) (defScope s_law_table) .none kV19 dc19 pm19 an19 cd19 ct19), sl19⟩) (c19 : PySem.W.codeIn K cd19 "_law_table" = true) (k19 : PySem.W.keepIn K (.ref f19) = true)
    {f20 : Addr} {oc20 kV20 dc20 pm20 cd20 ct20 : Value} {od20 an20 : Option Addr} {sl20 : Array (Option Value)}
      (a20 : PySem.W.nsIn K mainGlobals "_law_lead" = some (some (.ref f20))) (l20 : K.lookup f20 = some ⟨oc20, od20, .func (PySem.W.fnOf "_law_lead" "_law_lead" (defArgs s_law_lead) (defBody s_law_lead) (defScope s_law_lead) .none kV20 dc20 pm20 an20 cd20 ct20), sl20⟩) (c20 : PySem.W.codeIn K cd20 "_law_lead" = true) (k20 : PySem.W.keepIn K (.ref f20) = true)
    {f21 : Addr} {oc21 kV21 dc21 pm21 cd21 ct21 : Value} {od21 an21 : Option Addr} {sl21 : Array (Option Value)}
      (a21 : PySem.W.nsIn K mainGlobals "_law_texts" = some (some (.ref f21))) (l21 : K.lookup f21 = some ⟨oc21, od21, .func (PySem.W.fnOf "_law_texts" "_law_texts" (defArgs s_law_texts) (defBody s_law_texts) (defScope s_law_texts) .none kV21 dc21 pm21 an21 cd21 ct21), sl21⟩) (c21 : PySem.W.codeIn K cd21 "_law_texts" = true) (k21 : PySem.W.keepIn K (.ref f21) = true)
    {f22 : Addr} {oc22 kV22 dc22 pm22 cd22 ct22 : Value} {od22 an22 : Option Addr} {sl22 : Array (Option Value)}
      (a22 : PySem.W.nsIn K mainGlobals "is_integer" = some (some (.ref f22))) (l22 : K.lookup f22 = some ⟨oc22, od22, .func (PySem.W.fnOf "is_integer" "is_integer" (defArgs s_is_integer) (defBody s_is_integer) (defScope s_is_integer) .none kV22 dc22 pm22 an22 cd22 ct22), sl22⟩) (c22 : PySem.W.codeIn K cd22 "is_integer" = true) (k22 : PySem.W.keepIn K (.ref f22) = true)
    {f23 : Addr} {oc23 kV23 dc23 pm23 cd23 ct23 : Value} {od23 an23 : Option Addr} {sl23 : Array (Option Value)}
      (a23 : PySem.W.nsIn K mainGlobals "is_between" = some (some (.ref f23))) (l23 : K.lookup f23 = some ⟨oc23, od23, .func (PySem.W.fnOf "is_between" "is_between" (defArgs s_is_between) (defBody s_is_between) (defScope s_is_between) .none kV23 dc23 pm23 an23 cd23 ct23), sl23⟩) (c23 : PySem.W.codeIn K cd23 "is_between" = true) (k23 : PySem.W.keepIn K (.ref f23) = true)
    {f24 : Addr} {oc24 kV24 dc24 pm24 cd24 ct24 : Value} {od24 an24 : Option Addr} {sl24 : Array (Option Value)}
      (a24 : PySem.W.nsIn K mainGlobals "is_tuple_of" = some (some (.ref f24))) (l24 : K.lookup f24 = some ⟨oc24, od24, .func (PySem.W.fnOf "is_tuple_of" "is_tuple_of" (defArgs s_is_tuple_of) (defBody s_is_tuple_of) (defScope s_is_tuple_of) .none kV24 dc24 pm24 an24 cd24 ct24), sl24⟩) (c24 : PySem.W.codeIn K cd24 "is_tuple_of" = true) (k24 : PySem.W.keepIn K (.ref f24) = true)
    {f25 : Addr} {oc25 kV25 dc25 pm25 cd25 ct25 : Value} {od25 an25 : Option Addr} {sl25 : Array (Option Value)}
      (a25 : PySem.W.nsIn K mainGlobals "table_size" = some (some (.ref f25))) (l25 : K.lookup f25 = some ⟨oc25, od25, .func (PySem.W.fnOf "table_size" "table_size" (defArgs s_table_size) (defBody s_table_size) (defScope s_table_size) .none kV25 dc25 pm25 an25 cd25 ct25), sl25⟩) (c25 : PySem.W.codeIn K cd25 "table_size" = true) (k25 : PySem.W.keepIn K (.ref f25) = true)
    {f26 U26 : Addr} {oc26 kV26 dc26 pm26 cd26 ct26 oT26 v26 : Value} {od26 an26 dT26 : Option Addr} {sl26 slT26 : Array (Option Value)} {nT26 : Nat}
      (a26 : PySem.W.nsIn K mainGlobals "first_texts" = some (some (.ref f26))) (l26 : K.lookup f26 = some ⟨oc26, od26, .func (PySem.W.fnOf "first_texts" "first_texts" (defArgs s_first_texts) (defBody s_first_texts) (defScope s_first_texts) (.ref U26) kV26 dc26 pm26 an26 cd26 ct26), sl26⟩) (c26 : PySem.W.codeIn K cd26 "first_texts" = true) (k26 : PySem.W.keepIn K (.ref f26) = true)
      (lT26 : K.lookup U26 = some ⟨oT26, dT26, .seq #[v26] nT26, slT26⟩) (vT26 : RelV (.int 0) v26)
    {f27 : Addr} {oc27 kV27 dc27 pm27 cd27 ct27 : Value} {od27 an27 : Option Addr} {sl27 : Array (Option Value)}
      (a27 : PySem.W.nsIn K mainGlobals "_are_rows" = some (some (.ref f27))) (l27 : K.lookup f27 = some ⟨oc27, od27, .func (PySem.W.fnOf "_are_rows" "_are_rows" (defArgs s_are_rows) (defBody s_are_rows) (defScope s_are_rows) .none kV27 dc27 pm27 an27 cd27 ct27), sl27⟩) (c27 : PySem.W.codeIn K cd27 "_are_rows" = true) (k27 : PySem.W.keepIn K (.ref f27) = true)
    {f28 : Addr} {oc28 kV28 dc28 pm28 cd28 ct28 : Value} {od28 an28 : Option Addr} {sl28 : Array (Option Value)}
      (a28 : PySem.W.nsIn K mainGlobals "is_table" = some (some (.ref f28))) (l28 : K.lookup f28 = some ⟨oc28, od28, .func (PySem.W.fnOf "is_table" "is_table" (defArgs s_is_table) (defBody s_is_table) (defScope s_is_table) .none kV28 dc28 pm28 an28 cd28 ct28), sl28⟩) (c28 : PySem.W.codeIn K cd28 "is_table" = true) (k28 : PySem.W.keepIn K (.ref f28) = true)
    {f29 : Addr} {oc29 kV29 dc29 pm29 cd29 ct29 : Value} {od29 an29 : Option Addr} {sl29 : Array (Option Value)}
      (a29 : PySem.W.nsIn K mainGlobals "check_table" = some (some (.ref f29))) (l29 : K.lookup f29 = some ⟨oc29, od29, .func (PySem.W.fnOf "check_table" "check_table" (defArgs s_check_table) (defBody s_check_table) (defScope s_check_table) .none kV29 dc29 pm29 an29 cd29 ct29), sl29⟩) (c29 : PySem.W.codeIn K cd29 "check_table" = true) (k29 : PySem.W.keepIn K (.ref f29) = true)
    {f30 : Addr} {oc30 kV30 dc30 pm30 cd30 ct30 : Value} {od30 an30 : Option Addr} {sl30 : Array (Option Value)}
      (a30 : PySem.W.nsIn K mainGlobals "_check_most" = some (some (.ref f30))) (l30 : K.lookup f30 = some ⟨oc30, od30, .func (PySem.W.fnOf "_check_most" "_check_most" (defArgs s_check_most) (defBody s_check_most) (defScope s_check_most) .none kV30 dc30 pm30 an30 cd30 ct30), sl30⟩) (c30 : PySem.W.codeIn K cd30 "_check_most" = true) (k30 : PySem.W.keepIn K (.ref f30) = true)
    {f31 : Addr} {oc31 kV31 dc31 pm31 cd31 ct31 : Value} {od31 an31 : Option Addr} {sl31 : Array (Option Value)}
      (a31 : PySem.W.nsIn K mainGlobals "_difference" = some (some (.ref f31))) (l31 : K.lookup f31 = some ⟨oc31, od31, .func (PySem.W.fnOf "_difference" "_difference" (defArgs s_difference) (defBody s_difference) (defScope s_difference) .none kV31 dc31 pm31 an31 cd31 ct31), sl31⟩) (c31 : PySem.W.codeIn K cd31 "_difference" = true) (k31 : PySem.W.keepIn K (.ref f31) = true)
    {f32 : Addr} {oc32 kV32 dc32 pm32 cd32 ct32 : Value} {od32 an32 : Option Addr} {sl32 : Array (Option Value)}
      (a32 : PySem.W.nsIn K mainGlobals "_all_rows" = some (some (.ref f32))) (l32 : K.lookup f32 = some ⟨oc32, od32, .func (PySem.W.fnOf "_all_rows" "_all_rows" (defArgs s_all_rows) (defBody s_all_rows) (defScope s_all_rows) .none kV32 dc32 pm32 an32 cd32 ct32), sl32⟩) (c32 : PySem.W.codeIn K cd32 "_all_rows" = true) (k32 : PySem.W.keepIn K (.ref f32) = true)
    {f33 : Addr} {oc33 kV33 dc33 pm33 cd33 ct33 : Value} {od33 an33 : Option Addr} {sl33 : Array (Option Value)}
      (a33 : PySem.W.nsIn K mainGlobals "_last_difference" = some (some (.ref f33))) (l33 : K.lookup f33 = some ⟨oc33, od33, .func (PySem.W.fnOf "_last_difference" "_last_difference" (defArgs s_last_difference) (defBody s_last_difference) (defScope s_last_difference) .none kV33 dc33 pm33 an33 cd33 ct33), sl33⟩) (c33 : PySem.W.codeIn K cd33 "_last_difference" = true) (k33 : PySem.W.keepIn K (.ref f33) = true)
    {f34 : Addr} {oc34 kV34 dc34 pm34 cd34 ct34 : Value} {od34 an34 : Option Addr} {sl34 : Array (Option Value)}
      (a34 : PySem.W.nsIn K mainGlobals "_check_limits" = some (some (.ref f34))) (l34 : K.lookup f34 = some ⟨oc34, od34, .func (PySem.W.fnOf "_check_limits" "_check_limits" (defArgs s_check_limits) (defBody s_check_limits) (defScope s_check_limits) .none kV34 dc34 pm34 an34 cd34 ct34), sl34⟩) (c34 : PySem.W.codeIn K cd34 "_check_limits" = true) (k34 : PySem.W.keepIn K (.ref f34) = true)
    {f35 : Addr} {oc35 kV35 dc35 pm35 cd35 ct35 : Value} {od35 an35 : Option Addr} {sl35 : Array (Option Value)}
      (a35 : PySem.W.nsIn K mainGlobals "_law_says" = some (some (.ref f35))) (l35 : K.lookup f35 = some ⟨oc35, od35, .func (PySem.W.fnOf "_law_says" "_law_says" (defArgs s_law_says) (defBody s_law_says) (defScope s_law_says) .none kV35 dc35 pm35 an35 cd35 ct35), sl35⟩) (c35 : PySem.W.codeIn K cd35 "_law_says" = true) (k35 : PySem.W.keepIn K (.ref f35) = true)
    {f36 : Addr} {oc36 kV36 dc36 pm36 cd36 ct36 : Value} {od36 an36 : Option Addr} {sl36 : Array (Option Value)}
      (a36 : PySem.W.nsIn K mainGlobals "_law_index" = some (some (.ref f36))) (l36 : K.lookup f36 = some ⟨oc36, od36, .func (PySem.W.fnOf "_law_index" "_law_index" (defArgs s_law_index) (defBody s_law_index) (defScope s_law_index) .none kV36 dc36 pm36 an36 cd36 ct36), sl36⟩) (c36 : PySem.W.codeIn K cd36 "_law_index" = true) (k36 : PySem.W.keepIn K (.ref f36) = true)
    {f37 : Addr} {oc37 kV37 dc37 pm37 cd37 ct37 : Value} {od37 an37 : Option Addr} {sl37 : Array (Option Value)}
      (a37 : PySem.W.nsIn K mainGlobals "_law_come_to" = some (some (.ref f37))) (l37 : K.lookup f37 = some ⟨oc37, od37, .func (PySem.W.fnOf "_law_come_to" "_law_come_to" (defArgs s_law_come_to) (defBody s_law_come_to) (defScope s_law_come_to) .none kV37 dc37 pm37 an37 cd37 ct37), sl37⟩) (c37 : PySem.W.codeIn K cd37 "_law_come_to" = true) (k37 : PySem.W.keepIn K (.ref f37) = true)
    {f38 : Addr} {oc38 kV38 dc38 pm38 cd38 ct38 : Value} {od38 an38 : Option Addr} {sl38 : Array (Option Value)}
      (a38 : PySem.W.nsIn K mainGlobals "_law_all_tables" = some (some (.ref f38))) (l38 : K.lookup f38 = some ⟨oc38, od38, .func (PySem.W.fnOf "_law_all_tables" "_law_all_tables" (defArgs s_law_all_tables) (defBody s_law_all_tables) (defScope s_law_all_tables) .none kV38 dc38 pm38 an38 cd38 ct38), sl38⟩) (c38 : PySem.W.codeIn K cd38 "_law_all_tables" = true) (k38 : PySem.W.keepIn K (.ref f38) = true)
    {f39 : Addr} {oc39 kV39 dc39 pm39 cd39 ct39 : Value} {od39 an39 : Option Addr} {sl39 : Array (Option Value)}
      (a39 : PySem.W.findIn K (.ref CE) "__init__" = some (some (.ref f39))) (i39 : PySem.W.isFn K (.ref f39) = true) (l39 : K.lookup f39 = some ⟨oc39, od39, .func (PySem.W.fnOf "__init__" "Enough.__init__" (defArgs s_einit) (defBody s_einit) (defScope s_einit) .none kV39 dc39 pm39 an39 cd39 ct39), sl39⟩) (c39 : PySem.W.codeIn K cd39 "Enough.__init__" = true) (k39 : PySem.W.keepIn K (.ref f39) = true)
    {f40 : Addr} {oc40 kV40 dc40 pm40 cd40 ct40 : Value} {od40 an40 : Option Addr} {sl40 : Array (Option Value)}
      (a40 : PySem.W.nsIn K mainGlobals "judge_enough" = some (some (.ref f40))) (l40 : K.lookup f40 = some ⟨oc40, od40, .func (PySem.W.fnOf "judge_enough" "judge_enough" (defArgs s_judge_enough) (defBody s_judge_enough) (defScope s_judge_enough) .none kV40 dc40 pm40 an40 cd40 ct40), sl40⟩) (c40 : PySem.W.codeIn K cd40 "judge_enough" = true) (k40 : PySem.W.keepIn K (.ref f40) = true)
    {f41 : Addr} {oc41 kV41 dc41 pm41 cd41 ct41 : Value} {od41 an41 : Option Addr} {sl41 : Array (Option Value)}
      (a41 : PySem.W.nsIn K mainGlobals "enough" = some (some (.ref f41))) (l41 : K.lookup f41 = some ⟨oc41, od41, .func (PySem.W.fnOf "enough" "enough" (defArgs s_enough) (defBody s_enough) (defScope s_enough) .none kV41 dc41 pm41 an41 cd41 ct41), sl41⟩) (c41 : PySem.W.codeIn K cd41 "enough" = true) (k41 : PySem.W.keepIn K (.ref f41) = true)
    {f42 : Addr} {oc42 kV42 dc42 pm42 cd42 ct42 : Value} {od42 an42 : Option Addr} {sl42 : Array (Option Value)}
      (a42 : PySem.W.nsIn K mainGlobals "_is_small_table" = some (some (.ref f42))) (l42 : K.lookup f42 = some ⟨oc42, od42, .func (PySem.W.fnOf "_is_small_table" "_is_small_table" (defArgs s_is_small_table) (defBody s_is_small_table) (defScope s_is_small_table) .none kV42 dc42 pm42 an42 cd42 ct42), sl42⟩) (c42 : PySem.W.codeIn K cd42 "_is_small_table" = true) (k42 : PySem.W.keepIn K (.ref f42) = true)
    {f43 : Addr} {oc43 kV43 dc43 pm43 cd43 ct43 : Value} {od43 an43 : Option Addr} {sl43 : Array (Option Value)}
      (a43 : PySem.W.findIn K (.ref CE) "shows" = some (some (.ref f43))) (i43 : PySem.W.isFn K (.ref f43) = true) (l43 : K.lookup f43 = some ⟨oc43, od43, .func (PySem.W.fnOf "shows" "Enough.shows" (defArgs s_eshows) (defBody s_eshows) (defScope s_eshows) .none kV43 dc43 pm43 an43 cd43 ct43), sl43⟩) (c43 : PySem.W.codeIn K cd43 "Enough.shows" = true) (k43 : PySem.W.keepIn K (.ref f43) = true)
    {f44 : Addr} {oc44 kV44 dc44 pm44 cd44 ct44 : Value} {od44 an44 : Option Addr} {sl44 : Array (Option Value)}
      (a44 : PySem.W.nsIn K mainGlobals "law" = some (some (.ref f44))) (l44 : K.lookup f44 = some ⟨oc44, od44, .func (PySem.W.fnOf "law" "law" (defArgs s_law) (defBody s_law) (defScope s_law) .none kV44 dc44 pm44 an44 cd44 ct44), sl44⟩) (c44 : PySem.W.codeIn K cd44 "law" = true) (k44 : PySem.W.keepIn K (.ref f44) = true)
    : ∃ fd : FuncData, (∀ (s : Shared) (v : Value), BindsTo s fd ⟨[v], []⟩ [("script", v)]) ∧ ∀ base : Heap, K.In base → base.Ns mainGlobals mg → FnOk l.prog w K mg base CX0 11 fa fd ["script"] (sp_law K) := by
  have e := hfa.symm.trans (PySem.W.mg_of X G a44)
  cases e
  have B : Bt mg := bt_mk X G z0 z1 z2 z3 z4 z5 z6 z7 z8 z9 z10 z11 z12 z13 z14 z15 ⟨_, y0⟩ ⟨_, y1⟩ ⟨_, y2⟩ ⟨_, y3⟩
  refine ⟨_, fun s v => .of_eq rfl, fun base _ _ => (defs_ok (P := l.prog) (w := w) (base := base) X G B ⟨⟨pgE, hdE, poE, saE⟩, nEnumber, nEother, PySem.W.mg_of X G aE⟩ mkE kcE (PySem.W.mg_none_of X G zxBz)
    (DefK.of a0 l0 c0 k0)
    (DefK.of a1 l1 c1 k1)
    (DefK.of a2 l2 c2 k2)
    (DefK.of a3 l3 c3 k3)
    (DefK.of a4 l4 c4 k4)
    (DefK.of a5 l5 c5 k5)
    (DefK.of a6 l6 c6 k6)
    (DefK.of a7 l7 c7 k7)
    (DefK.of a8 l8 c8 k8)
    (DefK.of a9 l9 c9 k9)
    (DefK.of a10 l10 c10 k10)
    (DefK.of a11 l11 c11 k11)
    (DefK.of a12 l12 c12 k12)
    (DefK.of a13 l13 c13 k13)
    (DefK.of a14 l14 c14 k14)
    (DefK.of a15 l15 c15 k15)
    (DefK.of a16 l16 c16 k16)
    (DefK.of a17 l17 c17 k17)
    (DefK.of a18 l18 c18 k18)
    (DefK.of a19 l19 c19 k19)
    (DefK.of a20 l20 c20 k20)
    (DefK.of a21 l21 c21 k21)
    (DefK.of a22 l22 c22 k22)
    (DefK.of a23 l23 c23 k23)
    (DefK.of a24 l24 c24 k24)
    (DefK.of a25 l25 c25 k25)
    a26 l26 c26 k26 lT26 vT26
    (DefK.of a27 l27 c27 k27)
    (DefK.of a28 l28 c28 k28)
    (DefK.of a29 l29 c29 k29)
    (DefK.of a30 l30 c30 k30)
    (DefK.of a31 l31 c31 k31)
    (DefK.of a32 l32 c32 k32)
    (DefK.of a33 l33 c33 k33)
    (DefK.of a34 l34 c34 k34)
    (DefK.of a35 l35 c35 k35)
    (DefK.of a36 l36 c36 k36)
    (DefK.of a37 l37 c37 k37)
    (DefK.of a38 l38 c38 k38)
    (MethK.of a39 i39 l39 c39 k39)
    (DefK.of a40 l40 c40 k40)
    (DefK.of a41 l41 c41 k41)
    (DefK.of a42 l42 c42 k42)
    (MethK.of a43 i43 l43 c43 k43)
    (DefK.of a44 l44 c44 k44)
    ).2⟩
theorem walk {l : PySem.W.OpenLaw} {q : Program} {loose : List Str} {XP : (Str → Option Value) → Heap → Prop} {YP : World → Heap → Prop} {d : DefRec} {K : Params → PySem.W.Frag} (hn : l.most = some 63) (hdf : d.params.defaults = [])
    (hY : ∀ (w : World) (h : Heap), YP w h → (K w.params).In h)
    (F : ∀ (w : World) (mg : Str → Option Value) (fa : Addr) (h : Heap), (K w.params).In h → h.Ns mainGlobals mg → mg d.name = some (.ref fa) →
      ∃ fd : FuncData, (∀ (s : Shared) (u : Value), BindsTo s fd ⟨[u], []⟩ [("script", u)]) ∧ ∀ base : Heap, (K w.params).In base → base.Ns mainGlobals mg → FnOk l.prog w (K w.params) mg base CX0 11 fa fd ["script"] (sp_law (K w.params))) :
    PySem.W.WalkO q loose XP YP l.row.toRowW d [] (fun f vs => PySem.call f vs) :=
  L2.walk_of (n := 63) (k := 11) (x := "script") (CX := fun _ => CX0) (sp := fun w => sp_law (K w.params)) hn (by decide) hdf ⟨rfl, by decide, by decide⟩ hY F (fun _ _ a ns _ _ hS => ⟨a, ns, rfl, hS, fun _ => rfl⟩) fun _ _ _ _ _ z => z
end Own
open PySem PySem.W PyProof.Rows
set_option maxRecDepth 100000 in
set_option maxHeartbeats 0 in
theorem PySem.Challenge.cw_patternways_k14_whole_enough_holds : PySem.Challenge.rw_patternways_k14_whole_enough.Holds := by
  w_on; o_law; k_head; (case hw => w_witness2)
  k_fill
  refine Own.walk (l := PySem.Challenge.rw_patternways_k14_whole_enough) rfl rfl (fun w h Y => PySem.W.kIn_of Y) ?F
  case F =>
    intro w mg fa h KX G hmg
    refine' Own.all_mk KX G hmg ?z0 ?z1 ?z2 ?z3 ?z4 ?z5 ?z6 ?z7 ?z8 ?z9 ?z10 ?z11 ?z12 ?z13 ?z14 ?z15 ?zxBz ?y0 ?y1 ?y2 ?y3 ?aE ?pgE ?hdE ?poE ?saE ?mkE ?kcE ?nEnumber ?nEother ?a0 ?l0 ?c0 ?k0 ?a1 ?l1 ?c1 ?k1 ?a2 ?l2 ?c2 ?k2 ?a3 ?l3 ?c3 ?k3 ?a4 ?l4 ?c4 ?k4 ?a5 ?l5 ?c5 ?k5 ?a6 ?l6 ?c6 ?k6 ?a7 ?l7 ?c7 ?k7 ?a8 ?l8 ?c8 ?k8 ?a9 ?l9 ?c9 ?k9 ?a10 ?l10 ?c10 ?k10 ?a11 ?l11 ?c11 ?k11 ?a12 ?l12 ?c12 ?k12 ?a13 ?l13 ?c13 ?k13 ?a14 ?l14 ?c14 ?k14 ?a15 ?l15 ?c15 ?k15 ?a16 ?l16 ?c16 ?k16 ?a17 ?l17 ?c17 ?k17 ?a18 ?l18 ?c18 ?k18 ?a19 ?l19 ?c19 ?k19 ?a20 ?l20 ?c20 ?k20 ?a21 ?l21 ?c21 ?k21 ?a22 ?l22 ?c22 ?k22 ?a23 ?l23 ?c23 ?k23 ?a24 ?l24 ?c24 ?k24 ?a25 ?l25 ?c25 ?k25 ?a26 ?l26 ?c26 ?k26 ?lT26 ?vT26 ?a27 ?l27 ?c27 ?k27 ?a28 ?l28 ?c28 ?k28 ?a29 ?l29 ?c29 ?k29 ?a30 ?l30 ?c30 ?k30 ?a31 ?l31 ?c31 ?k31 ?a32 ?l32 ?c32 ?k32 ?a33 ?l33 ?c33 ?k33 ?a34 ?l34 ?c34 ?k34 ?a35 ?l35 ?c35 ?k35 ?a36 ?l36 ?c36 ?k36 ?a37 ?l37 ?c37 ?k37 ?a38 ?l38 ?c38 ?k38 ?a39 ?i39 ?l39 ?c39 ?k39 ?a40 ?l40 ?c40 ?k40 ?a41 ?l41 ?c41 ?k41 ?a42 ?l42 ?c42 ?k42 ?a43 ?i43 ?l43 ?c43 ?k43 ?a44 ?l44 ?c44 ?k44
    (case z0 => k_is)
    (case z1 => k_is)
    (case z2 => k_is)
    (case z3 => k_is)
    (case z4 => k_is)
    (case z5 => k_is)
    (case z6 => k_is)
    (case z7 => k_is)
    (case z8 => k_is)
    (case z9 => k_is)
    (case z10 => k_is)
    (case z11 => k_is)
    (case z12 => k_is)
    (case z13 => k_is)
    (case z14 => k_is)
    (case z15 => k_is)
    (case zxBz => k_is)
    (case y0 => k_is)
    (case y1 => k_is)
    (case y2 => k_is)
    (case y3 => k_is)
    (case aE => k_is)
    (case pgE => k_is)
    (case hdE => k_is)
    (case poE => k_is)
    (case saE => k_is)
    (case mkE => k_is)
    (case kcE => k_is)
    (case nEnumber => k_is)
    (case nEother => k_is)
    (case a0 => k_is)
    (case l0 => k_is)
    (case c0 => k_is)
    (case k0 => k_is)
    (case a1 => k_is)
    (case l1 => k_is)
    (case c1 => k_is)
    (case k1 => k_is)
    (case a2 => k_is)
    (case l2 => k_is)
    (case c2 => k_is)
    (case k2 => k_is)
    (case a3 => k_is)
    (case l3 => k_is)
    (case c3 => k_is)
    (case k3 => k_is)
    (case a4 => k_is)
    (case l4 => k_is)
    (case c4 => k_is)
    (case k4 => k_is)
    (case a5 => k_is)
    (case l5 => k_is)
    (case c5 => k_is)
    (case k5 => k_is)
    (case a6 => k_is)
    (case l6 => k_is)
    (case c6 => k_is)
    (case k6 => k_is)
    (case a7 => k_is)
    (case l7 => k_is)
    (case c7 => k_is)
    (case k7 => k_is)
    (case a8 => k_is)
    (case l8 => k_is)
    (case c8 => k_is)
    (case k8 => k_is)
    (case a9 => k_is)
    (case l9 => k_is)
    (case c9 => k_is)
    (case k9 => k_is)
    (case a10 => k_is)
    (case l10 => k_is)
    (case c10 => k_is)
    (case k10 => k_is)
    (case a11 => k_is)
    (case l11 => k_is)
    (case c11 => k_is)
    (case k11 => k_is)
    (case a12 => k_is)
    (case l12 => k_is)
    (case c12 => k_is)
    (case k12 => k_is)
    (case a13 => k_is)
    (case l13 => k_is)
    (case c13 => k_is)
    (case k13 => k_is)
    (case a14 => k_is)
    (case l14 => k_is)
    (case c14 => k_is)
    (case k14 => k_is)
    (case a15 => k_is)
    (case l15 => k_is)
    (case c15 => k_is)
    (case k15 => k_is)
    (case a16 => k_is)
    (case l16 => k_is)
    (case c16 => k_is)
    (case k16 => k_is)
    (case a17 => k_is)
    (case l17 => k_is)
    (case c17 => k_is)
    (case k17 => k_is)
    (case a18 => k_is)
    (case l18 => k_is)
    (case c18 => k_is)
    (case k18 => k_is)
    (case a19 => k_is)
    (case l19 => k_is)
    (case c19 => k_is)
    (case k19 => k_is)
    (case a20 => k_is)
    (case l20 => k_is)
    (case c20 => k_is)
    (case k20 => k_is)
    (case a21 => k_is)
    (case l21 => k_is)
    (case c21 => k_is)
    (case k21 => k_is)
    (case a22 => k_is)
    (case l22 => k_is)
    (case c22 => k_is)
    (case k22 => k_is)
    (case a23 => k_is)
    (case l23 => k_is)
    (case c23 => k_is)
    (case k23 => k_is)
    (case a24 => k_is)
    (case l24 => k_is)
    (case c24 => k_is)
    (case k24 => k_is)
    (case a25 => k_is)
    (case l25 => k_is)
    (case c25 => k_is)
    (case k25 => k_is)
    (case a26 => k_is)
    (case l26 => k_is)
    (case c26 => k_is)
    (case k26 => k_is)
    (case lT26 => k_is)
    (case vT26 => exact ⟨_, rfl⟩)
    (case a27 => k_is)
    (case l27 => k_is)
    (case c27 => k_is)
    (case k27 => k_is)
    (case a28 => k_is)
    (case l28 => k_is)
    (case c28 => k_is)
    (case k28 => k_is)
    (case a29 => k_is)
    (case l29 => k_is)
    (case c29 => k_is)
    (case k29 => k_is)
    (case a30 => k_is)
    (case l30 => k_is)
    (case c30 => k_is)
    (case k30 => k_is)
    (case a31 => k_is)
    (case l31 => k_is)
    (case c31 => k_is)
    (case k31 => k_is)
    (case a32 => k_is)
    (case l32 => k_is)
    (case c32 => k_is)
    (case k32 => k_is)
    (case a33 => k_is)
    (case l33 => k_is)
    (case c33 => k_is)
    (case k33 => k_is)
    (case a34 => k_is)
    (case l34 => k_is)
    (case c34 => k_is)
    (case k34 => k_is)
    (case a35 => k_is)
    (case l35 => k_is)
    (case c35 => k_is)
    (case k35 => k_is)
    (case a36 => k_is)
    (case l36 => k_is)
    (case c36 => k_is)
    (case k36 => k_is)
    (case a37 => k_is)
    (case l37 => k_is)
    (case c37 => k_is)
    (case k37 => k_is)
    (case a38 => k_is)
    (case l38 => k_is)
    (case c38 => k_is)
    (case k38 => k_is)
    (case a39 => k_is)
    (case i39 => k_is)
    (case l39 => k_is)
    (case c39 => k_is)
    (case k39 => k_is)
    (case a40 => k_is)
    (case l40 => k_is)
    (case c40 => k_is)
    (case k40 => k_is)
    (case a41 => k_is)
    (case l41 => k_is)
    (case c41 => k_is)
    (case k41 => k_is)
    (case a42 => k_is)
    (case l42 => k_is)
    (case c42 => k_is)
    (case k42 => k_is)
    (case a43 => k_is)
    (case i43 => k_is)
    (case l43 => k_is)
    (case c43 => k_is)
    (case k43 => k_is)
    (case a44 => k_is)
    (case l44 => k_is)
    (case c44 => k_is)
    (case k44 => k_is)
