import PyProof.Rows.All
import Wide.All
import OpenK.AllK
import Wide.FinOn
import HandS.ForMost
import HandS.SortKw
import HandS.More
import HandS.OwnEq
import HandS.Keys
import KE.SortKeyHeap
import HandS.IsInst
import HandS.TupAny
import HandS.Wide
import HandS.ClsMeth
import HandS.Star
import HandS.CallLocal
import HandS.Codes
import KE.GoesMore
import HandS.Style
import HandS.Conv
import HandS.SetFor
import HandS.SetTxt0
import HandS.Strs
import HandS.MakeKwOnly
import KE.KStar
import HandS.Zip
import HandS.Walk
import HandS.Deep
import HandS.ExcField
import HandS.ExcIs
import HandS.ExcInit
import KE.KExcIs
import HandS.ForExc
import HandS.ListEq
import HandS.HeadEnd
import PyProof.ReprRoads
import HandS.Head0
import HandS.Head1
import HandS.Head2
import HandS.HeadHook1
import HandS.HeadHook2
import HandS.HeadNt
import PySem.Challenge.RW_speaklast_k09_tables_and_their_columns
set_option Elab.async false
set_option linter.all false
set_option maxRecDepth 100000
set_option maxHeartbeats 2000000
namespace Spk
open PySem PySem.Spec PyProof.Rows PySem.W L2

/-! ## sorted(xs, key=f), f a def of the program that keeps an L2 promise -/
theorem heap_without (h : Heap) (k : Addr) : ∃ g : Heap, g.get? k = none ∧ ∀ b, b ≠ k → g.get? b = h.get? b := by
  by_cases hk : k < h.objs.size
  · refine ⟨{ h with objs := h.objs.set k ⟨.none, none, .freed, #[]⟩ hk }, ?_, fun b hb => ?_⟩
    · unfold Heap.get?
      simp
    · unfold Heap.get?
      simp only [Array.getElem?_set, if_neg (Ne.symm hb)]
  · refine ⟨h, ?_, fun _ _ => rfl⟩
    unfold Heap.get?
    rw [Array.getElem?_eq_none (Nat.le_of_not_lt hk)]

mutual
theorem dp_same {K : Frag} {H H' : Hp} (e : Same H H') : ∀ (d : PyData) (v : V), Dp K H v d → Dp K H' v d
  | .none, _, h => by cases h; exact .non
  | .bool b, _, h => by cases h; exact .bl b
  | .int i, _, h => by cases h; exact .int i
  | .str x, _, h => by cases h; exact .str x
  | .list ds, _, h => by
    cases h with
    | lst s a => exact .lst (SqL.ext s e) (dps_same e ds _ a)
  | .tuple ds, _, h => by
    cases h with
    | tup s a => exact .tup (SqT.ext s e) (dps_same e ds _ a)
  | .dict _, _, h => by cases h
theorem dps_same {K : Frag} {H H' : Hp} (e : Same H H') : ∀ (ds : List PyData) (vs : List V), DpAll K H vs ds → DpAll K H' vs ds
  | [], _, h => by cases h; exact .nil
  | d :: ds, _, h => by
    cases h with
    | cons a b => exact .cons (dp_same e d _ a) (dps_same e ds _ b)
end

/-- a def that keeps a promise, called somewhere below the running body -/
theorem call_at {X : Cx} {n : Nat} {f : Addr} {sp : Sp} (F : FnR X.prog X.w X.K X.mg X.base CX0 n f sp) {A' : Around} (sb : Sub X n A') {pins : List (Addr × Obj)} {s : Shared} {σ : L2.St} {H : Hp} (I : Inv X pins σ H s)
    {vs : List V} {us : List Value} {Q : VK} {E : Value → Shared → Prop} (r : Vals vs us) (h : sp vs H Q E0) : wpAny (model X.prog X.w) A' (call (.ref f) us) (EP X pins σ Q) E s := by
  have e0 : Env0 X.prog X.w X.K X.mg X.base A' X.stack s H := by
    have e := I.env0
    exact ⟨by rw [sb.fr]; exact e.frames, e.mod, e.bs, e.bsz, e.funs, e.frf, e.hok, e.bare⟩
  refine wpAny_call (codeAny_mono (F A' X.stack s H us vs Q E0 sb.room e0 r h) fun r s' hq => ?_)
  cases r with
  | error e => exact False.elim hq
  | ok fl =>
    cases fl with
    | ret w => exact I.after hq
    | next => exact False.elim hq
    | brk => exact False.elim hq
    | cont => exact False.elim hq

/-- the keys told so far -/
def KeysIn (K : Frag) (H : Hp) : List Value → List PyData → Prop := EachIs fun u d => ∃ v, RelV v u ∧ Dp K H v d

structure KeyLoop (X : Cx) (pins : List (Addr × Obj)) (σ : L2.St) (H : Hp) (a kS : Addr) (e1 : Nat) (kz : List PyData) (i : Nat) (s' : Shared) : Prop where
  ex : ∃ (H' : Hp) (kA : Array Value) (e : Nat), Inv X pins σ H' s' ∧ Same H H' ∧ FpOk X pins H' a ∧ FpOk X pins H' kS ∧ s'.heap.get? kS = some (seqObj "list" kA e) ∧
    s'.heap.get? a = some (seqObj "list" #[] e1) ∧ KeysIn X.K H' kA.toList (kz.take i)

theorem key_turn {X : Cx} {n : Nat} {f : Addr} {sp : Sp} (F : FnR X.prog X.w X.K X.mg X.base CX0 n f sp) {A' : Around} (sb : Sub X n A') {pins : List (Addr × Obj)} {σ : L2.St} {H : Hp} {a kS : Addr} {e1 : Nat} {kz : List PyData} {i : Nat} {s' : Shared}
    (hka : kS ≠ a) {x : V} {u : Value} {d : PyData} (ru : RelV x u) (hd : kz[i]? = some d) (turn : ∀ H', Same H H' → sp [x] H' (fun v H'' => Same H' H'' ∧ Dp X.K H'' v d) E0) (J : KeyLoop X pins σ H a kS e1 kz i s') {E : Value → Shared → Prop} :
    wpAny (model X.prog X.w) A' (call (.ref f) [u]) (fun v s'' => ∃ (kA : Array Value) (e : Nat), s''.heap.get? kS = some (seqObj "list" kA e) ∧ kA.size ≤ i ∧
      ∀ h' : Heap, (∀ b o, b ≠ kS → s''.heap.get? b = some o → h'.get? b = some o) → (∃ e', h'.get? kS = some (seqObj "list" (kA.push v) e')) → KeyLoop X pins σ H a kS e1 kz (i + 1) { s'' with heap := h' }) E s' := by
  obtain ⟨H', kA, e, I, sm, fa, fk, nk, na, ks⟩ := J.ex
  have Ip := I.pinned (fp := [a, kS]) (fun b hb => by
      rcases List.mem_cons.mp hb with rfl | hb
      · exact fa
      · rw [List.mem_singleton.mp hb]; exact fk) (fun b hb => by
      rcases List.mem_cons.mp hb with rfl | hb
      · exact ⟨_, na, fun v z => nomatch z⟩
      · rw [List.mem_singleton.mp hb]; exact ⟨_, nk, fun v z => nomatch z⟩)
  refine wpAny_mono (call_at F sb Ip (.cons ru .nil) (turn H' sm)) (fun v s'' he => ?_) fun _ _ z => z
  obtain ⟨w, H2, I2, rw2, sm2, dp⟩ := he
  have pa := I2.pin (a, _) (List.mem_append_right _ (List.mem_append_right _ (mem_pinsAt (by simp) na)))
  have pk := I2.pin (kS, _) (List.mem_append_right _ (List.mem_append_right _ (mem_pinsAt (by simp) nk)))
  have I3 := I2.unpinned
  have hsz : kA.size ≤ i := by
    have h1 := ks.length
    rw [Array.length_toList, List.length_take] at h1
    omega
  have fk2 : FpOk X pins H2 kS := ⟨pk.2.1, fk.2⟩
  have fa2 : FpOk X pins H2 a := ⟨pa.2.1, fa.2⟩
  refine ⟨kA, e, pk.1, hsz, fun h' keep ⟨e', hk'⟩ => ⟨⟨H2, kA.push v, e', ?_, fun b o q => sm2 b o (sm b o q), fa2, fk2, hk', keep a _ (Ne.symm hka) pa.1, ?_⟩⟩⟩
  · exact I3.turnedL (t' := s''.toks) (ch := [kS]) (fun b o hb q => keep b o (by simpa using hb) q) (fun b hb => by rw [List.mem_singleton.mp hb]; exact fk2)
  · have ek : kz.take (i + 1) = kz.take i ++ [d] := by rw [List.take_add_one, hd]; simp
    have ea : (kA.push v).toList = kA.toList ++ [v] := by simp
    rw [ea, ek]
    unfold KeysIn
    refine each_snoc ⟨w, rw2, dp⟩ ?_
    exact EachIs.mono (fun u d ⟨z, rz, dz⟩ => ⟨z, rz, dp_same sm2 d z dz⟩) ks

/-- the items in the order of their keys -/
def byKeys (xs : List V) (kz : List PyData) : List V := ((xs.zip kz).mergeSort (dataLe false (·.2))).map (·.1)

theorem each_vals : ∀ {vs : List Value} {bs : List (V × PyData)}, EachIs (fun u (b : V × PyData) => RelV b.1 u) vs bs → Vals (bs.map (·.1)) vs := by
  intro vs bs h
  induction h with
  | nil => exact .nil
  | cons r _ ih => exact .cons r ih
theorem each_zip : ∀ {xs : List V} {vs : List Value} {kz : List PyData}, Vals xs vs → kz.length = xs.length → EachIs (fun u (b : V × PyData) => RelV b.1 u) vs (xs.zip kz)
  | _, _, [], .nil, _ => .nil
  | _, _, d :: kz, .cons r t, h => .cons r (each_zip t (by simpa using h))
  | _, _, [], .cons _ _, h => by simp at h
  | _, _, _ :: _, .nil, h => by simp at h

theorem sort_rest {X : Cx} {n : Nat} {f : Addr} {sp : Sp} (F : FnR X.prog X.w X.K X.mg X.base CX0 n f sp) {A' : Around} (sb : Sub X n A') {pins : List (Addr × Obj)} {σ : L2.St} {H : Hp} {a kS : Addr} {e1 : Nat} {kz : List PyData} {s : Shared} {xs : List V} {vs : List Value}
    (hka : kS ≠ a) (r : Vals xs vs) (hlen : kz.length = xs.length) (hZ : xs.length ≤ sizeLine) (hal : AllAlike kz) (hsk : Sortable kz) (hdep : ∀ d, d ∈ kz → A'.units + d.depth < cLine)
    (turn : ∀ (i : Nat) x d, xs[i]? = some x → kz[i]? = some d → ∀ H', Same H H' → sp [x] H' (fun v H'' => Same H' H'' ∧ Dp X.K H'' v d) E0)
    (J : KeyLoop X pins σ H a kS e1 kz 0 s) {P : PySem.Fin → Shared → Prop} {E : Value → Shared → Prop}
    (q : ∀ (H' : Hp) (s' : Shared) (out : List Value) (c : Nat), Inv X pins σ H' s' → Same H H' → FpOk X pins H' a → s'.heap.get? a = some (seqObj "list" out.toArray c) → Vals (byKeys xs kz) out → P (.done (.ret .none)) s') :
    wpAny (model X.prog X.w) A' (ksk_rest a (.ref f) false vs.toArray e1 (.ref kS)) P E s := by
  have hvl : vs.length = xs.length := r.length.symm
  unfold ksk_rest
  refine wpAny_bind (wpAny_rule ?_)
  rw [← Array.forIn_toList]
  refine wpAny_bind (ksk_fold (fun i s' => KeyLoop X pins σ H a kS e1 kz i s') vs 0 s J ?step ?done)
  case step =>
    intro j u s' hu J'
    simp only [Nat.zero_add] at J' ⊢
    have hj : j < vs.length := (List.getElem?_eq_some_iff.mp hu).1
    have hjx : j < xs.length := by omega
    obtain ⟨u', hu', ru⟩ := r.get (i := j) (List.getElem?_eq_getElem hjx)
    rw [hu] at hu'
    cases hu'
    have hjk : j < kz.length := by omega
    refine wpAny_bind (wpAny_attempt (wpAny_mono (key_turn F sb hka ru (List.getElem?_eq_getElem hjk) (turn j _ _ (List.getElem?_eq_getElem hjx) (List.getElem?_eq_getElem hjk)) J') (fun v s'' he => ?_) fun _ _ hF => hF))
    obtain ⟨kA, e, nk, hs, go⟩ := he
    try dsimp only
    have s1 := Heap.SameBut.update s''.heap kS (Obj.mapSeq (·.push v))
    have hks : kA.size ≤ sizeLine := by omega
    refine wpAny_bind (listUpdate_at nk rfl ?_ hks (Nat.le_trans (Nat.le_of_eq (Array.size_push ..)) (Nat.succ_le_succ hks)))
    exact wpAny_pure ⟨rfl, go _ (fun b o hb z => (s1.2 b hb).trans z) ⟨_, get?_update_seq nk (·.push v)⟩⟩
  case done =>
    intro s' J'
    obtain ⟨H', kA, e, I, sm, fa, fk, nk, na, ks⟩ := J'.ex
    rw [Nat.zero_add, hvl, ← hlen, List.take_length] at ks
    have hk' : EachIs (fun v k => ∃ as, Reads s'.heap v k as) kA.toList kz := EachIs.mono (fun u d ⟨z, rz, dz⟩ => Dp.reads I d z u dz rz) ks
    have hsz : kA.size = vs.length := by
      have h1 := hk'.length
      rw [Array.length_toList] at h1
      omega
    refine wpAny_bind (listItems_at nk rfl ?_)
    obtain ⟨g, g0, g1⟩ := heap_without s'.heap kS
    have kp : KeepsBut a g s'.heap := fun b o _ z => by
      by_cases hb : b = kS
      · rw [hb, g0] at z; cases z
      · rw [← g1 b hb]; exact z
    refine keyH_end (κ := dataKind s'.heap kz) (h₁ := g) kp g0 nk na hka (SortsAt.data hk' hal hsk hdep) hsz (by omega) fun h3 tk3 c k3 n3 => ?_
    have keep : ∀ b o, b ∉ [a, kS] → s'.heap.get? b = some o → h3.get? b = some o := fun b o hb z => by
      simp only [List.mem_cons, List.not_mem_nil, or_false, not_or] at hb
      exact k3 b o hb.1 (by rw [g1 b hb.2]; exact z)
    refine q H' _ _ c (I.turnedL (ch := [a, kS]) keep (fun b hb => ?_)) sm fa n3 ?_
    · rcases List.mem_cons.mp hb with rfl | hb
      · exact fa
      · rw [List.mem_singleton.mp hb]; exact fk
    · have ko : KeyedOut false ((xs.zip kz).map (·.2)) vs (sortVals (dataKind s'.heap kz) false kA.toList vs) := by
        rw [List.map_snd_zip (by omega)]
        exact ⟨s'.heap, kA.toList, hal, rfl, hk'⟩
      exact each_vals (keyedOut_each (·.2) ko (each_zip r hlen))

theorem sort_tree {X : Cx} {n : Nat} {f : Addr} {sp : Sp} (F : FnR X.prog X.w X.K X.mg X.base CX0 n f sp) {A' : Around} (sb : Sub X n A') {pins : List (Addr × Obj)} {σ : L2.St} {H : Hp} {kz : List PyData} {s : Shared} {xs : List V} {vs : List Value}
    (I : Inv X pins σ H s) (r : Vals xs vs) (hlen : kz.length = xs.length) (hZ : xs.length ≤ sizeLine) (hal : AllAlike kz) (hsk : Sortable kz) (hdep : ∀ d, d ∈ kz → A'.units + d.depth < cLine)
    (turn : ∀ (i : Nat) x d, xs[i]? = some x → kz[i]? = some d → ∀ H', Same H H' → sp [x] H' (fun v H'' => Same H' H'' ∧ Dp X.K H'' v d) E0)
    {P : PySem.Fin → Shared → Prop} {E : Value → Shared → Prop}
    (q : ∀ (H' : Hp) (s' : Shared), Inv X pins σ (upd H' s.heap.objs.size (.lst (byKeys xs kz))) s' → Same H H' → H' s.heap.objs.size = none → P (.done (.ret .none)) s') :
    wpAny (model X.prog X.w) A' (ksk_tree s.heap.objs.size (.ref f) false) P E { s with heap := s.heap.push (seqObj "list" vs.toArray 0) } := by
  have hvl : vs.length = xs.length := r.length.symm
  have hvz : vs.toArray.size ≤ sizeLine := by rw [List.size_toArray]; omega
  have ho : (s.heap.push (seqObj "list" vs.toArray 0)).get? s.heap.objs.size = some (seqObj "list" vs.toArray 0) := Heap.get?_push_size _ rfl
  have s1 := Heap.SameBut.update (s.heap.push (seqObj "list" vs.toArray 0)) s.heap.objs.size (Obj.mapSeq fun _ => (#[] : Array Value))
  obtain ⟨e1, ho1⟩ : ∃ e1, ((s.heap.push (seqObj "list" vs.toArray 0)).update s.heap.objs.size (Obj.mapSeq fun _ => (#[] : Array Value))).get? s.heap.objs.size = some (seqObj "list" #[] e1) :=
    ⟨_, get?_update_seq ho fun _ => #[]⟩
  have hk : (((s.heap.push (seqObj "list" vs.toArray 0)).update s.heap.objs.size (Obj.mapSeq fun _ => (#[] : Array Value))).push (seqObj "tuple" vs.toArray 0)).objs.size = s.heap.objs.size + 2 := by
    rw [size_push', Heap.size_update, size_push']
  have Ha : H s.heap.objs.size = none := I.hok.fresh (Nat.le_refl _)
  have Hk : H (s.heap.objs.size + 2) = none := I.hok.fresh (Nat.le_add_right _ _)
  unfold ksk_tree
  refine wpAny_bind (listItems_at ho rfl ?_)
  refine wpAny_bind (listUpdate_at ho rfl ?_ hvz (Nat.zero_le _))
  refine wpAny_bind (seqEpoch_at ho1 rfl ?_)
  refine wpAny_bind (wpAny_newTuple ?_ (by show vs.length ≤ _; omega))
  refine wpAny_bind (wpAny_newList ?_ (Nat.zero_le _))
  refine wpAny_holding ?_
  rw [hk]
  refine sort_rest F sb (pins := pins) (σ := σ) (H := H) (a := s.heap.objs.size) (kS := s.heap.objs.size + 2) (Nat.ne_of_gt (Nat.lt_add_of_pos_right (by decide))) r hlen hZ hal hsk hdep turn ⟨H, #[], 0, ?_, Same.refl H, I.fpOk (Nat.le_refl _) Ha, I.fpOk (Nat.le_add_right _ _) Hk, ?_, ?_, ?_⟩ ?_
  · exact I.kept (t' := s.toks) fun b o e => by
      refine Heap.get?_push_of_some _ (Heap.get?_push_of_some _ ?_)
      rw [s1.2 b (Nat.ne_of_lt (Heap.lt_size e))]
      exact Heap.get?_push_of_some _ e
  · have := Heap.get?_push_size (((s.heap.push (seqObj "list" vs.toArray 0)).update s.heap.objs.size (Obj.mapSeq fun _ => (#[] : Array Value))).push (seqObj "tuple" vs.toArray 0)) (o := seqObj "list" #[] 0) rfl
    rw [hk] at this
    exact this
  · exact Heap.get?_push_of_some _ (Heap.get?_push_of_some _ ho1)
  · rw [List.take_zero]
    exact EachIs.nil
  · intro H' s' out c I' sm fa na ro
    refine q H' s' ?_ sm fa.1
    have z : (byKeys xs kz).length ≤ sizeLine := by
      unfold byKeys
      rw [List.length_map, List.length_mergeSort, List.length_zip]
      omega
    exact I'.take (it := s.heap.objs.size) (t' := s'.toks) (fun b ob _ e => e) fa ⟨z, out, c, ro, na⟩

/-- sorted(xs, key=f), xs a list or a tuple: what it asks -/
def rSortKey (K : Frag) (f : Addr) (sp : Sp) : List V → List V → Hp → VK → Prop := fun vs zs H Q => ∃ (l : Addr) (xs : List V) (kz : List PyData), vs = [V.ref l] ∧ zs = [V.ref f] ∧ (SqL K H l xs ∨ SqT K H l xs) ∧
  kz.length = xs.length ∧ AllAlike kz ∧ Sortable kz ∧ (∀ d, d ∈ kz → d.depth ≤ 100) ∧
  (∀ (i : Nat) x d, xs[i]? = some x → kz[i]? = some d → ∀ H', Same H H' → sp [x] H' (fun v H'' => Same H' H'' ∧ Dp K H'' v d) E0) ∧
  ∀ (H' : Hp) (p : Addr), Same H H' → H' p = none → Q (.ref p) (upd H' p (.lst (byKeys xs kz)))

theorem cr_sortKey {X : Cx} {n : Nat} {f : Addr} {sp : Sp} (F : FnR X.prog X.w X.K X.mg X.base CX0 n f sp) (hr : Room (n + 2) X.A) : CallRK X (.builtin "sorted") [Str.ofString "key"] (rSortKey X.K f sp) := by
  intro pins s σ H vs zs us ws Q I r1 r2 h
  obtain ⟨l, xs, kz, rfl, rfl, hl, hlen, hal, hsk, hdep, turn, q⟩ := h
  obtain ⟨u, rfl, ru⟩ := r1.one
  obtain ⟨y, rfl, ry⟩ := r2.one
  cases ru
  cases ry
  show wpAny (model X.prog X.w) X.A (call (.builtin "sorted") [.ref l] [(Str.ofString "key", .ref f)]) (EP X pins σ Q) X.xe s
  have sb : Sub X n X.A.in1.in1 := Sub.in1 (Sub.in1 ⟨hr, rfl⟩)
  obtain ⟨T, o, its, k, hT, ho, hc, hd, r, z⟩ : ∃ (T : String) (o : Obj) (its : List Value) (k : Nat), (T = "list" ∨ T = "tuple") ∧ s.heap.get? l = some o ∧ o.cls = .type T ∧ o.data = .seq its.toArray k ∧ Vals xs its ∧ xs.length ≤ sizeLine := by
    rcases hl with hl | hl
    · obtain ⟨its, r, ⟨o, k, ho, hc, _, hd⟩, z⟩ := I.list hl
      exact ⟨"list", o, its, k, .inl rfl, ho, hc, hd, r, z⟩
    · obtain ⟨its, r, ⟨o, ho, hc, k, hd⟩, z⟩ := I.tuple hl
      exact ⟨"tuple", o, its, k, .inr rfl, ho, hc, hd, r, z⟩
  have hsz : its.length ≤ sizeLine := by rw [← r.length]; exact z
  refine call_function_entry_kw kind_sorted plain_sorted entry_sorted (ksk_s1 _ _) ?_
  unfold Builtin.«sorted»
  refine wpAny_bind (m := checkCount "sorted" 1 1 _) (wpAny_pure ?_)
  refine wpAny_bind (wpAny_collect_seq l hT ho hc hd (fun h' hk => ?_) (by rw [List.size_toArray]; exact hsz))
  have I1 : Inv X pins σ H { s with heap := h' } := I.kept (t' := s.toks) hk
  refine wpAny_bind (wpAny_newList ?_ hsz)
  refine wpAny_bind (wpAny_holding (wpAny_call_entry_kw slot_list_sort ⟨_, Heap.get?_push_size h' rfl, rfl⟩ entry_list_sort ?body (ksk_l1 _ _)))
  case body =>
    rw [ksk_t1]
    refine sort_tree F (s := { s with heap := h' }) sb I1 r hlen z hal hsk (fun d hd => ?_) turn fun H' s' J sm hn => ?_
    · have h1 := hr.un
      have h2 := hdep d hd
      show X.A.units + 1 + 1 + d.depth < cLine
      omega
    · exact ⟨.none, rfl, wpAny_pure ⟨_, rfl, ⟨V.ref h'.objs.size, _, J, rfl, q H' _ sm hn⟩⟩⟩
end Spk

set_option Elab.async false
set_option linter.all false
set_option maxRecDepth 100000
set_option maxHeartbeats 2000000
namespace Spk
open PySem PySem.Spec PyProof.Rows PySem.W L2

/-! ## operators of a class of the program's own -/
section
variable {X : Cx} {n : Nat} {C f : Addr} {sp : Sp}

theorem relR (a : Addr) : RelV (.ref a) (.ref a) := rfl
theorem relB (b : Bool) : RelV (.bl b) (.bool b) := rfl
theorem rel_back {w : V} {r : Value} {Q : Value → Shared → Prop} {s' : Shared} (h : RelV w r) (q : Q r s') : PySem.W.CmpBack Q r s' := by
  cases w with
  | non => cases h; exact q
  | bl b => cases h; exact q
  | int i => obtain ⟨t, rfl⟩ := h; exact q
  | str x => obtain ⟨t, rfl⟩ := h; exact q
  | byt x => obtain ⟨t, rfl⟩ := h; exact q
  | flt x => obtain ⟨t, rfl⟩ := h; exact q
  | ref a => cases h; exact q
  | ty n => cases h; exact q
theorem sub0 {k : Nat} (hr : Room k X.A) : Sub X k X.A := ⟨hr, rfl⟩

/-- an instance as the library's rules want it -/
theorem inst_of {pins : List (Addr × Obj)} {s : Shared} {σ : L2.St} {H : Hp} {a dx : Addr} {fs : List (Str × V)} (I : Inv X pins σ H s) (h : H a = some (.ins C dx fs)) :
    ∃ od, InstAt s.heap a (instObj C dx) C (some od) := by
  obtain ⟨mA, O, _⟩ := ins_get I.hok h
  obtain ⟨od, J, _⟩ := O.look
  exact ⟨od, J⟩

/-- a op b, both instances of C, by C's method -/
def rBin (C : Addr) (sp : Sp) : R2 := fun x y H Q => ∃ a b dx dy fs gs, x = .ref a ∧ y = .ref b ∧ H a = some (.ins C dx fs) ∧ H b = some (.ins C dy gs) ∧ sp [.ref a, .ref b] H Q E0
theorem op_own {op : Operator} (F : FnR X.prog X.w X.K X.mg X.base CX0 n f sp) (hr : Room n X.A) (hc : selfFirst X.K C = true) (hs : findIn X.K (.ref C) (PySem.dunder op.info.2) = some (some (.ref f))) (hf : isFn X.K (.ref f) = true) :
    OpR X (binaryOp op) (rBin C sp) := by
  intro pins s σ H x y v u Q I rx ry h
  obtain ⟨a, b, dx, dy, fs, gs, rfl, rfl, ha, hb, q⟩ := h
  cases rx
  cases ry
  obtain ⟨oa, ja⟩ := inst_of I ha
  obtain ⟨ob, jb⟩ := inst_of I hb
  obtain ⟨m, hF⟩ := I.fr
  refine binop_K hF I.ok.mod.kin ja jb.type hc hs hf ?_
  refine wpAny_mono (call_at F (sub0 hr) I (.cons (relR _) (.cons (relR _) .nil)) q) (fun r s' z => ?_) fun _ _ z => z
  obtain ⟨w, H', I', rw', q'⟩ := id z
  exact rel_back rw' z

/-- ~a -/
def rUno (C : Addr) (sp : Sp) : V → Hp → VK → Prop := fun x H Q => ∃ a dx fs, x = .ref a ∧ H a = some (.ins C dx fs) ∧ sp [.ref a] H Q E0
theorem un_own (F : FnR X.prog X.w X.K X.mg X.base CX0 n f sp) (hr : Room n X.A) (hs : findIn X.K (.ref C) "__invert__" = some (some (.ref f))) (hf : isFn X.K (.ref f) = true) :
    UnR X (unaryOp .Invert) (rUno C sp) := by
  intro pins s σ H x v Q I rx h
  obtain ⟨a, dx, fs, rfl, ha, q⟩ := h
  cases rx
  obtain ⟨oa, ja⟩ := inst_of I ha
  obtain ⟨m, hF⟩ := I.fr
  exact ksp_inv hF I.ok.mod.kin ja hs hf (call_at F (sub0 hr) I (.cons (relR _) .nil) q)

/-- x in a, x not in a -/
def rInO (C : Addr) (sp : Sp) (neg : Bool) : R2 := fun x y H Q => ∃ b dy gs, y = .ref b ∧ H b = some (.ins C dy gs) ∧ sp [.ref b, x] H (fun v H' => ∃ k, v = .bl k ∧ Q (.bl (if neg then !k else k)) H') E0
theorem op_inO (F : FnR X.prog X.w X.K X.mg X.base CX0 n f sp) (hr : Room n X.A) (hs : findIn X.K (.ref C) "__contains__" = some (some (.ref f))) (hf : isFn X.K (.ref f) = true) :
    OpR X (compareOp .In) (rInO C sp false) := by
  intro pins s σ H x y v u Q I rx ry h
  obtain ⟨b, dy, gs, rfl, hb, q⟩ := h
  cases ry
  obtain ⟨ob, jb⟩ := inst_of I hb
  obtain ⟨m, hF⟩ := I.fr
  refine in_K hF I.ok.mod.kin jb hs hf ?_
  refine wpAny_mono (call_at F (sub0 hr) I (.cons (relR _) (.cons rx .nil)) q) (fun r s' z => ?_) fun _ _ z => z
  obtain ⟨w, H', I', rw', k, rfl, q'⟩ := z
  cases rw'
  exact wpAny_truthy_bool ⟨_, H', I', relB _, q'⟩
theorem op_notInO (F : FnR X.prog X.w X.K X.mg X.base CX0 n f sp) (hr : Room n X.A) (hs : findIn X.K (.ref C) "__contains__" = some (some (.ref f))) (hf : isFn X.K (.ref f) = true) :
    OpR X (compareOp .NotIn) (rInO C sp true) := by
  intro pins s σ H x y v u Q I rx ry h
  obtain ⟨b, dy, gs, rfl, hb, q⟩ := h
  cases ry
  obtain ⟨ob, jb⟩ := inst_of I hb
  obtain ⟨m, hF⟩ := I.fr
  refine notIn_K hF I.ok.mod.kin jb hs hf ?_
  refine wpAny_mono (call_at F (sub0 hr) I (.cons (relR _) (.cons rx .nil)) q) (fun r s' z => ?_) fun _ _ z => z
  obtain ⟨w, H', I', rw', k, rfl, q'⟩ := z
  cases rw'
  exact wpAny_truthy_bool ⟨_, H', I', relB _, q'⟩

/-- a == y, a an instance of C with its own ==, y anything of a known type that is no subclass of C -/
def rEqO (K : Frag) (C : Addr) (sp : Sp) : R2 := fun x y H Q => ∃ a dx fs t, x = .ref a ∧ H a = some (.ins C dx fs) ∧ TyX K H y t ∧ notFirst K C t = true ∧ sp [.ref a, y] H (fun v H' => ∃ k, v = .bl k ∧ Q (.bl k) H') E0
theorem op_eqO (F : FnR X.prog X.w X.K X.mg X.base CX0 n f sp) (hr : Room n X.A) (hs : findIn X.K (.ref C) "__eq__" = some (some (.ref f))) (hf : isFn X.K (.ref f) = true) :
    OpR X (compareOp .Eq) (rEqO X.K C sp) := by
  intro pins s σ H x y v u Q I rx ry h
  obtain ⟨a, dx, fs, t, rfl, ha, ty, nf, q⟩ := h
  cases rx
  obtain ⟨oa, ja⟩ := inst_of I ha
  obtain ⟨m, hF⟩ := I.fr
  obtain ⟨P, kx, hp, _⟩ := kit_of I ry ty
  show wpAny (model X.prog X.w) X.A (richCompare .Eq (.ref a) u) (EP X pins σ Q) X.xe s
  refine cmp_K (op := .Eq) hr.units0 hF I.ok.mod.kin ja (kx.ty _ _ I.kIn hp) nf hs hf ?_
  refine wpAny_mono (call_at F (sub0 hr) I (.cons (relR _) (.cons ry .nil)) q) (fun r s' z => ?_) fun _ _ z => z
  obtain ⟨w, H', I', rw', k, rfl, q'⟩ := z
  cases rw'
  exact ⟨_, H', I', relB _, q'⟩

/-! ### a != y: object.__ne__ turns the own == round -/
theorem ifBoundB {M : Model} {A : Around} {E : Value → Shared → Prop} {s : Shared} {K : Frag} {x : Addr} {ox : Obj} {od : Option Obj} {name : Str} {id : String} {args : List Value} {Q : Option Value → Shared → Prop} (Xk : K.In s.heap) (I : InstAt s.heap x ox C od)
    (hs : findIn K (.ref C) name = some (some (.builtin id))) (hb : ∀ self, bindSpecial (.builtin id) self = pure (.builtin id, [self]))
    (h : wpAny M A (call (.builtin id) (.ref x :: args)) (fun v => Q (some v)) E s) : wpAny M A (callSpecialIfBound? (.ref x) name args) Q E s := by
  simp only [callSpecialIfBound?, bindSpecialIfBound?]
  refine wpAny_holding (wpAny_bind (wpAny_bind (wpAny_bind (I.type.here ((looks_findIn Xk hs).here ?_)))))
  simp only [hb]
  have fin : wpAny M A (call (.builtin id) ([.ref x] ++ args) >>= fun v => pure (some v)) Q E s :=
    wpAny_bind (wpAny_mono h (fun v s' z => wpAny_pure z) fun _ _ z => z)
  refine wpAny_bind (wpAny_askSetting (wpAny_ite ?_))
  split
  · exact wpAny_bind (wpAny_pure (wpAny_pure fin))
  · exact wpAny_tryCatch (wpAny_bind (wpAny_pure (wpAny_pure fin)))

theorem call_ne {pins : List (Addr × Obj)} {s : Shared} {σ : L2.St} {H : Hp} {a dx : Addr} {fs : List (Str × V)} {y : V} {u : Value} {Q : VK} {E : Value → Shared → Prop} {A : Around} (F : FnR X.prog X.w X.K X.mg X.base CX0 n f sp) (sb : Sub X (n + 1) A)
    (hs : findIn X.K (.ref C) "__eq__" = some (some (.ref f))) (hf : isFn X.K (.ref f) = true) (hob : subIn X.K (.ref C) (.type "object") = some true)
    (I : Inv X pins σ H s) (ha : H a = some (.ins C dx fs)) (ry : RelV y u) (q : sp [.ref a, y] H (fun v H' => ∃ k, v = .bl k ∧ Q (.bl (!k)) H') E0) :
    wpAny (model X.prog X.w) A (call (.builtin "object.__ne__") [.ref a, u]) (EP X pins σ fun v H' => (∃ k, v = .bl k) ∧ Q v H') E s := by
  obtain ⟨oa, ja⟩ := inst_of I ha
  have li : Looks (model X.prog X.w) s.heap (isInstance (.ref a) (.type "object")) true := ja.type.andThen (looks_subIn I.kIn hob)
  refine wpAny_call (codeAny_call_builtin PySem.F.cmp_object.ne.plain PySem.F.cmpEntry_ne (check_slot PySem.F.cmpKind_ne PySem.F.cmpSplit_ne li (PySem.F.cmpArgs_ne _ _) ?_))
  have body : wpAny (model X.prog X.w) A.in1 (Builtin.«object.__ne__» ⟨[.ref a, u], []⟩) (fun fin s' => ∃ v, fin = .done (.ret v) ∧ EP X pins σ (fun v H' => (∃ k, v = .bl k) ∧ Q v H') v s') (fun _ _ => False) s := by
    unfold Builtin.«object.__ne__»
    have hu : A.in1.units < cLine := sb.in1.room.units0
    refine wpAny_bind (wpAny_pure ?_)
    dsimp only
    refine wpAny_bind (wpAny_cRoomFor hu ?_)
    refine wpAny_bind (ifBound_K I.kIn ja hs hf (wpAny_mono (call_at F sb.in1 I (.cons (relR _) (.cons ry .nil)) q) (fun r s' z => ?_) fun _ _ z => z))
    obtain ⟨w, H', I', rw', k, rfl, q'⟩ := z
    cases rw'
    dsimp only
    refine wpAny_bind (wpAny_truthy_bool ?_)
    exact wpAny_pure ⟨_, rfl, _, H', I', relB _, ⟨_, rfl⟩, q'⟩
  refine wpAny_mono body (fun fin s' z => ?_) fun _ _ z => z.elim
  obtain ⟨v, rfl, z⟩ := z
  exact z
end
end Spk

set_option Elab.async false
set_option linter.all false
set_option maxRecDepth 100000
set_option maxHeartbeats 2000000
namespace Spk
open PySem PySem.Spec PyProof.Rows PySem.W L2
open AutoSeq1 (wpAny_loadPart')
open MeetsSeq MeetsSeq2 MeetsSeq3 SeqRoads2

/-! ## built-in == and != decline an instance of an own class -/
section
variable {prog : Program} {w : World} {x C dx : Addr}
theorem int_eq_dec (b : Int) (u : Tok) : Meets (Builtin.«int.__eq__» ⟨[.int b u, .ref x], []⟩) (fun _ R s => s.heap.get? x = some (instObj C dx) ∧ R (.ok (.ret .notImplemented)) s) :=
  .of_wp fun prog w A R s h => by obtain ⟨hp, g, d, tk, os⟩ := s; obtain ⟨hl, h⟩ := h; unfold instObj at hl; wp_walk using wpAny_loadPart' hl, wpAny_load hl; exact ⟨_, rfl, h⟩
theorem int_ne_dec (b : Int) (u : Tok) : Meets (Builtin.«int.__ne__» ⟨[.int b u, .ref x], []⟩) (fun _ R s => s.heap.get? x = some (instObj C dx) ∧ R (.ok (.ret .notImplemented)) s) :=
  .of_wp fun prog w A R s h => by obtain ⟨hp, g, d, tk, os⟩ := s; obtain ⟨hl, h⟩ := h; unfold instObj at hl; wp_walk using wpAny_loadPart' hl, wpAny_load hl; exact ⟨_, rfl, h⟩
theorem bool_eq_dec (b : Bool) : Meets (Builtin.«int.__eq__» ⟨[.bool b, .ref x], []⟩) (fun _ R s => s.heap.get? x = some (instObj C dx) ∧ R (.ok (.ret .notImplemented)) s) :=
  .of_wp fun prog w A R s h => by obtain ⟨hp, g, d, tk, os⟩ := s; obtain ⟨hl, h⟩ := h; unfold instObj at hl; wp_walk using wpAny_loadPart' hl, wpAny_load hl; exact ⟨_, rfl, h⟩
theorem bool_ne_dec (b : Bool) : Meets (Builtin.«int.__ne__» ⟨[.bool b, .ref x], []⟩) (fun _ R s => s.heap.get? x = some (instObj C dx) ∧ R (.ok (.ret .notImplemented)) s) :=
  .of_wp fun prog w A R s h => by obtain ⟨hp, g, d, tk, os⟩ := s; obtain ⟨hl, h⟩ := h; unfold instObj at hl; wp_walk using wpAny_loadPart' hl, wpAny_load hl; exact ⟨_, rfl, h⟩
theorem str_eq_dec (b : Str) (u : Tok) : Meets (Builtin.«str.__eq__» ⟨[.str b u, .ref x], []⟩) (fun _ R s => s.heap.get? x = some (instObj C dx) ∧ R (.ok (.ret .notImplemented)) s) :=
  .of_wp fun prog w A R s h => by obtain ⟨hp, g, d, tk, os⟩ := s; obtain ⟨hl, h⟩ := h; unfold instObj at hl; wp_walk using wpAny_loadPart' hl, wpAny_load hl; exact ⟨_, rfl, h⟩
theorem str_ne_dec (b : Str) (u : Tok) : Meets (Builtin.«str.__ne__» ⟨[.str b u, .ref x], []⟩) (fun _ R s => s.heap.get? x = some (instObj C dx) ∧ R (.ok (.ret .notImplemented)) s) :=
  .of_wp fun prog w A R s h => by obtain ⟨hp, g, d, tk, os⟩ := s; obtain ⟨hl, h⟩ := h; unfold instObj at hl; wp_walk using wpAny_loadPart' hl, wpAny_load hl; exact ⟨_, rfl, h⟩
end

/-- values of built-in kinds that an instance is compared with -/
inductive Odd (H : Hp) : V → String → Prop where
  | non : Odd H .non "NoneType"
  | bl (b : Bool) : Odd H (.bl b) "bool"
  | int (i : Int) : Odd H (.int i) "int"
  | str (x : Str) : Odd H (.str x) "str"
  | lst {a : Addr} {xs : List V} (h : H a = some (.lst xs)) : Odd H (.ref a) "list"
  | tup {a : Addr} {xs : List V} (h : H a = some (.tup xs)) : Odd H (.ref a) "tuple"
theorem Odd.ty {K : Frag} {H : Hp} {y : V} {T : String} (h : Odd H y T) : TyX K H y (.type T) := by
  cases h with
  | non => exact .base .non
  | bl b => exact .base (.bl b)
  | int i => exact .base (.int i)
  | str x => exact .base (.str x)
  | lst h => exact .base (.lst h)
  | tup h => exact .base (.tup h)

/-- what the text says of a class: it is over no built-in type -/
structure Bare (K : Frag) (C : Addr) : Prop where
  o : subIn K (.ref C) (.type "object") = some true
  n : subIn K (.ref C) (.type "NoneType") = some false
  b : subIn K (.ref C) (.type "bool") = some false
  i : subIn K (.ref C) (.type "int") = some false
  s : subIn K (.ref C) (.type "str") = some false
  l : subIn K (.ref C) (.type "list") = some false
  t : subIn K (.ref C) (.type "tuple") = some false
theorem Bare.odd {K : Frag} {C : Addr} {H : Hp} {y : V} {T : String} (B : Bare K C) (h : Odd H y T) : subIn K (.ref C) (.type T) = some false := by
  cases h with
  | non => exact B.n
  | bl b => exact B.b
  | int i => exact B.i
  | str x => exact B.s
  | lst h => exact B.l
  | tup h => exact B.t

section
variable {X : Cx} {pins : List (Addr × Obj)} {s : Shared} {σ : L2.St} {H : Hp} {a C dx : Addr} {fs : List (Str × V)} {y : V} {u : Value} {T : String} {A : Around} {E : Value → Shared → Prop} {Q : Option Value → Shared → Prop}
theorem list_dec {l : Addr} {T : String} {name : Str} {id : String} {B : Builtin} (I : Inv X pins σ H s) (ha : H a = some (.ins C dx fs)) (hno : subIn X.K (.ref C) (.type T) = some false) (slot : Slot T name id) (hT : s.TypeIs (.ref l) T)
    (entry : entryFor table id = some B) (args : argsOk id ⟨[.ref l, .ref a], []⟩)
    (hB : ∀ (A : Around) (P : PySem.Fin → Shared → Prop) (E : Value → Shared → Prop), Looks (model X.prog X.w) s.heap (isInstance (.ref a) (.type T)) false → P (.done (.ret .notImplemented)) s → wpAny (model X.prog X.w) A (B ⟨[.ref l, .ref a], []⟩) P E s)
    (q : Q none s) : wpAny (model X.prog X.w) A (tryCompare (.ref l) name (.ref a)) Q E s := by
  obtain ⟨oa, ja⟩ := inst_of I ha
  have li : Looks (model X.prog X.w) s.heap (isInstance (.ref a) (.type T)) false := ja.type.andThen (looks_subIn I.kIn hno)
  refine wpAny_tryCompare_declines hT slot ?_
  refine GQ.call_here slot hT entry args ?_
  exact hB _ _ _ li ⟨rfl, q⟩
theorem try_dec_eq (B : Bare X.K C) (I : Inv X pins σ H s) (ha : H a = some (.ins C dx fs)) (o : Odd H y T) (ry : RelV y u) (q : Q none s) : wpAny (model X.prog X.w) A (tryCompare u "__eq__" (.ref a)) Q E s := by
  obtain ⟨oa, ja⟩ := inst_of I ha
  cases o with
  | non =>
    cases ry
    exact wpAny_tryCompare_declines (T := "NoneType") rfl PySem.F.slot_NoneType_eq (call_gives PySem.F.slot_NoneType_eq rfl PySem.F.entry_NoneType_eq (PySem.F.args_NoneType_eq_2 _ _) (SeqAt.NoneType___eq___none_ref_0 a) (show _ ∧ _ from ⟨rfl, q⟩))
  | bl b =>
    cases ry
    exact wpAny_tryCompare_declines (T := "bool") rfl PySem.F.slot_bool_eq (call_meets PySem.F.slot_bool_eq rfl PySem.F.entry_int_eq (PySem.F.args_int_eq_2 _ _) (bool_eq_dec (C := C) (dx := dx) b) ⟨ja.at_, rfl, q⟩)
  | int i =>
    obtain ⟨t, rfl⟩ := ry
    exact wpAny_tryCompare_declines (T := "int") (typeIs_int s i t) PySem.F.slot_int_eq (call_meets PySem.F.slot_int_eq (typeIs_int s i t) PySem.F.entry_int_eq (PySem.F.args_int_eq_2 _ _) (int_eq_dec (C := C) (dx := dx) i t) ⟨ja.at_, rfl, q⟩)
  | str x =>
    obtain ⟨t, rfl⟩ := ry
    exact wpAny_tryCompare_declines (T := "str") (typeIs_str s x t) PySem.F.slot_str_eq (call_meets PySem.F.slot_str_eq (typeIs_str s x t) PySem.F.entry_str_eq (PySem.F.args_str_eq_2 _ _) (str_eq_dec (C := C) (dx := dx) x t) ⟨ja.at_, rfl, q⟩)
  | lst h =>
    cases ry
    obtain ⟨_, its, k, _, e⟩ := (show ObjOk X.prog X.w H s.heap _ (.lst _) from I.hok _ _ h)
    refine list_dec I ha B.l PySem.F.slot_list_eq ⟨_, e, rfl⟩ PySem.F.entry_list_eq (PySem.F.args_list_eq_2 _ _) (fun A P E li q => ?_) q
    obtain ⟨hp, g, d, tk, os⟩ := s
    wp_walk using li.here
    exact q
  | tup h =>
    cases ry
    obtain ⟨_, its, _, o, e, c⟩ := (show ObjOk X.prog X.w H s.heap _ (.tup _) from I.hok _ _ h)
    refine list_dec I ha B.t PySem.F.slot_tuple_eq ⟨_, e, c.1⟩ PySem.F.entry_tuple_eq (PySem.F.args_tuple_eq_2 _ _) (fun A P E li q => ?_) q
    obtain ⟨hp, g, d, tk, os⟩ := s
    wp_walk using li.here
    exact q
theorem try_dec_ne (B : Bare X.K C) (I : Inv X pins σ H s) (ha : H a = some (.ins C dx fs)) (o : Odd H y T) (ry : RelV y u) (q : Q none s) : wpAny (model X.prog X.w) A (tryCompare u "__ne__" (.ref a)) Q E s := by
  obtain ⟨oa, ja⟩ := inst_of I ha
  cases o with
  | non =>
    cases ry
    exact wpAny_tryCompare_declines (T := "NoneType") rfl PySem.F.slot_NoneType_ne (call_gives PySem.F.slot_NoneType_ne rfl PySem.F.entry_NoneType_ne (PySem.F.args_NoneType_ne_2 _ _) (SeqAt.NoneType___ne___none_ref_0 a) (show _ ∧ _ from ⟨rfl, q⟩))
  | bl b =>
    cases ry
    exact wpAny_tryCompare_declines (T := "bool") rfl PySem.F.slot_bool_ne (call_meets PySem.F.slot_bool_ne rfl PySem.F.entry_int_ne (PySem.F.args_int_ne_2 _ _) (bool_ne_dec (C := C) (dx := dx) b) ⟨ja.at_, rfl, q⟩)
  | int i =>
    obtain ⟨t, rfl⟩ := ry
    exact wpAny_tryCompare_declines (T := "int") (typeIs_int s i t) PySem.F.slot_int_ne (call_meets PySem.F.slot_int_ne (typeIs_int s i t) PySem.F.entry_int_ne (PySem.F.args_int_ne_2 _ _) (int_ne_dec (C := C) (dx := dx) i t) ⟨ja.at_, rfl, q⟩)
  | str x =>
    obtain ⟨t, rfl⟩ := ry
    exact wpAny_tryCompare_declines (T := "str") (typeIs_str s x t) PySem.F.slot_str_ne (call_meets PySem.F.slot_str_ne (typeIs_str s x t) PySem.F.entry_str_ne (PySem.F.args_str_ne_2 _ _) (str_ne_dec (C := C) (dx := dx) x t) ⟨ja.at_, rfl, q⟩)
  | lst h =>
    cases ry
    obtain ⟨_, its, k, _, e⟩ := (show ObjOk X.prog X.w H s.heap _ (.lst _) from I.hok _ _ h)
    refine list_dec I ha B.l PySem.F.slot_list_ne ⟨_, e, rfl⟩ PySem.F.entry_list_ne (PySem.F.args_list_ne_2 _ _) (fun A P E li q => ?_) q
    obtain ⟨hp, g, d, tk, os⟩ := s
    wp_walk using li.here
    exact q
  | tup h =>
    cases ry
    obtain ⟨_, its, _, o, e, c⟩ := (show ObjOk X.prog X.w H s.heap _ (.tup _) from I.hok _ _ h)
    refine list_dec I ha B.t PySem.F.slot_tuple_ne ⟨_, e, c.1⟩ PySem.F.entry_tuple_ne (PySem.F.args_tuple_ne_2 _ _) (fun A P E li q => ?_) q
    obtain ⟨hp, g, d, tk, os⟩ := s
    wp_walk using li.here
    exact q
end

/-! ### the comparison itself -/
section
variable {X : Cx} {n : Nat} {C f : Addr} {sp : Sp}
theorem rc_right {op : CmpOp} {M : Model} {A : Around} {E : Value → Shared → Prop} {s : Shared} {u b : Value} {T : String} {Q : Value → Shared → Prop} (h1 : oneThing? op u b = none) (hu : A.units < cLine)
    (lu : Looks M s.heap (typeOf u) (.type T)) (lb : Looks M s.heap (typeOf b) (.ref C)) (ls : Looks M s.heap (isSubtype (.ref C) (.type T)) false)
    (d : ∀ Q' : Option Value → Shared → Prop, Q' none s → wpAny M A (tryCompare u (cmpInfo op).2.1 b) Q' E s)
    (h : wpAny M A (tryCompare b (cmpInfo op).2.2 u) (fun r s' => ∃ v, r = some v ∧ Q v s') E s) : wpAny M A (richCompare op u b) Q E s := by
  unfold richCompare
  simp only [h1]
  refine wpAny_holding (wpAny_bind (wpAny_cRoomFor hu ?_))
  refine wpAny_bind (lu.here (wpAny_bind (lb.here ?_)))
  rw [if_pos (by simp)]
  refine wpAny_bind (ls.here ?_)
  simp only [Bool.false_eq_true, if_false]
  refine wpAny_bind (d _ ?_)
  simp only [Bool.not_false, if_true]
  refine wpAny_bind (wpAny_mono h (fun r s' z => ?_) fun _ _ z => z)
  obtain ⟨v, rfl, q⟩ := z
  exact wpAny_pure q
theorem rc_left {op : CmpOp} {M : Model} {A : Around} {E : Value → Shared → Prop} {s : Shared} {a b tb : Value} {Q : Value → Shared → Prop} (h1 : oneThing? op a b = none) (hu : A.units < cLine)
    (la : Looks M s.heap (typeOf a) (.ref C)) (lb : Looks M s.heap (typeOf b) tb) (ls : tb = .ref C ∨ Looks M s.heap (isSubtype tb (.ref C)) false)
    (h : wpAny M A (tryCompare a (cmpInfo op).2.1 b) (fun r s' => ∃ v, r = some v ∧ Q v s') E s) : wpAny M A (richCompare op a b) Q E s := by
  unfold richCompare
  simp only [h1]
  refine wpAny_holding (wpAny_bind (wpAny_cRoomFor hu ?_))
  refine wpAny_bind (la.here (wpAny_bind (lb.here ?_)))
  have go : ∀ k : Sem Bool, Looks M s.heap k false → wpAny M A (do
      let rightFirst ← k
      if rightFirst then
        if let some v ← tryCompare b (cmpInfo op).2.2 a then rule "compare.subclass-reflected-first"; return v
      if let some v ← tryCompare a (cmpInfo op).2.1 b then return v
      if !rightFirst then
        if let some v ← tryCompare b (cmpInfo op).2.2 a then return v
      match op with
      | .Eq => rule "compare.eq-identity"; return .bool (← isSame a b)
      | .NotEq => rule "compare.ne-identity"; return .bool (!(← isSame a b))
      | _ =>
        rule "compare.unsupported"
        raiseError "TypeError" s!"'{(cmpInfo op).1}' not supported between instances of '{← typeNameOf a}' and '{← typeNameOf b}'") Q E s := by
    intro k lk
    refine wpAny_bind (lk.here ?_)
    simp only [Bool.false_eq_true, if_false]
    refine wpAny_bind (wpAny_mono h (fun r s' z => ?_) fun _ _ z => z)
    obtain ⟨v, rfl, q⟩ := z
    exact wpAny_pure q
  rcases ls with rfl | ls
  · rw [if_neg (by simp)]
    exact go _ .now
  · by_cases e : (Value.ref C != tb) = true
    · rw [if_pos e]
      exact go _ ls
    · rw [if_neg e]
      exact go _ .now

theorem try_ne {pins : List (Addr × Obj)} {s : Shared} {σ : L2.St} {H : Hp} {a dx : Addr} {fs : List (Str × V)} {y : V} {u : Value} {Q : VK} {E : Value → Shared → Prop} (F : FnR X.prog X.w X.K X.mg X.base CX0 n f sp) (hr : Room (n + 1) X.A)
    (hs : findIn X.K (.ref C) "__eq__" = some (some (.ref f))) (hn : findIn X.K (.ref C) "__ne__" = some (some (.builtin "object.__ne__"))) (hf : isFn X.K (.ref f) = true) (B : Bare X.K C)
    (I : Inv X pins σ H s) (ha : H a = some (.ins C dx fs)) (ry : RelV y u) (q : sp [.ref a, y] H (fun v H' => ∃ k, v = .bl k ∧ Q (.bl (!k)) H') E0) :
    wpAny (model X.prog X.w) X.A (tryCompare (.ref a) "__ne__" u) (fun r s' => ∃ v, r = some v ∧ EP X pins σ Q v s') E s := by
  obtain ⟨oa, ja⟩ := inst_of I ha
  unfold tryCompare
  refine wpAny_bind (ifBoundB I.kIn ja hn PySem.F.cmp_object.ne.bind (wpAny_mono (call_ne F (sub0 hr) hs hf B.o I ha ry q) (fun v s' z => ?_) fun _ _ z => z))
  obtain ⟨w, H', I', rw', ⟨k, rfl⟩, q'⟩ := z
  cases rw'
  exact wpAny_pure ⟨_, rfl, _, H', I', relB _, q'⟩

/-- what the text says of a class with its own == and none of the other comparisons -/
structure OwnEq (K : Frag) (C f : Addr) : Prop where
  eq : findIn K (.ref C) "__eq__" = some (some (.ref f))
  ne : findIn K (.ref C) "__ne__" = some (some (.builtin "object.__ne__"))
  fn : isFn K (.ref f) = true
  bare : Bare K C

/-- a != y, a an instance of C -/
def rNeO (K : Frag) (C : Addr) (sp : Sp) : R2 := fun x y H Q => ∃ a dx fs t, x = .ref a ∧ H a = some (.ins C dx fs) ∧ TyX K H y t ∧ notFirst K C t = true ∧ sp [.ref a, y] H (fun v H' => ∃ k, v = .bl k ∧ Q (.bl (!k)) H') E0
theorem op_neO (F : FnR X.prog X.w X.K X.mg X.base CX0 n f sp) (hr : Room (n + 1) X.A) (O : OwnEq X.K C f) : OpR X (compareOp .NotEq) (rNeO X.K C sp) := by
  intro pins s σ H x y v u Q I rx ry h
  obtain ⟨a, dx, fs, t, rfl, ha, ty, nf, q⟩ := h
  cases rx
  obtain ⟨oa, ja⟩ := inst_of I ha
  obtain ⟨P, kx, hp, _⟩ := kit_of I ry ty
  show wpAny (model X.prog X.w) X.A (richCompare .NotEq (.ref a) u) (EP X pins σ Q) X.xe s
  refine rc_left (op := .NotEq) (C := C) (tb := t) (oneThing_ref ..) hr.units0 ja.type (kx.ty _ _ I.kIn hp) ?_ (try_ne F hr O.eq O.ne O.fn O.bare I ha ry q)
  rcases Bool.or_eq_true_iff.mp nf with e | e
  · exact .inl (beq_iff_eq.mp e)
  · exact .inr (looks_subIn I.kIn (beq_iff_eq.mp e))

/-- y == a, y != a, y of a built-in kind, a an instance of C -/
def rEqR (K : Frag) (C : Addr) (sp : Sp) : R2 := fun y x H Q => ∃ a dx fs T, x = .ref a ∧ H a = some (.ins C dx fs) ∧ Odd H y T ∧ sp [.ref a, y] H (fun v H' => ∃ k, v = .bl k ∧ Q (.bl k) H') E0
def rNeR (K : Frag) (C : Addr) (sp : Sp) : R2 := fun y x H Q => ∃ a dx fs T, x = .ref a ∧ H a = some (.ins C dx fs) ∧ Odd H y T ∧ sp [.ref a, y] H (fun v H' => ∃ k, v = .bl k ∧ Q (.bl (!k)) H') E0
theorem one_odd {op : CmpOp} {H : Hp} {y : V} {T : String} {u : Value} {a : Addr} (o : Odd H y T) (ry : RelV y u) : oneThing? op u (.ref a) = none := by
  cases o with
  | non => cases ry; rfl
  | bl b => cases ry; rfl
  | int i => obtain ⟨t, rfl⟩ := ry; rfl
  | str x => obtain ⟨t, rfl⟩ := ry; rfl
  | lst h => cases ry; exact oneThing_ref ..
  | tup h => cases ry; exact oneThing_ref ..
theorem op_eqR (F : FnR X.prog X.w X.K X.mg X.base CX0 n f sp) (hr : Room (n + 1) X.A) (O : OwnEq X.K C f) : OpR X (compareOp .Eq) (rEqR X.K C sp) := by
  intro pins s σ H y x u v Q I ry rx h
  obtain ⟨a, dx, fs, T, rfl, ha, o, q⟩ := h
  cases rx
  obtain ⟨oa, ja⟩ := inst_of I ha
  obtain ⟨P, kx, hp, _⟩ := kit_of I ry (o.ty (K := X.K))
  show wpAny (model X.prog X.w) X.A (richCompare .Eq u (.ref a)) (EP X pins σ Q) X.xe s
  refine rc_right (op := .Eq) (C := C) (T := T) (one_odd o ry) hr.units0 (kx.ty _ _ I.kIn hp) ja.type (looks_subIn I.kIn (O.bare.odd o)) (fun Q' z => try_dec_eq O.bare I ha o ry z) ?_
  unfold tryCompare
  refine wpAny_bind (ifBound_K I.kIn ja O.eq O.fn (wpAny_mono (call_at F (sub0 (hr.mono (Nat.le_succ _))) I (.cons (relR _) (.cons ry .nil)) q) (fun r s' z => ?_) fun _ _ z => z))
  obtain ⟨w, H', I', rw', k, rfl, q'⟩ := z
  cases rw'
  exact wpAny_pure ⟨_, rfl, _, H', I', relB _, q'⟩
theorem op_neR (F : FnR X.prog X.w X.K X.mg X.base CX0 n f sp) (hr : Room (n + 1) X.A) (O : OwnEq X.K C f) : OpR X (compareOp .NotEq) (rNeR X.K C sp) := by
  intro pins s σ H y x u v Q I ry rx h
  obtain ⟨a, dx, fs, T, rfl, ha, o, q⟩ := h
  cases rx
  obtain ⟨oa, ja⟩ := inst_of I ha
  obtain ⟨P, kx, hp, _⟩ := kit_of I ry (o.ty (K := X.K))
  show wpAny (model X.prog X.w) X.A (richCompare .NotEq u (.ref a)) (EP X pins σ Q) X.xe s
  exact rc_right (op := .NotEq) (C := C) (T := T) (one_odd o ry) hr.units0 (kx.ty _ _ I.kIn hp) ja.type (looks_subIn I.kIn (O.bare.odd o)) (fun Q' z => try_dec_ne O.bare I ha o ry z) (try_ne F hr O.eq O.ne O.fn O.bare I ha ry q)
end
end Spk

set_option Elab.async false
set_option linter.all false
set_option maxRecDepth 100000
set_option maxHeartbeats 2000000
namespace Spk
open PySem PySem.Spec PyProof.Rows PySem.W L2
open PySem.Sem (wp)

/-! ## bool(t) of a tuple, bool(a) and the truth of an instance by its own __bool__ -/
theorem bool_new_in {prog : Program} {w : World} (x : Value) : MeetsIn prog w (Builtin.«bool.__new__» ⟨[.type "bool", x], []⟩)
    (fun A R s => wpAny (model prog w) A.in1 (truthy x) (fun b s' => R (.ok (.ret (.bool b))) s') (fun e s' => R (.error e) s') s) := fun A R s h => by
  have f1 := F.conv_sub_bool
  obtain ⟨hp, g, d, tk, os⟩ := s
  repeat (any_goals (first | assumption | (with_reducible refine wpAny_bind (m := truthy x) (wpAny_mono h (fun b s' z => ?_) fun _ _ z => z)) | wp_step))
  all_goals first | exact ⟨_, rfl, z⟩ | exact z | skip

section
variable {X : Cx} {n : Nat} {C f : Addr} {sp : Sp}
theorem call_bool_by {A : Around} {E : Value → Shared → Prop} {s : Shared} {x : Value} {Q : Value → Shared → Prop} (h : wpAny (model X.prog X.w) A.in1.in1 (truthy x) (fun b s' => Q (.bool b) s') E s) :
    wpAny (model X.prog X.w) A (call (.type "bool") [x]) Q E s :=
  callType_newIn PySem.F.called_bool PySem.F.newNe_bool (PySem.F.typeCall_bool_1 x) (PySem.F.newCall_bool_1 x) (fun obj => PySem.F.args_object_init_2 obj x) PySem.F.entry_bool_new (bool_new_in x)
    (wpAny_mono h (fun b s' z => ⟨rfl, z⟩) fun _ _ z => z)

/-- bool(t), t a tuple -/
theorem call_boolT : CallR X (.type "bool") (fun xs H Q => ∃ (a : Addr) (zs : List V), xs = [.ref a] ∧ SqT X.K H a zs ∧ Q (.bl (!zs.isEmpty)) H) := by
  intro pins s σ H xs us Q I r h
  obtain ⟨a, zs, rfl, hq, q⟩ := h
  obtain rfl := Vals.ref1 r
  obtain ⟨its, rv, pl, hz⟩ := I.tuple hq
  have hl := line63
  have hlen := rv.length
  refine call_bool_by (truthy_tuple pl (by simp only [List.size_toArray]; omega) ?_)
  exact ⟨.bl (!zs.isEmpty), H, I.tok _, by rw [isEmpty_of rv]; rfl, q⟩

/-- the truth of an instance of C -/
def rTruO (C : Addr) (sp : Sp) : V → Hp → (Bool → Hp → Prop) → Prop := fun x H Q => ∃ a dx fs, x = .ref a ∧ H a = some (.ins C dx fs) ∧ sp [.ref a] H (fun v H' => ∃ k, v = .bl k ∧ Q k H') E0
theorem truthy_own {A : Around} {E : Value → Shared → Prop} {pins : List (Addr × Obj)} {s : Shared} {σ : L2.St} {H : Hp} {x : V} {u : Value} {Q : Bool → Hp → Prop} (F : FnR X.prog X.w X.K X.mg X.base CX0 n f sp) (sb : Sub X n A)
    (hs : findIn X.K (.ref C) "__bool__" = some (some (.ref f))) (hf : isFn X.K (.ref f) = true) (I : Inv X pins σ H s) (rx : RelV x u) (h : rTruO C sp x H Q) : wpAny (model X.prog X.w) A (truthy u) (TP X pins σ Q) E s := by
  obtain ⟨a, dx, fs, rfl, ha, q⟩ := h
  cases rx
  obtain ⟨oa, ja⟩ := inst_of I ha
  obtain ⟨m, hF⟩ := I.fr
  refine truthy_K hF I.ok.mod.kin ja hs hf (wpAny_mono (call_at F sb I (.cons (relR _) .nil) q) (fun r s' z => ?_) fun _ _ z => z)
  obtain ⟨w, H', I', rw', k, rfl, q'⟩ := z
  cases rw'
  exact ⟨H', I', q'⟩
/-- bool(a) -/
theorem call_boolO (F : FnR X.prog X.w X.K X.mg X.base CX0 n f sp) (hr : Room (n + 2) X.A) (hs : findIn X.K (.ref C) "__bool__" = some (some (.ref f))) (hf : isFn X.K (.ref f) = true) :
    CallR X (.type "bool") (fun xs H Q => ∃ x, xs = [x] ∧ rTruO C sp x H (fun k H' => Q (.bl k) H')) := by
  intro pins s σ H xs us Q I r h
  obtain ⟨x, rfl, h⟩ := h
  obtain ⟨u, rfl, ru⟩ := r.one
  refine call_bool_by (wpAny_mono (truthy_own F (Sub.in1 (Sub.in1 (sub0 hr))) hs hf I ru h) (fun b s' z => ?_) fun _ _ z => z)
  obtain ⟨H', I', q'⟩ := z
  exact ⟨_, H', I', relB _, q'⟩
end
end Spk

set_option linter.all false
namespace Spk
abbrev Stc := Option Int × Option Int
def has1 (s : Stc) (n : Int) : Bool := (match s.1 with | none => true | some l => decide (l ≤ n)) && (match s.2 with | none => true | some h => decide (n ≤ h))
def hasL (ss : List Stc) (n : Int) : Bool := ss.any fun s => has1 s n
def NE (s : Stc) : Prop := ∀ l h, s.1 = some l → s.2 = some h → l ≤ h
def Apart (a b : Stc) : Prop := ∃ h l, a.2 = some h ∧ b.1 = some l ∧ h + 1 < l
structure Canon (ps : List Stc) : Prop where
  ne : ∀ s, s ∈ ps → NE s
  ap : ps.Pairwise Apart
def touchB (hi lo : Option Int) : Bool := match lo, hi with
  | none, _ => true
  | _, none => true
  | some l, some h => decide (l ≤ h + 1)
def laterE (a b : Option Int) : Option Int := match a, b with
  | none, _ => none
  | _, none => none
  | some x, some y => some (if y > x then y else x)
def joinF (acc : List Stc) (s : Stc) : List Stc := match acc.getLast? with
  | none => acc ++ [s]
  | some p => if touchB p.2 s.1 = true then acc.dropLast ++ [(p.1, laterE p.2 s.2)] else acc ++ [s]
def lowLe (a b : Option Int) : Prop := match a, b with
  | none, _ => True
  | some _, none => False
  | some i, some j => i ≤ j
theorem has1_of {s : Stc} {n : Int} (h1 : ∀ k, s.1 = some k → k ≤ n) (h2 : ∀ k, s.2 = some k → n ≤ k) : has1 s n = true := by
  obtain ⟨l, r⟩ := s
  cases l <;> cases r <;> simp_all [has1]
theorem hasL_append (a b : List Stc) (n : Int) : hasL (a ++ b) n = (hasL a n || hasL b n) := by simp [hasL, List.any_append]
theorem hasL_one (s : Stc) (n : Int) : hasL [s] n = has1 s n := by simp [hasL]
theorem hasL_cons (s : Stc) (b : List Stc) (n : Int) : hasL (s :: b) n = (has1 s n || hasL b n) := by simp [hasL]
theorem hasL_nil (n : Int) : hasL [] n = false := rfl

theorem join_has (p s : Stc) (n : Int) (hp : NE p) (hs : NE s) (hl : lowLe p.1 s.1) (ht : touchB p.2 s.1 = true) : has1 (p.1, laterE p.2 s.2) n = (has1 p n || has1 s n) := by
  obtain ⟨pl, ph⟩ := p
  obtain ⟨sl, sh⟩ := s
  rw [Bool.eq_iff_iff]
  cases pl <;> cases ph <;> cases sl <;> cases sh <;> simp_all [has1, laterE, touchB, lowLe, NE]
  all_goals (try split)
  all_goals (try omega)
theorem join_ne (p s : Stc) (hp : NE p) : NE (p.1, laterE p.2 s.2) := by
  obtain ⟨pl, ph⟩ := p
  obtain ⟨sl, sh⟩ := s
  intro l h h1 h2
  cases ph <;> cases sh <;> simp_all [laterE]
  have := hp l _ rfl rfl
  split at h2 <;> omega
theorem notouch {p s : Stc} (h : touchB p.2 s.1 = false) : Apart p s := by
  obtain ⟨pl, ph⟩ := p
  obtain ⟨sl, sh⟩ := s
  cases ph <;> cases sl <;> simp_all [touchB, Apart]
theorem apart_trans {a p s : Stc} (h1 : Apart a p) (hp : NE p) (h2 : Apart p s) : Apart a s := by
  obtain ⟨h, l, e1, e2, q⟩ := h1
  obtain ⟨h', l', e3, e4, q'⟩ := h2
  have := hp l h' e2 e3
  exact ⟨h, l', e1, e4, by omega⟩
theorem canon_snoc {acc : List Stc} {p s : Stc} (h : Canon (acc ++ [p])) (hs : NE s) (ha : Apart p s) : Canon (acc ++ [p] ++ [s]) := by
  refine ⟨fun x hx => ?_, ?_⟩
  · rcases List.mem_append.mp hx with hx | hx
    · exact h.ne x hx
    · rw [List.mem_singleton.mp hx]; exact hs
  · refine List.pairwise_append.mpr ⟨h.ap, List.pairwise_singleton .., fun a ha' b hb => ?_⟩
    rw [List.mem_singleton.mp hb]
    rcases List.mem_append.mp ha' with q | q
    · exact apart_trans ((List.pairwise_append.mp h.ap).2.2 a q p (by simp)) (h.ne p (by simp)) ha
    · rw [List.mem_singleton.mp q]; exact ha
theorem canon_last {acc : List Stc} {p s : Stc} (h : Canon (acc ++ [p])) : Canon (acc ++ [(p.1, laterE p.2 s.2)]) := by
  refine ⟨fun x hx => ?_, ?_⟩
  · rcases List.mem_append.mp hx with hx | hx
    · exact h.ne x (List.mem_append_left _ hx)
    · rw [List.mem_singleton.mp hx]; exact join_ne p s (h.ne p (by simp))
  · refine List.pairwise_append.mpr ⟨(List.pairwise_append.mp h.ap).1, List.pairwise_singleton .., fun a ha b hb => ?_⟩
    rw [List.mem_singleton.mp hb]
    exact (List.pairwise_append.mp h.ap).2.2 a ha p (by simp)
/-- one step of the joining -/
theorem join_step {acc pre : List Stc} {s : Stc} (hc : Canon acc) (hm : ∀ n, hasL acc n = hasL pre n) (hl : ∀ a, a ∈ acc → lowLe a.1 s.1) (hs : NE s) :
    Canon (joinF acc s) ∧ (∀ n, hasL (joinF acc s) n = hasL (pre ++ [s]) n) ∧ ∀ a, a ∈ joinF acc s → a.1 = s.1 ∨ ∃ b, b ∈ acc ∧ a.1 = b.1 := by
  rcases List.eq_nil_or_concat acc with rfl | ⟨ac, p, rfl⟩
  · refine ⟨⟨fun x hx => ?_, ?_⟩, fun n => ?_, fun a ha => ?_⟩
    · have : x = s := by simpa [joinF] using hx
      rw [this]; exact hs
    · simp [joinF]
    · rw [hasL_append, ← hm n]; simp [joinF, hasL]
    · left
      have : a = s := by simpa [joinF] using ha
      rw [this]
  · simp only [List.concat_eq_append] at *
    have hg : (ac ++ [p]).getLast? = some p := by simp
    unfold joinF
    rw [hg]
    dsimp only
    by_cases ht : touchB p.2 s.1 = true
    · rw [if_pos ht, List.dropLast_concat]
      refine ⟨canon_last (s := s) hc, fun n => ?_, fun a ha => ?_⟩
      · have h1 := hm n
        rw [hasL_append, hasL_one] at h1
        rw [hasL_append, hasL_one, hasL_append, hasL_one, join_has p s n (hc.ne p (by simp)) hs (hl p (by simp)) ht, ← h1, Bool.or_assoc]
      · right
        rcases List.mem_append.mp ha with ha | ha
        · exact ⟨a, by simp [ha], rfl⟩
        · rw [List.mem_singleton.mp ha]; exact ⟨p, by simp, rfl⟩
    · rw [if_neg ht]
      have ht' : touchB p.2 s.1 = false := by simpa using ht
      refine ⟨canon_snoc hc hs (notouch ht'), fun n => ?_, fun a ha => ?_⟩
      · rw [hasL_append (ac ++ [p]) [s], hasL_append pre [s], hm n]
      · rcases List.mem_append.mp ha with ha | ha
        · right; exact ⟨a, ha, rfl⟩
        · left; rw [List.mem_singleton.mp ha]
theorem lowLe_trans {a b c : Option Int} (h1 : lowLe a b) (h2 : lowLe b c) : lowLe a c := by
  cases a <;> cases b <;> cases c <;> simp_all [lowLe]
  omega
/-- the invariant of the loop -/
structure Joins (acc pre rest : List Stc) : Prop where
  canon : Canon acc
  has : ∀ n, hasL acc n = hasL pre n
  low : ∀ a, a ∈ acc → ∀ s, s ∈ rest → lowLe a.1 s.1
theorem joins_step {acc pre rest : List Stc} {s : Stc} (h : Joins acc pre (s :: rest)) (hs : NE s) (hw : (s :: rest).Pairwise fun a b => lowLe a.1 b.1) : Joins (joinF acc s) (pre ++ [s]) rest := by
  obtain ⟨c, m, l⟩ := join_step h.canon h.has (fun a ha => h.low a ha s (by simp)) hs
  refine ⟨c, m, fun a ha t ht => ?_⟩
  have hst : lowLe s.1 t.1 := (List.pairwise_cons.mp hw).1 t ht
  rcases l a ha with e | ⟨b, hb, e⟩
  · rw [e]; exact hst
  · rw [e]; exact h.low b hb t (by simp [ht])

/-! ### one set, one list of parts -/
theorem canon_tail {s : Stc} {ps : List Stc} (h : Canon (s :: ps)) : Canon ps := ⟨fun x hx => h.ne x (by simp [hx]), (List.pairwise_cons.mp h.ap).2⟩
/-- nothing of the later parts lies at or ahead of the number behind the first one's end -/
theorem later_no {s : Stc} {ps : List Stc} (h : Canon (s :: ps)) {n e : Int} (he : s.2 = some e) (hn : n ≤ e + 1) : hasL ps n = false := by
  unfold hasL
  rw [List.any_eq_false]
  intro t ht
  obtain ⟨h', l, e1, e2, q⟩ := (List.pairwise_cons.mp h.ap).1 t ht
  rw [he] at e1
  cases e1
  simp only [has1, e2, Bool.and_eq_true, decide_eq_true_eq, not_and]
  intro h1
  omega
theorem no_later {s : Stc} {ps : List Stc} (h : Canon (s :: ps)) (he : s.2 = none) : ps = [] := by
  cases ps with
  | nil => rfl
  | cons t ps =>
    obtain ⟨h', l, e1, _⟩ := (List.pairwise_cons.mp h.ap).1 t (by simp)
    rw [he] at e1
    cases e1
/-- ahead of the first part's low end there is nothing -/
theorem ahead_no {s : Stc} {ps : List Stc} (h : Canon (s :: ps)) {n l : Int} (hl : s.1 = some l) (hn : n < l) : hasL (s :: ps) n = false := by
  rw [hasL_cons]
  have h1 : has1 s n = false := by
    simp only [has1, hl, Bool.and_eq_false_iff, decide_eq_false_iff_not]
    left
    omega
  rw [h1, Bool.false_or]
  cases e : s.2 with
  | none => rw [no_later h e]; rfl
  | some x =>
    have := h.ne s (by simp) l x hl e
    exact later_no h e (by omega)
theorem has_low {s : Stc} (h : NE s) {l : Int} (hl : s.1 = some l) : has1 s l = true := by
  cases e : s.2 with
  | none => simp [has1, hl, e]
  | some x =>
    have := h l x hl e
    simp [has1, hl, e, this]
theorem has_some {s : Stc} (h : NE s) (m : Int) : ∃ n, n ≤ m ∧ (s.1 = none → has1 s n = true) := by
  cases e : s.2 with
  | none => exact ⟨m, Int.le_refl _, fun h1 => by simp [has1, h1, e]⟩
  | some x =>
    by_cases q : m ≤ x
    · exact ⟨m, Int.le_refl _, fun h1 => by simp [has1, h1, e, q]⟩
    · exact ⟨x, by omega, fun h1 => by simp [has1, h1, e]⟩
theorem ne_has {s : Stc} (h : NE s) : ∃ n, has1 s n = true := by
  cases e : s.1 with
  | none =>
    obtain ⟨n, _, q⟩ := has_some h 0
    exact ⟨n, q e⟩
  | some l => exact ⟨l, has_low h e⟩
theorem low_same {s t : Stc} {ps qs : List Stc} (h : Canon (s :: ps)) (h' : Canon (t :: qs)) (e : ∀ n, hasL (s :: ps) n = hasL (t :: qs) n) : lowLe t.1 s.1 := by
  cases hs : s.1 with
  | none =>
    cases ht : t.1 with
    | none => trivial
    | some l =>
      obtain ⟨n, hn, q⟩ := has_some (h.ne s (by simp)) (l - 1)
      have h1 := e n
      rw [ahead_no h' ht (by omega), hasL_cons, q hs] at h1
      simp at h1
  | some a =>
    cases ht : t.1 with
    | none => trivial
    | some b =>
      by_cases q : b ≤ a
      · exact q
      · have h1 := e a
        rw [ahead_no h' ht (by omega), hasL_cons, has_low (h.ne s (by simp)) hs] at h1
        simp at h1
theorem lowLe_antisymm {a b : Option Int} (h1 : lowLe a b) (h2 : lowLe b a) : a = b := by
  cases a <;> cases b <;> simp_all [lowLe]
  omega
/-- behind the end of the first one there is a number that is not in it -/
theorem high_same {s t : Stc} {ps qs : List Stc} (h : Canon (s :: ps)) (h' : Canon (t :: qs)) (e : ∀ n, hasL (s :: ps) n = hasL (t :: qs) n) (hl : s.1 = t.1) {x : Int} (hx : s.2 = some x) : ∃ y, t.2 = some y ∧ y ≤ x := by
  have h1 := e (x + 1)
  have n1 : has1 s (x + 1) = false := by
    simp only [has1, hx, Bool.and_eq_false_iff, decide_eq_false_iff_not]
    right
    omega
  rw [hasL_cons, n1, later_no h hx (Int.le_refl _), hasL_cons] at h1
  have h2 : has1 t (x + 1) = false := by
    cases q : has1 t (x + 1) with
    | false => rfl
    | true => rw [q] at h1; simp at h1
  have low : ∀ l, t.1 = some l → l ≤ x + 1 := fun l hl' => by
    rw [← hl] at hl'
    have := h.ne s (by simp) l x hl' hx
    omega
  cases ht : t.2 with
  | none =>
    exfalso
    cases hl' : t.1 with
    | none => simp [has1, hl', ht] at h2
    | some l =>
      have := low l hl'
      simp [has1, hl', ht, this] at h2
  | some y =>
    refine ⟨y, rfl, ?_⟩
    by_cases q : y ≤ x
    · exact q
    · exfalso
      have q' : x + 1 ≤ y := by omega
      cases hl' : t.1 with
      | none => simp [has1, hl', ht, q'] at h2
      | some l =>
        have := low l hl'
        simp [has1, hl', ht, this, q'] at h2
theorem canon_unique : ∀ {ps qs : List Stc}, Canon ps → Canon qs → (∀ n, hasL ps n = hasL qs n) → ps = qs
  | [], [], _, _, _ => rfl
  | [], t :: qs, _, h', e => by
    obtain ⟨n, q⟩ := ne_has (h'.ne t (by simp))
    have := e n
    rw [hasL_cons, q] at this
    simp [hasL_nil] at this
  | s :: ps, [], h, _, e => by
    obtain ⟨n, q⟩ := ne_has (h.ne s (by simp))
    have := e n
    rw [hasL_cons, q] at this
    simp [hasL_nil] at this
  | s :: ps, t :: qs, h, h', e => by
    have hl : s.1 = t.1 := lowLe_antisymm (low_same h' h fun n => (e n).symm) (low_same h h' e)
    have hh : s.2 = t.2 := by
      cases hs : s.2 with
      | none =>
        cases ht : t.2 with
        | none => rfl
        | some y =>
          obtain ⟨z, q, _⟩ := high_same h' h (fun n => (e n).symm) hl.symm ht
          rw [hs] at q; cases q
      | some x =>
        obtain ⟨y, hy, q⟩ := high_same h h' e hl hs
        obtain ⟨z, hz, q'⟩ := high_same h' h (fun n => (e n).symm) hl.symm hy
        rw [hs] at hz
        cases hz
        rw [hy]
        congr 1
        omega
    have est : s = t := Prod.ext hl hh
    subst est
    refine congrArg _ (canon_unique (canon_tail h) (canon_tail h') fun n => ?_)
    cases hs : s.2 with
    | none => rw [no_later h hs, no_later h' hs]
    | some x =>
      by_cases q : n ≤ x + 1
      · rw [later_no h hs q, later_no h' hs q]
      · have n1 : has1 s n = false := by
          simp only [has1, hs, Bool.and_eq_false_iff, decide_eq_false_iff_not]
          right
          omega
        have := e n
        rwa [hasL_cons, hasL_cons, n1, Bool.false_or, Bool.false_or] at this

/-! ### the halving search -/
theorem search_low {ps : List Stc} (h : Canon ps) {m : Nat} {s : Stc} (hm : ps[m]? = some s) {l n : Int} (hl : s.1 = some l) (hn : n < l) {j : Nat} {t : Stc} (hj : m ≤ j) (ht : ps[j]? = some t) : has1 t n = false := by
  have hs := h.ne s (List.mem_of_getElem? hm)
  by_cases e : m = j
  · subst e
    rw [hm] at ht
    cases ht
    simp only [has1, hl, Bool.and_eq_false_iff, decide_eq_false_iff_not]
    left
    omega
  · obtain ⟨h1, h2, h3⟩ := List.getElem?_eq_some_iff.mp hm |>.elim fun a b => (⟨a, b, trivial⟩ : ∃ (a : m < ps.length) (_ : ps[m] = s), True)
    obtain ⟨g1, g2⟩ := List.getElem?_eq_some_iff.mp ht
    have := List.pairwise_iff_getElem.mp h.ap m j h1 g1 (by omega)
    rw [h2, g2] at this
    obtain ⟨x, y, e1, e2, q⟩ := this
    have := hs l x hl e1
    simp only [has1, e2, Bool.and_eq_false_iff, decide_eq_false_iff_not]
    left
    omega
theorem search_high {ps : List Stc} (h : Canon ps) {m : Nat} {s : Stc} (hm : ps[m]? = some s) {l n : Int} (hl : s.2 = some l) (hn : l < n) {j : Nat} {t : Stc} (hj : j ≤ m) (ht : ps[j]? = some t) : has1 t n = false := by
  have hs := h.ne s (List.mem_of_getElem? hm)
  by_cases e : j = m
  · subst e
    rw [hm] at ht
    cases ht
    simp only [has1, hl, Bool.and_eq_false_iff, decide_eq_false_iff_not]
    right
    omega
  · obtain ⟨h1, h2⟩ := List.getElem?_eq_some_iff.mp hm
    obtain ⟨g1, g2⟩ := List.getElem?_eq_some_iff.mp ht
    have := List.pairwise_iff_getElem.mp h.ap j m g1 h1 (by omega)
    rw [h2, g2] at this
    obtain ⟨x, y, e1, e2, q⟩ := this
    have := hs y l e2 hl
    simp only [has1, e1, Bool.and_eq_false_iff, decide_eq_false_iff_not]
    right
    omega

/-! ### the points at which two sets are looked at -/
def endsOf (s : Stc) : List Int := (match s.1 with | none => [] | some l => [l - 1, l, l + 1]) ++ (match s.2 with | none => [] | some h => [h - 1, h, h + 1])
def points (ss : List Stc) : List Int := [0, 1, -1, 10000000000000, -10000000000000] ++ ss.flatMap endsOf
/-- the cuts: the first numbers behind which something changes -/
def cutsOf (s : Stc) : List Int := (match s.1 with | none => [] | some l => [l]) ++ (match s.2 with | none => [] | some h => [h + 1])
def cuts (ss : List Stc) : List Int := ss.flatMap cutsOf
theorem cut_point {ss : List Stc} {c : Int} (h : c ∈ cuts ss) : c ∈ points ss ∧ c - 1 ∈ points ss := by
  obtain ⟨s, hs, hc⟩ := List.mem_flatMap.mp h
  have key : c ∈ endsOf s ∧ c - 1 ∈ endsOf s := by
    obtain ⟨l, r⟩ := s
    cases l <;> cases r <;> simp_all [cutsOf, endsOf] <;> omega
  exact ⟨List.mem_append_right _ (List.mem_flatMap.mpr ⟨s, hs, key.1⟩), List.mem_append_right _ (List.mem_flatMap.mpr ⟨s, hs, key.2⟩)⟩
theorem has_by_cuts {s : Stc} {n m : Int} (h : ∀ c, c ∈ cutsOf s → (c ≤ n ↔ c ≤ m)) : has1 s n = has1 s m := by
  obtain ⟨l, r⟩ := s
  rw [Bool.eq_iff_iff]
  cases l <;> cases r <;> simp_all [cutsOf, has1] <;> omega
theorem hasL_by_cuts {ss : List Stc} {n m : Int} (h : ∀ c, c ∈ cuts ss → (c ≤ n ↔ c ≤ m)) : hasL ss n = hasL ss m := by
  induction ss with
  | nil => rfl
  | cons s ss ih =>
    rw [hasL_cons, hasL_cons, has_by_cuts (s := s) fun c hc => h c (List.mem_flatMap.mpr ⟨s, by simp, hc⟩), ih fun c hc => h c ?_]
    obtain ⟨t, ht, hc⟩ := List.mem_flatMap.mp hc
    exact List.mem_flatMap.mpr ⟨t, by simp [ht], hc⟩
theorem greatest {l : List Int} {n : Int} (h : ∃ c, c ∈ l ∧ c ≤ n) : ∃ c, c ∈ l ∧ c ≤ n ∧ ∀ d, d ∈ l → d ≤ n → d ≤ c := by
  induction l with
  | nil => obtain ⟨c, hc, _⟩ := h; simp at hc
  | cons a l ih =>
    by_cases q : ∃ c, c ∈ l ∧ c ≤ n
    · obtain ⟨c, hc, hn, m⟩ := ih q
      by_cases qa : a ≤ n ∧ c ≤ a
      · refine ⟨a, by simp, qa.1, fun d hd hdn => ?_⟩
        rcases List.mem_cons.mp hd with rfl | hd
        · exact Int.le_refl _
        · have := m d hd hdn; omega
      · refine ⟨c, by simp [hc], hn, fun d hd hdn => ?_⟩
        rcases List.mem_cons.mp hd with rfl | hd
        · omega
        · exact m d hd hdn
    · obtain ⟨c, hc, hn⟩ := h
      rcases List.mem_cons.mp hc with rfl | hc
      · refine ⟨c, by simp, hn, fun d hd hdn => ?_⟩
        rcases List.mem_cons.mp hd with rfl | hd
        · exact Int.le_refl _
        · exact absurd ⟨d, hd, hdn⟩ q
      · exact absurd ⟨c, hc, hn⟩ q
theorem least {l : List Int} (h : l ≠ []) : ∃ c, c ∈ l ∧ ∀ d, d ∈ l → c ≤ d := by
  induction l with
  | nil => exact absurd rfl h
  | cons a l ih =>
    by_cases q : l = []
    · subst q
      exact ⟨a, by simp, fun d hd => by rw [List.mem_singleton.mp hd]; exact Int.le_refl _⟩
    · obtain ⟨c, hc, m⟩ := ih q
      by_cases qa : a ≤ c
      · refine ⟨a, by simp, fun d hd => ?_⟩
        rcases List.mem_cons.mp hd with rfl | hd
        · exact Int.le_refl _
        · have := m d hd; omega
      · refine ⟨c, by simp [hc], fun d hd => ?_⟩
        rcases List.mem_cons.mp hd with rfl | hd
        · omega
        · exact m d hd
/-- each number has a point that no stretch tells from it -/
theorem point_of (ss : List Stc) (n : Int) : ∃ m, m ∈ points ss ∧ ∀ c, c ∈ cuts ss → (c ≤ n ↔ c ≤ m) := by
  by_cases q : ∃ c, c ∈ cuts ss ∧ c ≤ n
  · obtain ⟨c, hc, hn, m⟩ := greatest q
    refine ⟨c, (cut_point hc).1, fun d hd => ⟨fun h => m d hd h, fun h => by omega⟩⟩
  · by_cases q0 : cuts ss = []
    · refine ⟨0, by simp [points], fun c hc => ?_⟩
      rw [q0] at hc
      simp at hc
    · obtain ⟨c, hc, m⟩ := least q0
      refine ⟨c - 1, (cut_point hc).2, fun d hd => ⟨fun h => absurd ⟨d, hd, h⟩ q, fun h => ?_⟩⟩
      have := m d hd
      omega
theorem cuts_append (a b : List Stc) : cuts (a ++ b) = cuts a ++ cuts b := by simp [cuts, List.flatMap_append]
/-- sets that agree at the points of both are the same -/
theorem agree_all {a b : List Stc} (h : ∀ m, m ∈ points (a ++ b) → hasL a m = hasL b m) (n : Int) : hasL a n = hasL b n := by
  obtain ⟨m, hm, hc⟩ := point_of (a ++ b) n
  rw [cuts_append] at hc
  rw [hasL_by_cuts (ss := a) fun c q => hc c (List.mem_append_left _ q), hasL_by_cuts (ss := b) fun c q => hc c (List.mem_append_right _ q)]
  exact h m hm
end Spk

set_option Elab.async false
set_option linter.all false
set_option maxRecDepth 100000
set_option maxHeartbeats 1000000
namespace Spk
open PySem L2

/-! ## readings by steps: one lemma a construct -/
section
variable {σ : L2.St} {H : Hp} {D : Ends} {ta tb te : TE} {Q : VK} {t u : TS} {tt uu : TT} {v x y : V} {i : Nat} {K : PySem.W.Frag}
theorem i_seq (h : t { D with nx := u D } σ H) : tSeq t u D σ H := h
theorem i_next (h : D.nx σ H) : tNext D σ H := h
theorem i_asg {g : TG} (h : te σ H fun x H1 => g x σ H1 D.nx) : tAsg te g D σ H := h
theorem i_name {P : L2.St → Hp → Prop} (h : P (σ.set i (some v)) H) : gName i v σ H P := h
theorem i_ret (h : te σ H D.rt) : tRet te D σ H := h
theorem i_drop (h : te σ H fun _ H1 => D.nx σ H1) : tDrop te D σ H := h
theorem i_ifS (h : tt σ H fun b H1 => if b = true then t D σ H1 else u D σ H1) : tIfS tt t u D σ H := h
theorem i_if (h : tt σ H fun c H1 => if c = true then ta σ H1 Q else tb σ H1 Q) : tIf tt ta tb σ H Q := h
theorem i_var (h : σ[i]? = some (some v)) (q : Q v H) : tVar i σ H Q := ⟨v, h, q⟩
theorem i_c (q : Q v H) : tC v σ H Q := q
theorem i_op {r : R2} (h : ta σ H fun x H1 => tb σ H1 fun y H2 => r x y H2 Q) : tOp r ta tb σ H Q := h
theorem i_un {r : V → Hp → VK → Prop} (h : ta σ H fun x H1 => r x H1 Q) : tUn r ta σ H Q := h
theorem i_rI0 {g : Int → Int → V} {a b : Int} (q : Q (g a b) H) : rI0 g (.int a) (.int b) H Q := ⟨a, b, rfl, rfl, q⟩
theorem i_rI {C : Int → Int → Prop} {g : Int → Int → V} {a b : Int} (hc : C a b) (q : Q (g a b) H) : rI C g (.int a) (.int b) H Q := ⟨a, b, rfl, rfl, hc, q⟩
theorem i_rU {g : Int → V} {a : Int} (q : Q (g a) H) : rU g (.int a) H Q := ⟨a, rfl, q⟩
theorem i_rEq (hs : scal x y = true) (q : Q (.bl (decide (x = y))) H) : rEq x y H Q := ⟨hs, q⟩
theorem i_rNe (hs : scal x y = true) (q : Q (.bl (!decide (x = y))) H) : rNe x y H Q := ⟨hs, q⟩
theorem i_test {P : Bool → Hp → Prop} (h : ta σ H fun x H' => ∃ k, x = .bl k ∧ P k H') : tTest ta σ H P := h
theorem i_tB {P : Bool → Hp → Prop} (h : ta σ H fun x H' => ∃ k, x = .bl k ∧ P k H') : tB ta σ H P := h
theorem i_and {P : Bool → Hp → Prop} (h : tt σ H fun c H1 => if c = true then uu σ H1 P else P false H1) : tAnd tt uu σ H P := h
theorem i_or {P : Bool → Hp → Prop} (h : tt σ H fun c H1 => if c = true then P true H1 else uu σ H1 P) : tOr tt uu σ H P := h
theorem i_not {P : Bool → Hp → Prop} (h : tt σ H fun c H1 => P (!c) H1) : tNot tt σ H P := h
theorem i_andV (h : ta σ H fun x H1 => ∃ c, x = .bl c ∧ if c = true then tb σ H1 Q else Q (.bl false) H1) : tAndV ta tb σ H Q := h
theorem i_orV (h : ta σ H fun x H1 => ∃ c, x = .bl c ∧ if c = true then Q (.bl true) H1 else tb σ H1 Q) : tOrV ta tb σ H Q := h
theorem i_notV (h : ta σ H fun x H1 => ∃ c, x = .bl c ∧ Q (.bl (!c)) H1) : tNotV ta σ H Q := h
theorem i_nil {P : List V → Hp → Prop} (h : P [] H) : tNil σ H P := h
theorem i_cons {tr : TA} {P : List V → Hp → Prop} (h : ta σ H fun x H1 => tr σ H1 fun xs H2 => P (x :: xs) H2) : tCons ta tr σ H P := h
theorem i_cb {r : List V → Hp → VK → Prop} {ts : TA} (h : ts σ H fun vs H1 => r vs H1 Q) : tCB r ts σ H Q := h
theorem i_call {sp : Sp} {E : XK} {ts : TA} (h : ts σ H fun vs H1 => sp (vs ++ []) H1 Q E) : tCall sp [] E ts σ H Q := h
theorem i_bl {c : Bool} {P : Bool → Prop} (h : P c) : ∃ k, V.bl c = .bl k ∧ P k := ⟨c, rfl, h⟩
/-- a new object: the heap behind it is only known by what stood and what is new -/
theorem i_new {o : HO} (h : ∀ p H1, Same H H1 → H p = none → H1 p = some o → Q (.ref p) H1) : ∀ p, H p = none → Q (.ref p) (upd H p o) := fun p hp =>
  h p _ (fun b u e => by rw [upd_ne (ne_of_none e hp)]; exact e) hp upd_same
theorem i_tup {ts : TA} (h : ts σ H fun xs H1 => xs.length ≤ sizeLine ∧ ∀ p, H1 p = none → Q (.ref p) (upd H1 p (.tup xs))) : tTup ts σ H Q := h
theorem i_lst {ts : TA} (h : ts σ H fun xs H1 => xs.length ≤ sizeLine ∧ ∀ p, H1 p = none → Q (.ref p) (upd H1 p (.lst xs))) : tLst ts σ H Q := h
theorem i_sz {xs : List V} {o : HO} (hn : xs.length ≤ 1000) (h : ∀ p H1, Same H H1 → H p = none → H1 p = some o → Q (.ref p) H1) : xs.length ≤ sizeLine ∧ ∀ p, H p = none → Q (.ref p) (upd H p o) :=
  ⟨Nat.le_trans hn (by decide), i_new h⟩
theorem new_heap {o : HO} {p : Addr} (hp : H p = none) : ∃ H1, upd H p o = H1 ∧ Same H H1 ∧ H1 p = some o := ⟨_, rfl, fun b u e => by rw [upd_ne (ne_of_none e hp)]; exact e, upd_same⟩
theorem size_of {n : Nat} (h : n ≤ 100000) : n ≤ sizeLine := Nat.le_trans h (by decide)
theorem size_lt {n : Nat} (h : n ≤ 100000) : n < sizeLine := Nat.lt_of_le_of_lt h (by decide)
theorem i_ixT {p : Addr} {xs : List V} {a : Int} (h : H p = some (.tup xs)) (hv : atI xs a = some v) (q : Q v H) : rIxT K (.ref p) (.int a) H Q := ⟨p, xs, a, v, rfl, rfl, SqT.of h, hv, q⟩
theorem i_ixL {p : Addr} {xs : List V} {a : Int} (h : H p = some (.lst xs)) (hv : atI xs a = some v) (q : Q v H) : rIxL K (.ref p) (.int a) H Q := ⟨p, xs, a, v, rfl, rfl, SqL.of h, hv, q⟩
/-- a for's body and what follows, from the walk on -/
def forK (g : TG) (tb : TS) (D : Ends) (σ : L2.St) : It → Hp → Prop := fun J H1 => ∃ W : Nat → Nat → L2.St → Hp → Prop, (∃ m, W 0 m σ H1) ∧
  ∀ i m σ H, W i m σ H → (J.stop i H ∧ D.nx σ H) ∨ (J.go i H ∧ ∃ N : L2.St → Hp → Prop, (∀ σ' H', N σ' H' → ∃ m', m' < m ∧ W (i + 1) m' σ' H') ∧
    ∀ x H', J.yld i H x H' → g x σ H' fun σ2 H2 => tb { D with nx := N, ct := N, bk := D.nx } σ2 H2)
theorem i_for {wi : TI} {g : TG} (h : wi σ H (forK g t D σ)) : tFor wi g t D σ H := h
theorem i_iL {R : It → Hp → Prop} (h : te σ H fun x H1 => ∃ a, x = .ref a ∧ (∃ xs, SqL K H1 a xs) ∧ R (Itl K a) H1) : iList K te σ H R := h
theorem i_iT {R : It → Hp → Prop} (h : te σ H fun x H1 => ∃ a, x = .ref a ∧ (∃ xs, SqT K H1 a xs) ∧ R (Itt K a) H1) : iTup K te σ H R := h
theorem i_yes {P : Bool → Hp → Prop} (h : P true H) : tYes σ H P := h
theorem i_gsub {to ti : TE} {ts : TSet} {P : L2.St → Hp → Prop} (h : to σ H fun o H1 => ti σ H1 fun i H2 => ts o i v H2 fun H3 => P σ H3) : gSub to ti ts v σ H P := h
theorem pow_ok {a b : Nat} (ha : a ≤ 1000000) (hb : b ≤ 1000000) : CPow (b : Int) (a : Int) := ⟨by omega, by omega, by omega⟩
theorem cmulL {i j : Int} (h : decide (-(2 ^ 64) < i ∧ i < 2 ^ 64) = true) : CMul i j := .inl (of_decide_eq_true h)
theorem i_setL {p : Addr} {xs : List V} {k : Int} {j : Nat} {P : Hp → Prop} (h : H p = some (.lst xs)) (hj : ixN xs.length k = some j) (q : P (upd H p (.lst (xs.set j v)))) : rSetL (.ref p) (.int k) v H P := ⟨p, xs, k, j, rfl, rfl, h, hj, q⟩
theorem i_rng1 {ts : TA} {R : It → Hp → Prop} (h : ts σ H fun vs H1 => ∃ j : Int, vs = [.int j] ∧ -(2 ^ 62) ≤ j ∧ j < 2 ^ 62 ∧ R (Itr 0 j.toNat) H1) : iRng1 ts σ H R := h
theorem i_cut0 (h : t { D with nx := fun σ' H' => σ' = σ ∧ H' = H } σ H) (k : u D σ H) : C8.tCut t u D σ H := ⟨_, h, fun σ' H' e => by rw [e.1, e.2]; exact k⟩
theorem i_cm {C : Addr} {sp : Sp} {E : XK} {ts : TA} (h : te σ H fun x H1 => x = .ref C ∧ ts σ H1 fun vs H2 => sp (.ref C :: vs) H2 Q E) : ClX.tCMeth C sp E te ts σ H Q := h
theorem i_ckw {r : List V → List V → Hp → VK → Prop} {ts tk : TA} (h : ts σ H fun vs H1 => tk σ H1 fun zs H2 => r vs zs H2 Q) : tCKw r ts tk σ H Q := h
theorem i_bm {T : String} {r : V → List V → Hp → VK → Prop} {ts : TA} (h : te σ H fun x H1 => tyV K T x H1 ∧ ts σ H1 fun xs H2 => r x xs H2 Q) : tBM K T r te ts σ H Q := h
theorem i_bm0 {T : String} {r : V → List V → Hp → VK → Prop} (h : te σ H fun x H1 => tyV K T x H1 ∧ r x [] H1 Q) : tBM0 K T r te σ H Q := h
theorem i_tyL {p : Addr} {xs : List V} {A : Prop} (h : H p = some (.lst xs)) (q : A) : tyV K "list" (.ref p) H ∧ A := ⟨.inl ⟨rfl, _, SqL.of h⟩, q⟩
theorem i_app {p : Addr} {xs : List V} (h : H p = some (.lst xs)) (hz : xs.length ≤ 100000) (q : Q .non (upd H p (.lst (xs ++ [v])))) : rAppend (.ref p) [v] H Q := ⟨p, xs, v, rfl, rfl, h, size_lt hz, q⟩
theorem i_pop {p : Addr} {xs : List V} (h : H p = some (.lst (xs ++ [v]))) (q : Q v (upd H p (.lst xs))) : rPop (.ref p) [] H Q := ⟨p, _, v, rfl, rfl, h, by simp, by rw [List.dropLast_concat]; exact q⟩
theorem i_truL {p : Addr} {xs : List V} {P : Bool → Hp → Prop} (h : H p = some (.lst xs)) (q : P (!xs.isEmpty) H) : ∃ k, TruV K (.ref p) H k ∧ P k H := ⟨_, .inl ⟨xs, SqL.of h, rfl⟩, q⟩
theorem i_gtup {p : Addr} {xs : List V} {n : Nat} {g : TGs} {P : L2.St → Hp → Prop} (h : H p = some (.tup xs)) (hn : xs.length = n) (q : g xs σ H P) : gTup K n g (.ref p) σ H P := ⟨p, xs, rfl, SqT.of h, hn, q⟩
theorem i_gcons {g : TG} {gs : TGs} {vs : List V} {P : L2.St → Hp → Prop} (q : g v σ H fun σ' H' => gs vs σ' H' P) : gCons g gs (v :: vs) σ H P := ⟨v, vs, rfl, q⟩
theorem i_gnil {P : L2.St → Hp → Prop} (q : P σ H) : gNil [] σ H P := ⟨rfl, q⟩
theorem i_par {ts : TA} {a b : Nat} (h : ts σ H fun vs H1 => ∃ v w, vs = [v, w] ∧ D.nx ((σ.set a (some v)).set b (some w)) H1) : tPar a b ts D σ H := h
theorem ite_d {c A B : Prop} [Decidable c] (h1 : c → A) (h2 : ¬ c → B) : if decide c = true then A else B := by
  by_cases h : c
  · rw [decide_eq_true h, if_pos rfl]; exact h1 h
  · rw [decide_eq_false h, if_neg (by decide)]; exact h2 h
theorem ite_nd {c A B : Prop} [Decidable c] (h1 : ¬ c → A) (h2 : c → B) : if (!decide c) = true then A else B := by
  by_cases h : c
  · rw [decide_eq_true h, if_neg (by decide)]; exact h2 h
  · rw [decide_eq_false h, if_pos (by decide)]; exact h1 h
end
theorem sm_up {H H' : Hp} {a : Addr} {o : HO} (s : Same H H') (h : H a = some o) : H' a = some o := s a o h

/-! ## the data: stretches, parts, sets -/
abbrev ov : Option Int → V := fun o => match o with
  | none => .non
  | some i => .int i
def kx (s : Stc) : Int := match s.1 with | none => 0 | some _ => 1
def ky (s : Stc) : Int := match s.1 with | none => 0 | some i => i
def key (s : Stc) : List V := [.int (kx s), .int (ky s)]
def keyD (s : Stc) : PyData := .tuple [.int (kx s), .int (ky s)]
/-- v is a tuple (low, high) -/
def TupS (H : Hp) (v : V) (s : Stc) : Prop := ∃ a, v = .ref a ∧ H a = some (.tup [ov s.1, ov s.2])
/-- the values are stretches, one by one -/
def Tups (H : Hp) : List V → List Stc → Prop := Paired (TupS H)
theorem TupS.up {H H' : Hp} {v : V} {s : Stc} (e : Same H H') (h : TupS H v s) : TupS H' v s := by
  obtain ⟨a, rfl, h⟩ := h
  exact ⟨a, rfl, e _ _ h⟩
theorem Tups.up {H H' : Hp} {vs : List V} {ss : List Stc} (e : Same H H') (h : Tups H vs ss) : Tups H' vs ss := Paired.mapP h fun _ _ z => z.up e

theorem tups_zip {H : Hp} {xs : List V} {ss : List Stc} (h : Tups H xs ss) : ∀ b, b ∈ xs.zip ss → TupS H b.1 b.2 := by
  induction h with
  | nil => intro b hb; simp at hb
  | cons r t ih =>
    intro b hb
    rw [List.zip_cons_cons] at hb
    rcases List.mem_cons.mp hb with rfl | hb
    · exact r
    · exact ih b hb
theorem tups_of {H : Hp} : ∀ {bs : List (V × Stc)}, (∀ b, b ∈ bs → TupS H b.1 b.2) → Tups H (bs.map (·.1)) (bs.map (·.2))
  | [], _ => .nil
  | b :: bs, h => .cons (h b (by simp)) (tups_of fun c hc => h c (by simp [hc]))
theorem kxy_le {a b : Stc} (h : kx a < kx b ∨ (kx a = kx b ∧ ky a ≤ ky b)) : lowLe a.1 b.1 := by
  obtain ⟨l, r⟩ := a
  obtain ⟨l', r'⟩ := b
  cases l <;> cases l' <;> simp_all [kx, ky, lowLe]
/-- what sorted by start_of gives: the same stretches, by their low ends -/
theorem sorted_low {H : Hp} {xs : List V} {ss : List Stc} (h : Tups H xs ss) : ∃ ss', Tups H (byKeys xs (ss.map keyD)) ss' ∧ ss'.Perm ss ∧ ss'.Pairwise fun a b => lowLe a.1 b.1 := by
  have hlen : xs.length = ss.length := Paired.length h
  have e1 : xs.zip (ss.map keyD) = (xs.zip ss).map fun b => (b.1, keyD b.2) := by rw [List.zip_map_right]; rfl
  have hle : PySem.W.dataLe false (fun b : V × Stc => keyD b.2) = fun p q => decide (kx p.2 < kx q.2 ∨ (kx p.2 = kx q.2 ∧ ky p.2 ≤ ky q.2)) := PySem.W.dataLe_ii (fun b : V × Stc => kx b.2) fun b => ky b.2
  have e2 : byKeys xs (ss.map keyD) = ((xs.zip ss).mergeSort (PySem.W.dataLe false fun b : V × Stc => keyD b.2)).map (·.1) := by
    unfold byKeys
    rw [e1, ← List.map_mergeSort (f := fun b : V × Stc => (b.1, keyD b.2)) (r := PySem.W.dataLe false fun b : V × Stc => keyD b.2) (s := PySem.W.dataLe false fun b : V × PyData => b.2) (fun _ _ _ _ => rfl), List.map_map]
    rfl
  rw [e2, hle]
  have pm := List.mergeSort_perm (xs.zip ss) fun p q => decide (kx p.2 < kx q.2 ∨ (kx p.2 = kx q.2 ∧ ky p.2 ≤ ky q.2))
  have pw := List.pairwise_mergeSort (le := fun p q : V × Stc => decide (kx p.2 < kx q.2 ∨ (kx p.2 = kx q.2 ∧ ky p.2 ≤ ky q.2)))
    (fun a b c h1 h2 => by simp only [decide_eq_true_eq] at *; omega) (fun a b => by simp only [Bool.or_eq_true, decide_eq_true_eq]; omega) (xs.zip ss)
  refine ⟨_, tups_of fun b hb => tups_zip h b (pm.mem_iff.mp hb), ?_, ?_⟩
  · have := pm.map (·.2)
    rwa [List.map_snd_zip (by omega)] at this
  · refine List.pairwise_map.mpr (pw.imp fun {a b} hab => kxy_le (by simpa using hab))
theorem keys_alike (ss : List Stc) : PySem.W.AllAlike (ss.map keyD) := PySem.W.AllAlike.of fun _ _ => by simp [keyD, PySem.W.alike, PySem.W.alikeAll]
theorem keys_sort (ss : List Stc) : PySem.W.Sortable (ss.map keyD) := PySem.W.Sortable.tuples fun _ => ⟨_, _, rfl⟩
theorem keys_deep (ss : List Stc) : ∀ d, d ∈ ss.map keyD → d.depth ≤ 100 := fun d hd => by
  obtain ⟨s, _, rfl⟩ := List.mem_map.mp hd
  simp [keyD, PyData.depth, PyData.depthAll]

/-! ## cls(..) of a local name, C.m() without arguments -/
section
open PySem.Spec PyProof.Rows ClX StX
variable {X : Cx} {CX : CXT} {k i : Nat} {f C p g : Addr} {mc : Value} {sp : Sp} {E : XK} {x m : Str} {q pos apos : Pos} {e o : Expr} {es : List Expr} {ta : TE} {t : TA}
def tMakeL (i : Nat) (C : Addr) (sp : Sp) (E : XK) (t : TA) : TE := fun σ H Q => σ[i]? = some (some (.ref C)) ∧ tMakeR C sp E t σ H Q
theorem pe_makeL (M : Mk X.K C f) (F : FnR X.prog X.w X.K X.mg X.base CX k f sp) (hr : Room (k + 1) X.A) (hN : X.N[i]? = some x) (hv : Vis X.env.scope x) (hx : Passes CX X E) (ha : PA X (e :: es) t)
    (hdb : (x == ("__debug__" : Str)) = false := by decide) (hcd : (x == ("__classdict__" : Str)) = false := by decide)
    (he : starEach (e :: es) X.env = (false, eval e X.env) :: starEach es X.env := by rfl) (hpl : (backTo pos (starEach es X.env)).any (·.1) = false := by rfl) : PE X (.Call (.Name x q) (e :: es) [] pos) (tMakeL i C sp E t) := by
  refine ⟨fun pins s σ H Q I h => ?_⟩
  obtain ⟨hs, ht⟩ := h
  have ld := (pe_var (pos := q) hN hv hdb hcd).run pins s σ H (fun v H1 => v = .ref C ∧ H1 = H) I ⟨.ref C, hs, rfl, rfl⟩
  refine wpAny_Call_Name_kw (thn ld fun u s1 ⟨v, H1, I1, r1, q1⟩ => ?_)
  obtain ⟨rfl, rfl⟩ := q1
  cases r1
  refine PySem.W.callWith_K (h₀ := X.base) I.ok.mod.kin M.kp (thn (ha.run pos pins s1 σ _ _ I1 ht) fun us s2 ⟨vs, H2, I2, r, z⟩ => ⟨I2.kIn, ?_⟩) he hpl
  exact run_makeR M F hr hx I2 r z
theorem pe_cmeth0 {pl : Sem Bool} (he : PE X o ta) (r : CRead X.K C mc) (c : CMet X.K C mc m p g) (F : FnR X.prog X.w X.K X.mg X.base CX k g sp) (hr : Room k X.A) (hx : Passes CX X E)
    (ht : eval (.Call (.Attribute o m apos) [] [] pos) X.env = (do
      let ov ← eval o X.env
      standAt apos.atName
      let (f, first) ← holding [ov] (getMethod ov m pl)
      callWith pos f first (backTo pos (starEach [] X.env)) (backToKw pos (keywordEach [] X.env))) := by rfl) : PE X (.Call (.Attribute o m apos) [] [] pos) (tCMeth C sp E ta tNil) := by
  refine ⟨fun pins s σ H Q I h => ?_⟩
  refine PySem.W.methodCall_KW (pl := pl) (thn (he.run pins s σ H _ I h) fun u s1 ⟨x, H1, I1, rx, ex, z⟩ => ?_) ht
  subst ex
  obtain rfl : u = Value.ref C := rx
  refine getmethcm_ok I1 r c fun s2 I2 => ?_
  exact PySem.W.callWith_M0 (first := []) ⟨pin_at I2, I2.kIn⟩ c.fi (run_cm F hr hx I2 .nil z)
end

/-- def f(a, .., *v) by its text -/
theorem _root_.L2.Fun.okStar {P : Program} {w : World} {K : PySem.W.Frag} {mg : Str → Option Value} {base : Heap} {x qual pv : Str} {st : Stmt} {f : Addr} {fd : FuncData} {N ps : List Str} {k : Nat} {sp : Sp} (F : Fun K x qual st f fd) (S : FnScope N (ps ++ [pv]) (defScope st))
    (hb : ∀ (kV doc pm : Value) (an : Option Addr) (cdv ct : Value) (us rest : List Value), us.length = ps.length →
      bindArgs (PySem.W.fnOf x qual (defArgs st) (defBody st) (defScope st) .none kV doc pm an cdv ct) ⟨us ++ rest, []⟩ = (newTuple rest >>= fun t => pure (ps.zip us ++ [(pv, t)])))
    (hbody : ∀ (cdv : Value) (A : Around) (outer : List Env) (s : Shared) (H : Hp) (vs : List V) (Q : VK) (E : XK), Room k (A.deeper (PyProof.Rows.envOfC qual (defScope st) s.heap.objs.size f cdv)) → sp vs H Q E →
      ∃ t, PSs (cxOf CX0 P w K mg base N qual (defScope st) f cdv A outer s H E).nox (defBody st) t ∧ t { nx := fun _ H' => Q .non H', rt := Q } (L2.start N vs) H) :
    FnR P w K mg base CX0 (k + 1) f (fun vs H Q E => ∃ ws rest, vs = ws ++ rest ∧ ws.length = ps.length ∧ rest.length ≤ sizeLine ∧ ∀ p, H p = none → sp (ws ++ [V.ref p]) (upd H p (.tup rest)) Q E) := by
  obtain ⟨oc, od, kV, doc, pm, an, cdv, ct, osl, rfl, lk, hcd⟩ := F.ex
  refine StX.fn_star lk hcd S StX.cxUp_none (hb kV doc pm an cdv ct) fun A outer s H vs Q E hr hsp => ?_
  obtain ⟨t, h, q⟩ := hbody cdv A outer s H vs Q E hr hsp
  exact ⟨t, h.nox, q⟩
end Spk

set_option Elab.async false
set_option linter.all false
set_option maxRecDepth 100000
set_option maxHeartbeats 2000000
namespace Spk
open PySem PySem.Spec PyProof.Rows L2
open AutoSeq1 (wpAny_loadPart')

/-! ## for i, x in enumerate(t), t a tuple -/
abbrev itO (l : Addr) : Obj := { cls := .type "tuple_iterator", data := .fields #[.ref l, .int 0 0] }
abbrev enO (k : Addr) : Obj := { cls := .type "enumerate", data := .fields #[.none, .bool false, .ref k, rawInt 0, .none, .none] }
set_option maxHeartbeats 4000000 in
theorem enum_newT (l : Addr) (items : Array Value) (n : Nat) (dd : Option Addr) (sl : Array (Option Value)) : Meets (Builtin.«enumerate.__new__» ⟨[.type "enumerate", .ref l], []⟩) (fun _ R s =>
      s.heap.get? l = some { cls := .type "tuple", dict := dd, data := .seq items n, slots := sl } ∧ R (.ok (.ret (.ref (s.heap.push (itO l)).objs.size))) { s with heap := (s.heap.push (itO l)).push (enO s.heap.objs.size) }) :=
  .of_wp fun prog w A R s h => by
    obtain ⟨hp, g, d, tk, os⟩ := s
    obtain ⟨hl, h⟩ := h
    have hT : hp.IsTuple l items := ⟨_, hl, rfl, n, rfl⟩
    have hsub := sub_enumerate
    wp_walk using wpAny_loadPart' hl
    refine wpAny_stack_any fun st => wpAny_pure ?_
    split
    · rename_i c _ _ _ _ _
      cases (c == Value.type "enumerate") <;> (wp_walk using wpAny_loadPart' hl, wpAny_pyIter_tuple hT; exact ⟨_, rfl, h⟩)
    · (wp_walk using wpAny_loadPart' hl, wpAny_pyIter_tuple hT); exact ⟨_, rfl, h⟩

theorem call_enumT {prog : Program} {w : World} {A : Around} {E : Value → Shared → Prop} {s : Shared} {l : Addr} {items : Array Value} {Q : Value → Shared → Prop} (hL : s.heap.IsTuple l items)
    (h : ∀ h', IsEnum h' (s.heap.objs.size + 1) s.heap.objs.size 0 .none → h'.IsTupleIter s.heap.objs.size l 0 → (∀ b o, s.heap.get? b = some o → h'.get? b = some o) → Q (.ref (s.heap.objs.size + 1)) { s with heap := h' }) :
    wpAny (model prog w) A (call (.type "enumerate") [.ref l]) Q E s := by
  obtain ⟨⟨c, dct, dt, sl⟩, hl, hc, n, hd⟩ := hL
  replace hc : c = .type "tuple" := hc
  replace hd : dt = .seq items n := hd
  subst hc hd
  have hz : (s.heap.push (itO l)).objs.size = s.heap.objs.size + 1 := Heap.size_push ..
  have he : IsEnum ((s.heap.push (itO l)).push (enO s.heap.objs.size)) (s.heap.objs.size + 1) s.heap.objs.size 0 .none := by
    have := Heap.get?_push_size (s.heap.push (itO l)) (o := enO s.heap.objs.size) rfl
    rw [hz] at this
    exact this
  have fin := h _ he ⟨_, Heap.get?_push_of_some _ (Heap.get?_push_size _ rfl), rfl, rfl⟩ fun b o x => Heap.get?_push_of_some _ (Heap.get?_push_of_some _ x)
  refine callType_new PySem.F.called_enumerate (by decide) (PySem.F.typeCall_enumerate_1 _) (PySem.F.newCall_enumerate_1 _) (fun obj => PySem.F.args_object_init_2 obj _) PySem.F.entry_enumerate_new (enum_newT l items n dct sl) ⟨hl, ?_⟩
  show _ ∧ _
  rw [hz]
  exact ⟨⟨_, he, rfl⟩, fin⟩
/-- the tuple at a, each item in a new pair -/
def IteT (K : PySem.W.Frag) (a : Addr) : It where
  go := fun i H => ∃ (xs : List V) (x : V), SqT K H a xs ∧ xs[i]? = some x
  yld := fun i H v H' => ∃ T x, v = .ref T ∧ H T = none ∧ H' = upd H T (.tup [.int (i : Nat), x]) ∧ ∀ xs, SqT K H a xs → xs[i]? = some x
  stop := fun i H => ∃ xs : List V, SqT K H a xs ∧ xs.length = i
theorem turn_enumT {P : Program} {w : World} {K : PySem.W.Frag} {elts : List Expr} {kk : Nat} {tpos : Pos} (a e it : Addr) :
    Turn P w K (.Tuple elts kk tpos) (IteT K a) [e, it] e (fun i h => (∃ old, IsEnum h e it ((i : Nat) : Int) old) ∧ h.IsTupleIter it a i ∧ e ≠ it ∧ a ≠ it ∧ a ≠ e) where
  mem := by simp
  obj := fun i h st b hb => by
    obtain ⟨⟨old, he⟩, ⟨o, ho, hc, hd⟩, _⟩ := st
    rcases List.mem_cons.mp hb with rfl | hb
    · exact ⟨_, he, fun v q => nomatch q⟩
    · rw [List.mem_singleton.mp hb]
      exact ⟨o, ho, fun v q => by rw [hd] at q; cases q⟩
  keep := fun i h h' st k => by
    obtain ⟨⟨old, he⟩, hi, hne⟩ := st
    exact ⟨⟨old, k e (by simp) _ he⟩, hi.at fun o q => k it (by simp) o q, hne⟩
  item := by
    intro X hP hw hK hc i pins s σ H E I hf st hg
    subst hP hw hK
    obtain ⟨⟨old, he⟩, hit, hne, hai, hae⟩ := st
    obtain ⟨xs, x, hq, hx⟩ := hg
    obtain ⟨its, rv, p, hz⟩ := I.tuple hq
    obtain ⟨u, hu, ru⟩ := rv.get hx
    have hel : e < s.heap.objs.size := Heap.lt_size he
    have hil : it < s.heap.objs.size := by
      obtain ⟨_, q, _⟩ := hit
      exact Heap.lt_size q
    have hi : i < its.toArray.size := by
      rw [List.size_toArray]
      exact (List.getElem?_eq_some_iff.mp hu).1
    have D := Draws.tuple (prog := X.prog) (w := X.w) (A := X.A.in1) (I.ok.hd hc) it a hai its.toArray
    refine wpAny_pyNext_enum_itemD D he ⟨hit, p⟩ hi hne (by simp [hne, Ne.symm hae]) fun x' h' tk hx' ho hst hT hsz hk => ?_
    have ex : x' = u := by
      have h1 : its.toArray[i]? = some u := by simpa using hu
      rw [h1] at hx'
      exact (Option.some.inj hx').symm
    subst ex
    refine ⟨_, rfl, wpAny_letOwnedTupleGo_enum (s := { s with heap := h', toks := tk + 1 }) ho fun h'' he' sb => ?_⟩
    have hT2 : h''.get? s.heap.objs.size = some { cls := .type "tuple", data := .seq #[.int i tk, x'] } := (sb.2 _ (Nat.ne_of_gt hel)).trans hT
    have new : ObjOk X.prog X.w (upd H s.heap.objs.size (.tup [.int (i : Nat), x])) h'' s.heap.objs.size (.tup [.int (i : Nat), x]) :=
      ⟨size_of (Nat.le_of_ble_eq_true rfl), [.int i tk, x'], .cons ⟨_, rfl⟩ (.cons ru .nil), ⟨_, hT2, rfl, _, rfl⟩⟩
    have keepB : ∀ b ob, b ∉ [e, it] → s.heap.get? b = some ob → h''.get? b = some ob := fun b ob hb q => by
      simp only [List.mem_cons, List.not_mem_nil, or_false, not_or] at hb
      exact (sb.2 b hb.1).trans (hk b ob hb.1 hb.2 q)
    have I1 := I.turnedNew (t' := tk + 1) (ch := [e, it]) keepB hf (Nat.le_refl _) new
    refine ⟨.ref s.heap.objs.size, _, I1, rfl, ⟨_, x, rfl, I.hok.fresh (Nat.le_refl _), rfl, fun ys hy => by rw [I.tuple_inj hy hq]; exact hx⟩, ⟨⟨x', ?_⟩, hst.1.at fun o q => (sb.2 it (Ne.symm hne)).trans q, hne, hai, hae⟩, fun b hb => ?_⟩
    · rw [show ((i + 1 : Nat) : Int) = (i : Int) + 1 from rfl]
      exact he'
    · have hb' : b < s.heap.objs.size := by
        rcases List.mem_cons.mp hb with rfl | hb
        · exact hel
        · rw [List.mem_singleton.mp hb]; exact hil
      rw [upd_ne (Nat.ne_of_lt hb')]
      exact (hf b hb).1
  done := by
    intro X hP hw hK hc i pins s σ H E I hf st hg
    subst hP hw hK
    obtain ⟨⟨old, he⟩, hit, hne, hai, hae⟩ := st
    obtain ⟨xs, hq, hx⟩ := hg
    obtain ⟨its, rv, p, hz⟩ := I.tuple hq
    obtain ⟨f0, f1, f2, f3, f4, f5⟩ := hf it (by simp)
    have D := Draws.tuple (prog := X.prog) (w := X.w) (A := X.A.in1) (I.ok.hd hc) it a hai its.toArray
    have hsz : its.toArray.size = i := by rw [List.size_toArray, ← rv.length]; exact hx
    refine wpAny_pyNext_enum_endD D he ⟨by rw [hsz]; exact hit, p⟩ fun h' eb => ⟨rfl, ?_⟩
    exact I.turned (t' := s.toks) (fun b o hb q => eb b o hb q) f0 f1 f3 f4 f5
  self := fun A i s Q E st h => by
    obtain ⟨⟨_, he⟩, _⟩ := st
    exact wpAny_pyIter_enum he h

def iEnumT (K : PySem.W.Frag) (ta : TA) : TI := fun σ H R => ta σ H fun vs H1 => ∃ a xs, vs = [.ref a] ∧ SqT K H1 a xs ∧ R (IteT K a) H1
theorem i_iET {K : PySem.W.Frag} {σ : L2.St} {H : Hp} {ts : TA} {R : It → Hp → Prop} (h : ts σ H fun vs H1 => ∃ a xs, vs = [.ref a] ∧ SqT K H1 a xs ∧ R (IteT K a) H1) : iEnumT K ts σ H R := h
theorem pi_enumT {X : Cx} {e : Expr} {ta : TA} {p pos tpos : Pos} {elts : List Expr} {kk : Nat} (hg : Gl X "enumerate") (hm : X.mg "enumerate" = none) (ha : PA X [e] ta) (hs : starEach [e] X.env = [(false, eval e X.env)] := by rfl) :
    PI X (.Tuple elts kk tpos) (.Call (.Name "enumerate" p) [e] [] pos) (iEnumT X.K ta) := by
  refine ⟨fun pins s σ H R I h => ?_⟩
  refine Call_ (ld_blt I hg hm boot_enumerate (callWith_type1 (thn (ha.run pos pins s σ H _ I h) fun us s1 ⟨vs, H1, I1, r1, q1⟩ => ?_) hs rfl))
  obtain ⟨a, xs, ex, hq, q⟩ := q1
  subst ex
  obtain ⟨u, rfl, ru⟩ := r1.one
  cases ru
  obtain ⟨its, rv, p', hz⟩ := I1.tuple hq
  have ha' : a < s1.heap.objs.size := by
    obtain ⟨o, ho, _⟩ := p'
    exact Heap.lt_size ho
  refine call_enumT p' fun h' he hit hk => wpAny_pyIter_enum he ?_
  have I2 : Inv X pins σ H1 { s1 with heap := h' } := I1.kept (t' := s1.toks) hk
  have ne1 : a ≠ s1.heap.objs.size := Nat.ne_of_lt ha'
  have ne2 : a ≠ s1.heap.objs.size + 1 := Nat.ne_of_lt (Nat.lt_succ_of_lt ha')
  refine ⟨s1.heap.objs.size + 1, [s1.heap.objs.size + 1, s1.heap.objs.size], _, _, H1, rfl, I2, turn_enumT a (s1.heap.objs.size + 1) s1.heap.objs.size, ⟨⟨.none, he⟩, hit, Nat.succ_ne_self _, ne1, ne2⟩, fun b hb => ?_, q⟩
  have hle : s1.heap.objs.size ≤ b := by
    rcases List.mem_cons.mp hb with rfl | hb
    · exact Nat.le_succ _
    · rw [List.mem_singleton.mp hb]
      exact Nat.le_refl _
  exact I1.fpOk hle (I1.hok.fresh hle)
theorem for_enumT {K : PySem.W.Frag} {a : Addr} {xs : List V} {g : TG} {tb : TS} {D : Ends} {σ : L2.St} {H : Hp} (Pv : Nat → L2.St → Hp → Prop) (h0 : Pv 0 σ H) (hl : ∀ i σ H, i ≤ xs.length → Pv i σ H → SqT K H a xs)
    (hs : ∀ i x T σ H, xs[i]? = some x → Pv i σ H → H T = none → g (.ref T) σ (upd H T (.tup [.int (i : Nat), x])) fun σ2 H2 => tb { D with nx := Pv (i + 1), ct := Pv (i + 1), bk := D.nx } σ2 H2) (hd : ∀ σ H, Pv xs.length σ H → D.nx σ H) :
    forK g tb D σ (IteT K a) H := by
  refine ⟨fun i m σ H => m = xs.length - i ∧ i ≤ xs.length ∧ Pv i σ H, ⟨_, rfl, Nat.zero_le _, h0⟩, ?_⟩
  rintro i m σ H ⟨rfl, hi, p⟩
  by_cases e : i = xs.length
  · subst e
    exact .inl ⟨⟨xs, hl _ _ _ hi p, rfl⟩, hd _ _ p⟩
  · have hlt : i < xs.length := by omega
    refine .inr ⟨⟨xs, xs[i], hl _ _ _ hi p, List.getElem?_eq_getElem hlt⟩, Pv (i + 1), fun σ' H' p' => ⟨_, ?_, rfl, hlt, p'⟩, ?_⟩
    · omega
    · rintro x H' ⟨T, y, rfl, hT, rfl, hy⟩
      exact hs i y T σ H (hy xs (hl _ _ _ hi p)) p hT
end Spk

set_option Elab.async false
set_option linter.all false
set_option maxRecDepth 100000
set_option maxHeartbeats 1000000
namespace Spk
open PySem L2
/-! ## for i, x in enumerate(list) -/
theorem i_iE {K : PySem.W.Frag} {σ : L2.St} {H : Hp} {ta : TA} {R : It → Hp → Prop} (h : ta σ H fun vs H1 => ∃ a xs, vs = [.ref a] ∧ SqL K H1 a xs ∧ R (Ite K a) H1) : iEnum K ta σ H R := h
theorem for_enumL {K : PySem.W.Frag} {a : Addr} {xs : List V} {g : TG} {tb : TS} {D : Ends} {σ : L2.St} {H : Hp} (Pv : Nat → L2.St → Hp → Prop) (h0 : Pv 0 σ H) (hl : ∀ i σ H, i ≤ xs.length → Pv i σ H → SqL K H a xs)
    (hs : ∀ i x T σ H, xs[i]? = some x → Pv i σ H → H T = none → g (.ref T) σ (upd H T (.tup [.int (i : Nat), x])) fun σ2 H2 => tb { D with nx := Pv (i + 1), ct := Pv (i + 1), bk := D.nx } σ2 H2) (hd : ∀ σ H, Pv xs.length σ H → D.nx σ H) :
    forK g tb D σ (Ite K a) H := by
  refine ⟨fun i m σ H => m = xs.length - i ∧ i ≤ xs.length ∧ Pv i σ H, ⟨_, rfl, Nat.zero_le _, h0⟩, ?_⟩
  rintro i m σ H ⟨rfl, hi, p⟩
  by_cases e : i = xs.length
  · subst e
    exact .inl ⟨⟨xs, hl _ _ _ hi p, Nat.le_refl _⟩, hd _ _ p⟩
  · have hlt : i < xs.length := by omega
    refine .inr ⟨⟨xs, xs[i], hl _ _ _ hi p, List.getElem?_eq_getElem hlt⟩, Pv (i + 1), fun σ' H' p' => ⟨_, ?_, rfl, hlt, p'⟩, ?_⟩
    · omega
    · rintro x H' ⟨T, y, rfl, hT, rfl, hy⟩
      exact hs i y T σ H (hy xs (hl _ _ _ hi p)) p hT
end Spk

set_option Elab.async false
set_option linter.all false
set_option maxRecDepth 100000
set_option maxHeartbeats 1000000
namespace Spk
open PySem PySem.Spec PyProof.Rows PySem.W L2 HT
open PySem.Froz (SD sObj addTx tailTx TxOk)
/-! ## sets of texts: what tuple(sorted(set(t))) gives -/

/-- the payload may be walked: its places rise, its order is the world's -/
structure Walkable (w : World) (D : SD) : Prop where
  ris : Ris D.2.2.place.toList
  led : w.params.followText "set-order" = true ∨ D.2.2.led = true

theorem walk_tail {w : World} {ep : Nat} {es : Array (Int × Value)} {t : SetTable} {b : Bool} (r : Ris t.place.toList) (l : w.params.followText "set-order" = true ∨ t.led = true) :
    Walkable w (tailTx ep es t b) := by
  unfold tailTx
  split
  · exact ⟨relayAll_ris t es _, l.imp id fun z => (relayAll_led t es _).trans z⟩
  · exact ⟨r, l⟩
theorem walk_add {w : World} {D : SD} (x : Walkable w D) (h : Int) (v : Value) : Walkable w (addTx h v D) := by
  have r := layNew_ris D.2.2 D.1 h v x.ris
  have l : w.params.followText "set-order" = true ∨ (layNew D.2.2 D.1 h v).2.1.led = true := x.led.imp id fun z => (layNew_led D.2.2 D.1 h v).trans z
  unfold addTx
  split
  · exact walk_tail r l
  · exact walk_tail r l

/-- at a stands a set with just the texts l, none twice -/
def TxAt (P : Program) (w : World) (a : Addr) (l : List Str) (h : Heap) : Prop :=
  ∃ D : SD, h.get? a = some (sObj "set" D) ∧ TxOk P w D l ∧ l.Nodup ∧ Walkable w D

theorem TxAt.keep {P : Program} {w : World} {a : Addr} {l : List Str} {h h' : Heap} (x : TxAt P w a l h) (k : ∀ o, h.get? a = some o → h'.get? a = some o) : TxAt P w a l h' := by
  obtain ⟨D, e, r⟩ := x
  exact ⟨D, k _ e, r⟩

section
variable {P : Program} {w : World} {A : Around} {E : Value → Shared → Prop} {s : Shared} {a : Addr} {l : List Str}
/-- a text that is there already changes nothing -/
theorem put_old {D : SD} {k : Str} {u : Tok} {Q : Bool → Shared → Prop} (ho : s.heap.get? a = some (sObj "set" D)) (F : TxOk P w D l) (hk : k ∈ l) (hb : l.length < scanBound) (h : Q false s) :
    wpAny (model P w) A (setAddHashed a (.str k u) (hashStr w k)) Q E s := by
  obtain ⟨es, ep, t⟩ := D
  have hf : t.fits es.size = true := F.fit
  have hel : ElemsOf (strKind P w) es.toList := F.el
  have hsz : es.size = l.length := F.sz
  have hm : ∃ e ∈ es.toList, (strKind P w).is k e.2 = true := (F.mem k).mp hk
  have hn : List.findIdx? (fun e => (strKind P w).is k e.2) es.toList ≠ none := fun c => by
    obtain ⟨e, he, z⟩ := hm
    exact Bool.noConfusion (z.symm.trans (List.findIdx?_eq_none_iff.mp c e he))
  unfold setAddHashed setAddHashedIn
  refine wpAny_holding (wpAny_bind (wpAny_setState_of ho rfl hf ?_))
  dsimp only
  rw [byScan_of rfl (by omega) hel, if_pos rfl]
  unfold setAddByScan
  refine wpAny_bind (wpAny_bind (wpAny_rule (wpAny_bind (wpAny_setScan_of (knd := strKind P w) (k := k) (PySem.Froz.is_str k u) ho rfl hf hel ?_))))
  cases hr : List.findIdx? (fun e => (strKind P w).is k e.2) es.toList with
  | none => exact absurd hr hn
  | some j => exact wpAny_pure (wpAny_pure h)

/-- the texts behind one more -/
def withTx (l : List Str) (k : Str) : List Str := if k ∈ l then l else k :: l
theorem withTx_mem {l : List Str} {k x : Str} : x ∈ withTx l k ↔ x = k ∨ x ∈ l := by
  unfold withTx
  split
  · rename_i h
    exact ⟨.inr, fun z => z.elim (fun e => e ▸ h) id⟩
  · exact List.mem_cons
theorem withTx_len {l : List Str} {k : Str} : (withTx l k).length ≤ l.length + 1 := by
  unfold withTx
  split <;> simp
theorem tx_put {k : Str} {u : Tok} {Q : Bool → Shared → Prop} (x : TxAt P w a l s.heap) (hb : l.length + 1 < scanBound)
    (h : ∀ b h', TxAt P w a (withTx l k) h' → Heap.SameBut a s.heap h' → Q b { s with heap := h' }) :
    wpAny (model P w) A (setAddHashed a (.str k u) (hashStr w k)) Q E s := by
  obtain ⟨D, e, F, nd, wk⟩ := x
  by_cases hk : k ∈ l
  · refine put_old e F hk (by omega) ?_
    refine h false s.heap ?_ (Heap.SameBut.refl a s.heap)
    unfold withTx
    rw [if_pos hk]
    exact ⟨D, e, F, nd, wk⟩
  · refine PySem.Froz.add_x e F hk hb ?_
    refine h true _ ?_ (Heap.SameBut.update s.heap a _)
    unfold withTx
    rw [if_neg hk]
    exact ⟨_, PySem.Froz.get_upd _ e rfl, PySem.Froz.add_ok u F, List.nodup_cons.mpr ⟨hk, nd⟩, walk_add wk _ _⟩
/-- set.add's inner step with a text -/
theorem tx_add {k : Str} {u : Tok} {Q : Bool → Shared → Prop} (x : TxAt P w a l s.heap) (hb : l.length + 1 < scanBound)
    (h : ∀ b h', TxAt P w a (withTx l k) h' → Heap.SameBut a s.heap h' → Q b { s with heap := h', toks := s.toks + 1 }) :
    wpAny (model P w) A (setAdd a (.str k u)) Q E s := by
  unfold setAdd
  refine wpAny_holding (wpAny_bind ((strKind P w).pyHash (k := k) (strKind_is _ _ _ _) ?_))
  refine tx_put (s := { s with toks := s.toks + 1 }) x hb fun b h' y sb => ?_
  exact h b h' y sb
end

/-- the texts of a row, each once -/
def onceTx : List Str → List Str → List Str := fun l xs => xs.foldl withTx l
theorem onceTx_mem : ∀ (xs l : List Str) (x : Str), x ∈ onceTx l xs ↔ x ∈ xs ∨ x ∈ l
  | [], l, x => by simp [onceTx]
  | y :: ys, l, x => by
    show x ∈ onceTx (withTx l y) ys ↔ _
    rw [onceTx_mem ys, withTx_mem, List.mem_cons]
    constructor
    · rintro (z | z | z)
      · exact .inl (.inr z)
      · exact .inl (.inl z)
      · exact .inr z
    · rintro ((z | z) | z)
      · exact .inr (.inl z)
      · exact .inl z
      · exact .inr (.inr z)
theorem onceTx_len : ∀ (xs l : List Str), (onceTx l xs).length ≤ l.length + xs.length
  | [], l => Nat.le_refl _
  | y :: ys, l => by
    have a := onceTx_len ys (withTx l y)
    have b := withTx_len (l := l) (k := y)
    rw [List.length_cons]
    exact Nat.le_trans a (by omega)
theorem onceTx_snoc (l xs : List Str) (k : Str) : onceTx l (xs ++ [k]) = withTx (onceTx l xs) k := by
  unfold onceTx
  rw [List.foldl_append] <;> rfl
theorem onceTx_take (xs : List Str) {i : Nat} {k : Str} (h : xs[i]? = some k) : onceTx [] (xs.take (i + 1)) = withTx (onceTx [] (xs.take i)) k := by
  rw [List.take_add_one, h]
  exact onceTx_snoc [] _ k

section
variable {P : Program} {w : World} {A : Around} {E : Value → Shared → Prop}
/-- set.update's inner loop over a row of texts -/
theorem tx_loop {it S : Addr} {fp wr : List Addr} {G : Array GenState → Array GenState → Prop} {xs : List Str} {Pv : Nat → Value → Prop} {St : Nat → Shared → Prop} {R : Result → Shared → Prop}
    (W : WalksS P w A.in1 it fp wr G xs.length Pv St) (hS : S ∉ fp) (hb : xs.length + 1 < scanBound) (hv : ∀ i v, Pv i v → ∃ k u, xs[i]? = some k ∧ v = .str k u) :
    ∀ (m i : Nat) (s : Shared), m + i = xs.length → St i s → TxAt P w S (onceTx [] (xs.take i)) s.heap →
      (∀ s', Moved (S :: wr) G s s' → TxAt P w S (onceTx [] xs) s'.heap → R (.ok (.ret .none)) s') →
      codeAny (model P w) A (.builtin "set.update.loop" ⟨[.ref S, .ref it], []⟩) R s := by
  have sw : S ∉ wr := fun z => hS (W.sub _ z)
  have up : ∀ b ∈ wr, b ∈ S :: wr := fun b => List.mem_cons_of_mem S
  intro m
  induction m with
  | zero =>
    intro i s e st x k
    obtain rfl : i = xs.length := by omega
    refine codeAny_builtin F.entry_set_update_loop ?_
    rw [Around.under_plainId F.plain_set_update_loop _]
    show wpAny _ A.in1 (pyNext (.ref it) >>= _) _ _ s
    refine wpAny_bind (W.done s _ _ st fun s1 mv => wpAny_pure (k s1 (mv.mono up) ?_))
    rw [List.take_length] at x
    exact x.keep fun o => mv.heap S o sw
  | succ m ih =>
    intro i s e st x k
    refine codeAny_builtin F.entry_set_update_loop ?_
    rw [Around.under_plainId F.plain_set_update_loop _]
    show wpAny _ A.in1 (pyNext (.ref it) >>= _) _ _ s
    refine wpAny_bind (W.item i s _ _ (by omega) st fun v s1 pv st1 mv => ?_)
    obtain ⟨z, u, hz, rfl⟩ := hv i v pv
    have x1 := x.keep (h' := s1.heap) fun o => mv.heap S o sw
    have hl : (onceTx [] (xs.take i)).length + 1 < scanBound := by
      have q := onceTx_len (xs.take i) []
      rw [List.length_take] at q
      have : ([] : List Str).length = 0 := rfl
      omega
    show wpAny _ A.in1 (holding [Value.str z u] (setAdd S (.str z u)) >>= _) _ _ s1
    refine wpAny_bind (wpAny_holding (tx_add x1 hl fun b h' x2 sb => wpAny_pure ⟨plainId_quiet F.plain_set_update_loop _, ?_⟩))
    have old : ∀ c ∈ fp, ∀ o, s1.heap.get? c = some o → h'.get? c = some o := fun c hc o e => (sb.2 c fun z => hS (z ▸ hc)).trans e
    refine ih (i + 1) _ (by omega) (W.frame _ s1 _ _ st1 (Nat.le_succ _) old) (by rw [onceTx_take xs hz]; exact x2) fun s2 mv2 y => k s2 ?_ y
    exact Moved.trans W.gtrans ((mv.mono up).then_heap (Nat.le_succ _) fun c o hc e => (sb.2 c fun z => hc (by rw [z]; exact List.mem_cons_self)).trans e) mv2

/-- the object that set() lays down -/
def bare (w : World) : Obj := { cls := .type "set", dict := none, data := .set #[] 0 (.fresh 0 0 (!w.params.followText "set-order")) }
theorem bare_tx {h : Heap} {S : Addr} (e : h.get? S = some (bare w)) : TxAt P w S [] h :=
  ⟨(#[], 0, .fresh 0 0 (!w.params.followText "set-order")), e, PySem.Froz.TxOk.nil rfl, List.nodup_nil, ⟨List.Pairwise.nil, by
    show _ ∨ (!w.params.followText "set-order") = true
    cases w.params.followText "set-order" <;> simp⟩⟩

/-- what set(t) asks of its answer -/
def Done (P : Program) (w : World) (s : Shared) (xs : List Str) (s' : Shared) : Prop :=
  ∃ h' tk, s' = { s with heap := h', toks := tk } ∧ TxAt P w s.heap.objs.size (onceTx [] xs) h' ∧ ∀ b o, b < s.heap.objs.size → s.heap.get? b = some o → h'.get? b = some o

variable {s : Shared}
theorem tx_item : ∀ {us : List Value} {xs : List Str}, StrsAre us xs → ∀ (i : Nat) (v : Value), us[i]? = some v → ∃ k u, xs[i]? = some k ∧ v = .str k u
  | _, _, .cons y t _, 0, v, e => ⟨y, t, rfl, (Option.some.inj e).symm⟩
  | _, _, .cons y t r, i + 1, v, e => tx_item r i v e
/-- set.__init__ over a tuple of texts -/
theorem tx_init {l : Addr} {items : Array Value} {xs : List Str} (hh : A.handled = none) (hl : s.heap.IsTuple l items) (hi : StrsAre items.toList xs) (hb : xs.length + 1 < scanBound) :
    codeAny (model P w) A (.call (.builtin "set.__init__") ⟨[.ref s.heap.objs.size, .ref l], []⟩) (wants (fun r s' => r = .none ∧ Done P w s xs s') E) { s with heap := s.heap.push (bare w) } := by
  have hS : (s.heap.push (bare w)).get? s.heap.objs.size = some (bare w) := Heap.get?_push_size _ rfl
  have hT : Shared.TypeIs { s with heap := s.heap.push (bare w) } (.ref s.heap.objs.size) "set" := ⟨_, hS, rfl⟩
  obtain ⟨ol, hol, hcl, nl, hdl⟩ := hl
  have hlS : l < s.heap.objs.size := Heap.lt_size hol
  have hol' : (s.heap.push (bare w)).get? l = some ol := Heap.get?_push_of_some _ hol
  have hTl : Shared.TypeIs { s with heap := s.heap.push (bare w) } (.ref l) "tuple" := ⟨_, hol', hcl⟩
  have hl1 : (s.heap.push (bare w)).IsTuple l items := ⟨_, hol', hcl, nl, hdl⟩
  have n1 := F.sub_tuple_set
  have n2 := F.sub_tuple_frozenset
  have n3 : (Value.type "tuple" == Value.type "dict") = false := by decide
  refine codeAny_call_builtin F.called_set.init.plain F.entry_set_init (check_set_init_1 hT ?_)
  unfold Builtin.«set.__init__» noKeywords Builtin.Frozenset.updateFrom
  generalize hPI : pyIter = PI
  wp_walk
  subst hPI
  refine wpAny_pyIter_tuple hl1 (wpAny_bind (wpAny_runValue ?_))
  have sz : (s.heap.push (bare w)).objs.size = s.heap.objs.size + 1 := Heap.size_push ..
  have he : ∀ (i : Nat) (v : Value), items[i]? = some v → ∃ k u, xs[i]? = some k ∧ v = .str k u := fun i v hv => by
    have hv' : items.toList[i]? = some v := by rw [Array.getElem?_toList]; exact hv
    exact tx_item hi i v hv'
  have hn : items.size = xs.length := by rw [← StrsAre.len_eq hi, Array.length_toList]
  have W := (Walks.tuple (prog := P) (w := w) (A := A.in1.in1) (by simp [hh]) (s.heap.push (bare w)).objs.size l (by rw [sz]; exact Nat.ne_of_lt (Nat.lt_succ_of_lt hlS)) items).toS
  rw [hn] at W
  have out : s.heap.objs.size ∉ [(s.heap.push (bare w)).objs.size, l] := by
    rw [sz]
    simp only [List.mem_cons, List.not_mem_nil, or_false, not_or]
    exact ⟨Nat.ne_of_lt (Nat.lt_succ_self _), Nat.ne_of_gt hlS⟩
  refine tx_loop (A := A.in1) W out hb he xs.length 0 _ (by omega) ⟨⟨_, Heap.get?_push_size _ rfl, rfl, rfl⟩, hl1.push _⟩ (bare_tx (Heap.get?_push_of_some _ hS)) fun s' mv y => ?_
  refine wpAny_pure (wpAny_pure ⟨rfl, s'.heap, s'.toks, ?_, y, fun b o hlt e => ?_⟩)
  · obtain ⟨h', g', d', tk', os'⟩ := s'
    obtain rfl : g' = s.gens := mv.gens
    obtain rfl : d' = s.drawn := mv.drawn
    obtain rfl : os' = s.os := mv.os
    rfl
  · refine mv.heap b o (fun z => ?_) (Heap.get?_push_of_some _ (Heap.get?_push_of_some _ e))
    simp only [List.mem_cons, List.not_mem_nil, or_false] at z
    rcases z with z | z
    · exact absurd z (Nat.ne_of_lt hlt)
    · exact absurd (z.trans sz) (Nat.ne_of_lt (Nat.lt_succ_of_lt hlt))
/-- set(t), t a tuple of texts -/
theorem call_tx {l : Addr} {items : Array Value} {xs : List Str} {Q : Value → Shared → Prop} (hh : A.handled = none) (hl : s.heap.IsTuple l items) (hi : StrsAre items.toList xs) (hb : xs.length + 1 < scanBound)
    (h : ∀ s', Done P w s xs s' → Q (.ref s.heap.objs.size) s') : wpAny (model P w) A (call (.type "set") [.ref l]) Q E s := by
  obtain ⟨c, tl, hmro⟩ := F.called_set.mro
  have i1 := F.called_set.made
  have i2 := F.called_set.sub
  have i3 := F.called_set.notType
  have i4 := F.called_set.canCreate
  have i5 := F.typeCall_set_1 (.ref l)
  refine wpAny_call (codeAny_of_tree ?_)
  show wpAny _ _ (callAny (.type "set") _) _ _ _
  refine wpAny_pure ⟨Code.quiet_builtin _ (by decide +kernel), codeAny_builtin F.entry_type_call ?_⟩
  rw [Around.under_plain (weight_type_call_type "set" [.ref l] []) rfl]
  repeat (any_goals (first | assumption | wp_step))
  refine codeAny_mono (code_set_led1 (.ref l) (E := E) (Q₁ := fun v s1 => v = .ref s.heap.objs.size ∧ s1 = { s with heap := s.heap.push (bare w) }) ⟨rfl, rfl⟩) fun r s1 hr => ?_
  match r, hr with
  | .error e, hr => exact hr
  | .ok (.ret v), ⟨e1, e2⟩ =>
    subst e1
    subst e2
    have hT : Shared.TypeIs { s with heap := s.heap.push (bare w) } (.ref s.heap.objs.size) "set" := ⟨_, Heap.get?_push_size _ rfl, rfl⟩
    have j1 := F.called_set.init.lookup
    have j2 := F.called_set.init.bind (.ref s.heap.objs.size)
    repeat (any_goals (first | assumption | wp_step))
    refine codeAny_mono (tx_init (E := E) hh hl hi hb) fun r2 s2 hr2 => ?_
    match r2, hr2 with
    | .error e, hr2 => exact hr2
    | .ok (.ret v), ⟨e3, dn⟩ =>
      subst e3
      repeat (any_goals (first | assumption | wp_step))
      exact h s2 dn
end
/-! ### in the user's terms -/
/-- the set of texts at a -/
def TxO (P : Program) (w : World) (a : Addr) (l : List Str) : HO := .ext fun h => TxAt P w a l h
section
variable {X : Cx}
theorem txO_get {pins : List (Addr × Obj)} {σ : L2.St} {H : Hp} {s : Shared} {a : Addr} {l : List Str} (I : Inv X pins σ H s) (ha : H a = some (TxO X.prog X.w a l)) : TxAt X.prog X.w a l s.heap := (I.hok a _ ha).1
theorem txO_new {P : Program} {w : World} {H : Hp} {h : Heap} {a : Addr} {l : List Str} (R : TxAt P w a l h) : ObjOk P w H h a (TxO P w a l) := by
  obtain ⟨D, e, _⟩ := id R
  exact ⟨R, ⟨_, e⟩, fun h1 h2 p k => p.keep k⟩
/-- set(t) of a tuple of texts -/
def rTxSet (K : PySem.W.Frag) (P : Program) (w : World) : List V → Hp → VK → Prop := fun vs H Q => ∃ (a : Addr) (xs : List Str), vs = [V.ref a] ∧ SqT K H a (xs.map V.str) ∧ xs.length ≤ 1000 ∧
  ∀ p, H p = none → Q (.ref p) (upd H p (TxO P w p (onceTx [] xs)))
theorem cr_txSet (hc : X.calm = true) : CallR X (.type "set") (rTxSet X.K X.prog X.w) := by
  intro pins s σ H vs us Q I r h
  obtain ⟨a, xs, rfl, hs, hl, q⟩ := h
  obtain ⟨its, rv, pt, hz⟩ := I.tuple hs
  rw [Vals.ref1 r]
  refine call_tx (items := its.toArray) (xs := xs) (I.ok.hd hc) (show s.heap.IsTuple a its.toArray from pt) (strsAre_of rv) (by unfold scanBound; omega) fun s' dn => ?_
  obtain ⟨h', tk, rfl, tx, keep⟩ := dn
  exact ⟨.ref _, upd H s.heap.objs.size (TxO X.prog X.w s.heap.objs.size (onceTx [] xs)), I.laid (t' := tk) (fun b u e => keep b u (Heap.lt_size e) e) (Nat.le_refl _) (txO_new tx), rfl, q _ (I.hok.fresh (Nat.le_refl _))⟩
end
/-! ### sorted -/
theorem perm_of_nodup {α : Type} [DecidableEq α] : ∀ (l zs : List α), l.Nodup → (∀ x ∈ l, x ∈ zs) → zs.length ≤ l.length → zs.Perm l
  | [], zs, _, _, h => by
    have e : zs = [] := List.eq_nil_of_length_eq_zero (Nat.le_zero.mp h)
    rw [e]
  | x :: l, zs, nd, hm, h => by
    obtain ⟨hx, nd'⟩ := List.nodup_cons.mp nd
    have mx : x ∈ zs := hm x List.mem_cons_self
    have pe := List.perm_cons_erase mx
    have le : (zs.erase x).length ≤ l.length := by
      have a := pe.length_eq
      rw [List.length_cons] at a h
      omega
    refine pe.trans (List.Perm.cons x (perm_of_nodup l (zs.erase x) nd' (fun y hy => ?_) le))
    have ne : y ≠ x := fun z => hx (by rw [← z]; exact hy)
    exact (List.mem_erase_of_ne ne).mpr (hm y (List.mem_cons_of_mem x hy))
/-- the text that a value is -/
def txOf : Value → Str
  | .str x _ => x
  | _ => Str.empty
theorem strs_txOf : ∀ us : List Value, (∀ u ∈ us, ∃ x t, u = Value.str x t) → StrsAre us (us.map txOf)
  | [], _ => .nil
  | u :: us, h => by
    obtain ⟨x, t, rfl⟩ := h u List.mem_cons_self
    exact .cons x t (strs_txOf us fun v hv => h v (List.mem_cons_of_mem _ hv))
theorem tx_rows {P : Program} {w : World} {es : Array (Int × Value)} {ep : Nat} {t : SetTable} {l : List Str} {us : List Value} (F : TxOk P w (es, ep, t) l) (nd : l.Nodup) (pm : us.Perm (es.toList.map (·.2))) :
    StrsAre us (us.map txOf) ∧ (us.map txOf).Perm l := by
  have all : ∀ u ∈ us, ∃ x t, u = Value.str x t := fun u hu => by
    obtain ⟨e, he, rfl⟩ := List.mem_map.mp (pm.mem_iff.mp hu)
    obtain ⟨⟨k, hk, _⟩, _⟩ := F.el e he
    obtain ⟨t, ev⟩ := Value.isStrOf_shape (x := k) (v := e.2) hk
    exact ⟨k, t, ev⟩
  refine ⟨strs_txOf us all, perm_of_nodup l _ nd (fun x hx => ?_) ?_⟩
  · obtain ⟨e, he, q⟩ := (F.mem x).mp hx
    obtain ⟨t, ev⟩ := Value.isStrOf_shape (x := x) (v := e.2) q
    refine List.mem_map.mpr ⟨e.2, pm.mem_iff.mpr (List.mem_map.mpr ⟨e, he, rfl⟩), ?_⟩
    rw [ev] <;> rfl
  · have z : es.size = l.length := F.sz
    rw [List.length_map, pm.length_eq, List.length_map, Array.length_toList]
    omega
section
variable {X : Cx}
/-- sorted(s) of a set of fewer than 64 texts -/
def rTxSorted (P : Program) (w : World) : List V → Hp → VK → Prop := fun vs H Q => ∃ (a : Addr) (l : List Str), vs = [V.ref a] ∧ H a = some (TxO P w a l) ∧ l.length < 64 ∧
  ∀ ys p, ys.Perm l → sortedS ys = true → H p = none → Q (.ref p) (upd H p (.lst (ys.map V.str)))
theorem cr_txSorted (hc : X.calm = true) : CallR X (.builtin "sorted") (rTxSorted X.prog X.w) := by
  intro pins s σ H vs us Q I r h
  obtain ⟨a, l, rfl, ha, h64, q⟩ := h
  obtain ⟨⟨es, ep, t⟩, ho, F, nd, wk⟩ := txO_get I ha
  have hsz : es.size = l.length := F.sz
  rw [Vals.ref1 r]
  refine Calls.call_function_entry PyProof.Rows.kind_sorted PyProof.Rows.plain_sorted PyProof.Rows.entry_sorted (PyProof.Rows.args_sorted1 _) ?_
  unfold Builtin.«sorted»
  refine wpAny_bind (m := checkCount "sorted" 1 1 _) (wpAny_pure (wpAny_bind (collect_set (A := X.A.in1) (I.ok.hd hc) ⟨_, ho, rfl, rfl⟩ F.fit (by rw [hsz]; unfold scanBound; omega) wk.ris wk.led fun s1 vs k1 hz g1 o1 pm => ?_)))
  obtain ⟨hS, pl⟩ := tx_rows F nd pm
  have hvl : vs.length = l.length := by
    have e := pl.length_eq
    rw [List.length_map] at e
    exact e
  refine wpAny_bind (wpAny_newList ?_ (by rw [hvl, sizeLine_eq]; omega))
  have hoL : (s1.heap.push (seqObj "list" vs.toArray 0)).get? s1.heap.objs.size = some (seqObj "list" vs.toArray 0) := Heap.get?_push_size _ rfl
  refine wpAny_bind (wpAny_holding (wpAny_call_entry PyProof.Rows.slot_list_sort ⟨_, hoL, rfl⟩ PyProof.Rows.entry_list_sort
    (list_sort_treeK strKind_oneLt hoL hS.keysOf (fun v1 v2 rest e => keyKind_strs (by rw [← e]; exact hS)) (by rw [hvl]; exact h64) fun st' hp hs => ⟨_, rfl, ?_⟩) (PyProof.Rows.args_list_sort _)))
  obtain ⟨ys, y1, y2, y3⟩ := sorted_out_str hS hp hs
  obtain ⟨e', he'⟩ := PyProof.Rows.sortedHeap_at (vs := vs) (out := (arrOf st').map (·.2)) hoL
  have yl : ys.Perm l := y2.trans pl
  have len : (ys.map V.str).length ≤ sizeLine := by
    rw [List.length_map, yl.length_eq, sizeLine_eq]
    omega
  have old : ∀ b u, s.heap.get? b = some u → (sortedHeap (s1.heap.push (seqObj "list" vs.toArray 0)) s1.heap.objs.size vs ((arrOf st').map (·.2))).get? b = some u := fun b u e => by
    have lt := Heap.lt_size (k1 b u e)
    rw [PyProof.Rows.sortedHeap_old (Nat.ne_of_lt lt) (by rw [size_push']; exact Nat.lt_succ_of_lt lt)]
    exact Heap.get?_push_of_some _ (k1 b u e)
  have J : Inv X pins σ (upd H s1.heap.objs.size (.lst (ys.map V.str))) { s with heap := sortedHeap (s1.heap.push (seqObj "list" vs.toArray 0)) s1.heap.objs.size vs ((arrOf st').map (·.2)), gens := s1.gens, drawn := s1.drawn, toks := s1.toks } :=
    I.call (ch := []) (Un.laid old hz (I.hok.fresh hz)) (I.hok.laid old hz ⟨len, ((arrOf st').map (·.2)).toList, e', vals_of_strs y1, by rw [Array.toArray_toList]; exact he'⟩) (by rw [g1]; exact I.bare) (fun _ z => nomatch z)
  refine wpAny_pure ⟨_, rfl, .ref s1.heap.objs.size, _, ?_, rfl, q ys _ yl y3 (I.hok.fresh hz)⟩
  obtain ⟨h1, gg1, d1, t1, os1⟩ := s1
  obtain ⟨h0, g0, d0, t0, os0⟩ := s
  cases o1
  exact J
end
end Spk

set_option Elab.async false
set_option linter.all false
set_option maxRecDepth 100000
set_option maxHeartbeats 1000000
namespace Spk
open PySem PySem.Spec PyProof.Rows PySem.W L2
/-! ## a lone star beside keywords -/
section
variable {M : Model} {A : Around} {E : Value → Shared → Prop} {s : Shared}
theorem lone_kw {f : Value} {x : Sem Value} {pos : Pos} {keywords : List (Option Str × Sem Value)} {Q : Args → Shared → Prop} (hall : keywords.all (·.1.isSome) = true)
    (h : wpAny M A x (fun v s1 => wpAny M A (evalAll (keywords.map (·.2))) (fun ks s2 => StarOf M A E v (fun vs s3 => Q ⟨vs, (keywords.filterMap (·.1)).zip ks⟩ s3) s2) E s1) E s) :
    wpAny M A (evalArgs f true [(true, (do let v ← x; standAt pos; pure v))] keywords) Q E s := by
  unfold evalArgs
  refine wpAny_bind (wpAny_bind (wpAny_mono h (fun v s1 h1 => wpAny_bind (wpAny_standAt (wpAny_pure ?_))) fun _ _ z => z))
  refine wpAny_bind (wpAny_pure ?_)
  dsimp only
  refine wpAny_holding ?_
  simp only [hall, if_true]
  refine wpAny_bind (wpAny_mono h1 (fun ks s2 h2 => ?_) fun _ _ z => z)
  unfold StarOf at h2
  refine wpAny_bind (wpAny_bind (wpAny_mono h2 (fun b s3 h3 => ?_) fun _ _ z => z))
  obtain ⟨rfl, h3⟩ := h3
  simp only [Bool.false_eq_true, if_false]
  exact wpAny_holding (wpAny_mono h3 (fun vs s4 h4 => wpAny_pure h4) fun _ _ z => z)
theorem star_kw_call {K : Frag} {f : Value} {first : List Value} {env : Env} {pos p : Pos} {e : Expr} {kws : List Keyword} {Q : Value → Shared → Prop} (hk : keepIn K f = true) (hall : (backToKw pos (keywordEach kws env)).all (·.1.isSome) = true)
    (h : wpAny M A (eval e env) (fun v s1 => wpAny M A (evalAll ((backToKw pos (keywordEach kws env)).map (·.2))) (fun ks s2 => StarOf M A E v (fun vs s3 => K.In s3.heap ∧ wpAny M A (call f (first ++ vs) (((backToKw pos (keywordEach kws env)).filterMap (·.1)).zip ks)) Q E s3) s2) E s1) E s)
    (he : starEach [.Starred e p] env = [(true, eval e env)]) : wpAny M A (callWith pos f first (backTo pos (starEach [.Starred e p] env)) (backToKw pos (keywordEach kws env))) Q E s := by
  rw [he]
  have z := lone_kw (f := f) (x := eval e env) (pos := pos) (keywords := backToKw pos (keywordEach kws env)) (Q := fun a s3 => K.In s3.heap ∧ wpAny M A (call f (first ++ a.pos) a.kw) Q E s3) hall h
  unfold callWith
  refine wpAny_bind (wpAny_holding (wpAny_mono z (fun a s1 h1 => wpAny_bind (wpAny_standAt ?_)) fun _ _ y => y))
  obtain ⟨k, hk', L⟩ := keeps_K (M := M) hk _ h1.1
  have hst : (backTo pos [(true, eval e env)]).any (·.1) = true := rfl
  simp only [hst, Bool.true_or]
  refine wpAny_bind (L.here ?_)
  have tail : ∀ {t : Sem Value}, wpAny M A t Q E s1 → wpAny M A (t >>= fun r => holding [r] point >>= fun _ => pure r) Q E s1 := by
    intro t ht
    exact wpAny_bind (wpAny_mono ht (fun r s2 hr => wpAny_bind (wpAny_holding (wpAny_point (wpAny_pure hr)))) fun _ _ y => y)
  have marked : ∀ mk : Value, wpAny M A (callMarked mk f (first ++ a.pos) a.kw) Q E s1 := by
    intro mk
    unfold callMarked
    exact Calls.wpAny_keep h1.2
  rcases hk' with rfl | rfl | rfl
  · exact tail (marked _)
  · exact tail (wpAny_operating h1.2)
  · exact tail (wpAny_operating h1.2)
end
/-! ## defs that are called with keywords alone beside a star -/
/-- the promise of a def that is called with these keywords: of the positional values and of those of the keywords -/
def FnK (P : Program) (w : World) (K : Frag) (mg : Str → Option Value) (base : Heap) (CX : CXT) (k : Nat) (f : Addr) (ks : List Str) (sp : List V → List V → Hp → VK → XK → Prop) : Prop :=
  ∀ (A : Around) (outer : List Env) (s : Shared) (H : Hp) (us ws : List Value) (vs zs : List V) (Q : VK) (E : XK), Room k A → Env0 P w K mg base A outer s H → Vals vs us → Vals zs ws → zs.length = ks.length → sp vs zs H Q E →
    codeAny (model P w) A (.call (.ref f) ⟨us, ks.zip ws⟩) (CR CX outer P w H s Q E) s
section
variable {CX : CXT} {P : Program} {w : World} {K : Frag} {mg : Str → Option Value} {base : Heap} {k : Nat} {f : Addr} {name qual : Str} {params : Arguments} {body : List Stmt} {scope : Scope} {dV kV doc pm cdv ct oc : Value} {an od : Option Addr}
  {osl : Array (Option Value)} {N ps ks : List Str} {sp : Sp}
/-- def f(a, .., *v, x, y, ..), called f(a, .., *rest, x = .., y = .., ..): what is left over is a new tuple -/
theorem fn_starK {pv : Str} (lk : K.lookup f = some ⟨oc, od, .func (fnOf name qual params body scope dV kV doc pm an cdv ct), osl⟩) (hcd : codeIn K cdv qual = true) (S : FnScope N (ps ++ ks ++ [pv]) scope) (hCX : StX.CXUp CX)
    (hb : ∀ us rest ws : List Value, us.length = ps.length → ws.length = ks.length → bindArgs (fnOf name qual params body scope dV kV doc pm an cdv ct) ⟨us ++ rest, ks.zip ws⟩ = (newTuple rest >>= fun t => pure ((ps ++ ks).zip (us ++ ws) ++ [(pv, t)])))
    (hbody : ∀ (A : Around) (outer : List Env) (s : Shared) (H : Hp) (vs : List V) (Q : VK) (E : XK), Room k (A.deeper (envOfC qual scope s.heap.objs.size f cdv)) → sp vs H Q E →
      ∃ t, PSs (cxOf CX P w K mg base N qual scope f cdv A outer s H E) body t ∧ t { nx := fun _ H1 => Q .non H1, rt := Q } (L2.start N vs) H) :
    FnK P w K mg base CX (k + 1) f ks (fun vs zs H Q E => ∃ ws rest, vs = ws ++ rest ∧ ws.length = ps.length ∧ rest.length ≤ sizeLine ∧ ∀ p o, H p = Option.none → o.cls = .type "tuple" → o.dict = Option.none → sp (ws ++ zs ++ [V.ref p]) (upd H p (.frz o (.tup rest))) Q E) := by
  intro A outer s H us wz vs zs Q E hr e0 r rz lz hsp
  obtain ⟨ws, rest, ev, hl, hz, hq⟩ := hsp
  subst ev
  obtain ⟨u1, u2, eu, r1, r2⟩ := StX.vals_split r
  subst eu
  have fresh : H s.heap.objs.size = Option.none := e0.hok.fresh (Nat.le_refl _)
  have l1 : u1.length = ps.length := by
    rw [← r1.length]
    exact hl
  have l2 : u2.length ≤ sizeLine := by
    rw [← r2.length]
    exact hz
  have l3 : wz.length = ks.length := by
    rw [← rz.length]
    exact lz
  refine StX.run_bnd lk hcd S hr e0 (G := fun xs H2 => ∃ p o, H p = Option.none ∧ o.cls = .type "tuple" ∧ o.dict = Option.none ∧ xs = ws ++ zs ++ [V.ref p] ∧ H2 = upd H p (.frz o (.tup rest))) ?_ ?_
  · intro A2 Ex Q2 h
    rw [hb u1 u2 wz l1 l3]
    refine wpAny_bind (wpAny_newTuple (wpAny_pure ?_) l2)
    have new : ObjOk P w (upd H s.heap.objs.size (.frz ({ cls := .type "tuple", data := .seq u2.toArray } : Obj) (.tup rest))) (s.heap.push ({ cls := .type "tuple", data := .seq u2.toArray } : Obj)) s.heap.objs.size (.frz ({ cls := .type "tuple", data := .seq u2.toArray } : Obj) (.tup rest)) := ⟨Heap.get?_push_size _ rfl, hz, u2, r2, ⟨_, Heap.get?_push_size _ rfl, rfl, _, rfl⟩⟩
    have un := StX.un_laid (fs := frs outer) (s := s) (o := ({ cls := .type "tuple", data := .seq u2.toArray } : Obj)) (u := .frz ({ cls := .type "tuple", data := .seq u2.toArray } : Obj) (.tup rest)) fresh
    have z := h _ _ (ws ++ zs ++ [V.ref s.heap.objs.size]) (u1 ++ wz ++ [Value.ref s.heap.objs.size]) (StX.env0_laid e0 new) un rfl (fun e s2 => hCX outer s H _ _ E e s2 un (fun b o q => Heap.get?_push_of_some _ q) rfl) ((r1.append rz).append (.cons rfl .nil))
      (by simp [hl, lz]) ⟨_, _, fresh, rfl, rfl, rfl, rfl⟩
    rw [List.zip_append (by simp [l1, l3])] at z
    exact z
  · intro s2 H2 xs g hr2
    obtain ⟨p, o, hp, oc, od, ex, eH⟩ := g
    subst ex eH
    exact hbody A outer s2 _ _ Q E hr2 (hq p o hp oc od)
end
/-- C(*e, x = .., ..): a new instance and its dict, then __init__ -/
def tMakeSK (K : Frag) (C : Addr) (m : Nat) (sp : List V → List V → Hp → VK → XK → Prop) (E : XK) (te : TE) (tk : TA) : TE := fun σ H Q => te σ H fun y H1 => ∃ a xs, y = V.ref a ∧ tk σ H1 fun zs H2 => (SqT K H2 a xs ∨ SqL K H2 a xs) ∧ zs.length = m ∧
  ∀ x dx, H2 x = Option.none → H2 dx = Option.none → dx ≠ x → sp (V.ref x :: xs) zs (upd (upd H2 dx (.own x)) x (.ins C dx [])) (fun v H3 => v = .non ∧ Q (.ref x) H3) E
section
variable {X : Cx} {CX : CXT} {k : Nat} {f C : Addr} {ks : List Str} {sp : List V → List V → Hp → VK → XK → Prop} {E : XK} {x : Str} {p sp_ pos : Pos} {e : Expr} {kws : List Keyword} {te : TE} {tk : TA}
theorem pe_makeSK (M : Mk X.K C f) (F : FnK X.prog X.w X.K X.mg X.base CX k f ks sp) (hr : Room (k + 1) X.A) (hg : Gl X x) (hm : X.mg x = some (.ref C)) (hx : Passes CX X E) (he : PE X e te) (hkw : PK X kws tk)
    (hall : (backToKw pos (keywordEach kws X.env)).all (·.1.isSome) = true := by rfl) (hks : (backToKw pos (keywordEach kws X.env)).filterMap (·.1) = ks := by rfl) (hdb : (x == ("__debug__" : Str)) = false := by decide)
    (hst : starEach [.Starred e sp_] X.env = [(true, eval e X.env)] := by rfl) : PE X (.Call (.Name x p) [.Starred e sp_] kws pos) (tMakeSK X.K C ks.length sp E te tk) := by
  constructor
  intro pins s σ H Q I h
  refine wpAny_Call_Name_kw (ld_glob I hg hm ?_ hdb)
  refine star_kw_call M.kp hall (thn (he.run pins s σ H _ I h) ?_) hst
  intro v s1 z1
  obtain ⟨y, H1, I1, ry, a, xs, ey, q1⟩ := z1
  subst ey
  obtain rfl : v = Value.ref a := ry
  refine thn (hkw.run pos pins s1 σ H1 _ I1 q1) ?_
  intro ws s2 z2
  obtain ⟨zs, H2, I2, rz, sq, l2, q2⟩ := z2
  refine StX.star_any I2 sq ?_
  intro us s3 I3 rv
  refine ⟨I3.kIn, ?_⟩
  rw [hks]
  have hq := q2 (s3.heap.objs.size + 1) s3.heap.objs.size (I3.hok.fresh (Nat.le_succ _)) (I3.hok.fresh (Nat.le_refl _)) (Nat.ne_of_lt (Nat.lt_succ_self _))
  have J := Inv.made (C := C) I3
  have rv' : Vals (V.ref (s3.heap.objs.size + 1) :: xs) (Value.ref (s3.heap.objs.size + 1) :: us) := .cons rfl rv
  refine wpAny_call (make_map (f := f) I3.kIn M.makes M.init (beq_iff_eq.mp M.fn) (codeAny_mono (F _ X.stack _ _ (Value.ref (s3.heap.objs.size + 1) :: us) ws _ _ _ E (hr.make C us (ks.zip ws)) (J.env0.make C us (ks.zip ws)) rv' rz l2 hq) ?_))
  intro r s4 hr4
  match r, hr4 with
  | .error er, hr4 => exact hx pins σ _ _ er s4 J hr4
  | .ok .next, hr4 => exact hr4.elim
  | .ok .brk, hr4 => exact hr4.elim
  | .ok .cont, hr4 => exact hr4.elim
  | .ok (.ret u), hr4 =>
    obtain ⟨v, H3, J3, rv3, ev, q3⟩ := J.after hr4
    subst ev
    exact ⟨rv3, ⟨V.ref (s3.heap.objs.size + 1), H3, J3, rfl, q3⟩⟩
end
end Spk

set_option Elab.async false
set_option linter.all false
set_option maxRecDepth 100000
set_option maxHeartbeats 1000000
namespace Spk
open PySem PySem.Spec PyProof.Rows PySem.W L2 ClX
/-! ## C.m(e, .., k = v, ..), m a classmethod -/
def tCMethK (C : Addr) (n m : Nat) (sp : Sp) (gV : List V → List V → List V) (E : XK) (ta : TE) (t tk : TA) : TE := fun σ H Q => ta σ H fun x H1 => x = .ref C ∧ t σ H1 fun vs H2 => tk σ H2 fun zs H3 => vs.length = n ∧ zs.length = m ∧ sp (gV (.ref C :: vs) zs) H3 Q E
section
variable {X : Cx} {CX : CXT} {k n : Nat} {C p g : Addr} {fd : FuncData} {mc : Value} {sp : Sp} {E : XK} {m : Str} {ps ks : List Str} {gg : List Value → List Value → List Value} {gV : List V → List V → List V} {pos apos : Pos} {e o : Expr} {es : List Expr} {kws : List Keyword} {ta : TE} {t tk : TA}
theorem pe_cmethK {pl : Sem Bool} (he : PE X o ta) (r : CRead X.K C mc) (c : CMet X.K C mc m p g) (F : FnOk X.prog X.w X.K X.mg X.base CX k g fd ps sp) (hb : KBn X.K fd ps (n + 1) ks gg gV) (hr : Room k X.A) (hx : Passes CX X E) (ha : PA X (e :: es) t) (hk : PK X kws tk)
    (hall : (backToKw pos (keywordEach kws X.env)).all (·.1.isSome) = true := by rfl) (hks : (backToKw pos (keywordEach kws X.env)).filterMap (·.1) = ks := by rfl)
    (hse : starEach (e :: es) X.env = (false, eval e X.env) :: starEach es X.env := by rfl)
    (hpl : (((backTo pos (starEach (e :: es) X.env)).any fun x => x.1) || (backToKw pos (keywordEach kws X.env)).any fun x => x.1.isNone) = false := by rfl)
    (ht : eval (.Call (.Attribute o m apos) (e :: es) kws pos) X.env = (do
      let ov ← eval o X.env
      standAt apos.atName
      let (f, first) ← holding [ov] (getMethod ov m pl)
      callWith pos f first (backTo pos (starEach (e :: es) X.env)) (backToKw pos (keywordEach kws X.env))) := by rfl) :
    PE X (.Call (.Attribute o m apos) (e :: es) kws pos) (tCMethK C n ks.length sp gV E ta t tk) := by
  refine ⟨fun pins s σ H Q I h => ?_⟩
  refine PySem.W.methodCall_KW (pl := pl) (thn (he.run pins s σ H _ I h) fun u s1 ⟨x, H1, I1, rx, ex, z⟩ => ?_) ht
  subst ex
  obtain rfl : u = Value.ref C := rx
  refine getmethcm_ok I1 r c fun s2 I2 => ?_
  refine callwith_met (a := C) (g := g) hpl c.fi (evalArgs_kw2 hall (thn (ha.run pos _ s2 σ _ _ I2 z) fun us s3 ⟨vs, H2, I3, rv, z2⟩ => ?_) hse)
  refine thn (hk.run pos _ s3 σ H2 _ I3 z2) fun ws s4 ⟨zs, H3, I4, rz, l1, l2, q⟩ => ?_
  refine ⟨⟨pin_at I4, I4.kIn⟩, ?_⟩
  rw [hks]
  have w1 : us.length = n := by rw [← rv.length]; exact l1
  have w2 : ws.length = ks.length := by rw [← rz.length]; exact l2
  have rv' : Vals (V.ref C :: vs) (Value.ref C :: us) := .cons rfl rv
  refine wpAny_call (PySem.W.method_call (pin_at I4) (codeAny_mono (F.run X.A X.stack s4 H3 ⟨Value.ref C :: us, ks.zip ws⟩ (gg (Value.ref C :: us) ws) _ _ E hr I4.env0 (hb.to s4 (Value.ref C :: us) ws I4.kIn (by rw [List.length_cons, w1]) w2) (hb.rel rv' rz) q) ?_))
  intro r5 s5 hr5
  match r5, hr5 with
  | .error er, hr5 => exact hx _ σ _ _ er s5 I4 hr5
  | .ok .next, hr5 => exact hr5.elim
  | .ok .brk, hr5 => exact hr5.elim
  | .ok .cont, hr5 => exact hr5.elim
  | .ok (.ret u5), hr5 => exact ClX.unpinE (I4.after hr5)
theorem i_cmk {C : Addr} {n m : Nat} {sp : Sp} {gV : List V → List V → List V} {E : XK} {ta : TE} {t tk : TA} {σ : L2.St} {H : Hp} {Q : VK} (h : ta σ H fun x H1 => x = .ref C ∧ t σ H1 fun vs H2 => tk σ H2 fun zs H3 => vs.length = n ∧ zs.length = m ∧ sp (gV (.ref C :: vs) zs) H3 Q E) : tCMethK C n m sp gV E ta t tk σ H Q := h
end
/-! ## a statement that is never reached -/
def tDead : TS := fun _ _ _ => False
theorem ps_dead {X : Cx} {st : Stmt} : PS X st tDead := ⟨fun _ _ _ _ _ _ h => h.elim⟩
end Spk

set_option Elab.async false
set_option linter.all false
set_option maxRecDepth 100000
set_option maxHeartbeats 1000000
namespace Spk
open PySem PySem.Spec PyProof.Rows PySem.W L2 HT
open PySem.Froz (SD sObj TxOk)
/-! ## len(s), s a set of texts -/
def rTxLen (P : Program) (w : World) : List V → Hp → VK → Prop := fun vs H Q => ∃ (a : Addr) (l : List Str), vs = [V.ref a] ∧ H a = some (TxO P w a l) ∧ l.length ≤ 100000 ∧ Q (.int l.length) H
theorem cr_txLen {X : Cx} : CallR X (.builtin "len") (rTxLen X.prog X.w) := by
  intro pins s σ H vs us Q I r h
  obtain ⟨a, l, rfl, ha, hl, q⟩ := h
  rw [Vals.ref1 r]
  obtain ⟨⟨es, ep, t⟩, e, F, nd, wk⟩ := txO_get I ha
  refine call_len_set (o := sObj "set" (es, ep, t)) (es := es) (ep := ep) (t := t) e ?_ rfl F.fit ?_ ?_
  · exact ⟨rfl, rfl, rfl⟩
  · have := F.sz
    simp only at this
    omega
  · have z := F.sz
    simp only at z
    rw [z]
    exact ⟨.int l.length, H, I.kept (t' := s.toks + 1 + 1) fun b u x => x, ⟨_, rfl⟩, q⟩
/-- none twice: the set has as many -/
theorem onceTx_nodup : ∀ (xs l : List Str), (l.reverse ++ xs).Nodup → (onceTx l xs).length = l.length + xs.length
  | [], l, _ => by simp [onceTx]
  | x :: xs, l, h => by
    have hx : x ∉ l := fun hm => by
      rw [List.nodup_append] at h
      exact h.2.2 x (List.mem_reverse.mpr hm) x List.mem_cons_self rfl
    have e : onceTx l (x :: xs) = onceTx (x :: l) xs := by
      show List.foldl withTx (withTx l x) xs = _
      unfold withTx
      rw [if_neg hx]
      rfl
    rw [e, onceTx_nodup xs (x :: l) (by simpa using h)]
    simp only [List.length_cons]
    omega
end Spk

set_option Elab.async false
set_option linter.all false
set_option maxRecDepth 100000
set_option maxHeartbeats 2000000
namespace Spk
open PySem PySem.Spec PyProof.Rows L2
/-! ## for x, y in zip(l, t), l a list and t a tuple -/
def ItzM (K : PySem.W.Frag) (a b : Addr) : It where
  go := fun i H => ∃ (xs ys : List V) (x y : V), SqL K H a xs ∧ SqT K H b ys ∧ xs[i]? = some x ∧ ys[i]? = some y
  yld := fun i H v H' => ∃ T x y, v = .ref T ∧ H T = none ∧ H' = upd H T (.tup [x, y]) ∧ (∀ xs, SqL K H a xs → xs[i]? = some x) ∧ ∀ ys, SqT K H b ys → ys[i]? = some y
  stop := fun i H => ∃ xs ys : List V, SqL K H a xs ∧ SqT K H b ys ∧ xs.length = i ∧ ys.length = i
theorem turn_zipM {P : Program} {w : World} {K : PySem.W.Frag} {elts : List Expr} {kk : Nat} {tpos : Pos} {a b z TI TO i1 i2 : Addr} (Z : ZipSep2 z TI TO i1 i2 [i1, a] [i2, b]) (n1 : a ≠ i1) (n2 : b ≠ i2) :
    Turn P w K (.Tuple elts kk tpos) (ItzM K a b) [z, TI, TO, i1, i2] z (fun i h => IsZip h z TI TO .none ∧ IsTupOf2 h TI (.ref i1) (.ref i2) ∧ (∃ x y, IsTupOf2 h TO x y) ∧ h.IsListIter i1 a i ∧ h.IsTupleIter i2 b i) where
  mem := by simp
  obj := fun i h st c hc => by
    obtain ⟨h1, h2, ⟨x, y, h3⟩, ⟨o, ho, _, hd⟩, ⟨o2, ho2, _, hd2⟩⟩ := st
    simp only [List.mem_cons, List.not_mem_nil, or_false] at hc
    rcases hc with rfl | rfl | rfl | rfl | rfl
    · exact ⟨_, h1, fun v q => nomatch q⟩
    · exact ⟨_, h2, fun v q => nomatch q⟩
    · exact ⟨_, h3, fun v q => nomatch q⟩
    · exact ⟨o, ho, fun v q => by rw [hd] at q; cases q⟩
    · exact ⟨o2, ho2, fun v q => by rw [hd2] at q; cases q⟩
  keep := fun i h h' st k => by
    obtain ⟨h1, h2, ⟨x, y, h3⟩, h4, h5⟩ := st
    exact ⟨k z (by simp) _ h1, k TI (by simp) _ h2, ⟨x, y, k TO (by simp) _ h3⟩, h4.at fun o q => k i1 (by simp) o q, h5.at fun o q => k i2 (by simp) o q⟩
  item := by
    intro X hP hw hK hc i pins s σ H E I hf st hg
    subst hP hw hK
    obtain ⟨h1, h2, ⟨x0, y0, h3⟩, h4, h5⟩ := st
    obtain ⟨xs, ys, x, y, hl, ht, hx, hy⟩ := hg
    obtain ⟨its, rv, pl, hz⟩ := I.list hl
    obtain ⟨its2, rv2, pt, hz2⟩ := I.tuple ht
    obtain ⟨u, hu, ru⟩ := rv.get hx
    obtain ⟨u2, hu2, ru2⟩ := rv2.get hy
    have D1 := Draws.list (prog := X.prog) (w := X.w) (A := X.A.in1) (I.ok.hd hc) i1 a n1 its.toArray
    have D2 := Draws.tuple (prog := X.prog) (w := X.w) (A := X.A.in1) (I.ok.hd hc) i2 b n2 its2.toArray
    have hi : i < its.toArray.size := by
      rw [List.size_toArray]
      exact (List.getElem?_eq_some_iff.mp hu).1
    have hi2 : i < its2.toArray.size := by
      rw [List.size_toArray]
      exact (List.getElem?_eq_some_iff.mp hu2).1
    have zl : z < s.heap.objs.size := Heap.lt_size h1
    have tl : TI < s.heap.objs.size := Heap.lt_size h2
    have ol : TO < s.heap.objs.size := Heap.lt_size h3
    have il : i1 < s.heap.objs.size := by
      obtain ⟨_, q, _⟩ := id h4
      exact Heap.lt_size q
    have jl : i2 < s.heap.objs.size := by
      obtain ⟨_, q, _⟩ := id h5
      exact Heap.lt_size q
    refine wpAny_pyNext_zipD2_item Z D1 D2 h1 h2 h3 ⟨h4, pl.isList⟩ ⟨h5, pt⟩ hi hi2 fun x1 x2 h' tk e1 e2 ho hto s1 s2 hT hsz hk => ?_
    have ex : x1 = u := by
      have q : its.toArray[i]? = some u := by simpa using hu
      rw [q] at e1
      exact (Option.some.inj e1).symm
    have ey : x2 = u2 := by
      have q : its2.toArray[i]? = some u2 := by simpa using hu2
      rw [q] at e2
      exact (Option.some.inj e2).symm
    subst ex ey
    refine ⟨_, rfl, wpAny_letOwnedTupleGo_zip (s := { s with heap := h', toks := tk }) ho fun h'' hz' sb => ?_⟩
    have hT2 : h''.get? s.heap.objs.size = some { cls := .type "tuple", data := .seq #[x1, x2] } := (sb.2 _ (Nat.ne_of_gt zl)).trans hT
    have new : ObjOk X.prog X.w (upd H s.heap.objs.size (.tup [x, y])) h'' s.heap.objs.size (.tup [x, y]) :=
      ⟨size_of (Nat.le_of_ble_eq_true rfl), [x1, x2], .cons ru (.cons ru2 .nil), ⟨_, hT2, rfl, _, rfl⟩⟩
    have keepB : ∀ c ob, c ∉ [z, TI, TO, i1, i2] → s.heap.get? c = some ob → h''.get? c = some ob := fun c ob hc q => by
      simp only [List.mem_cons, List.not_mem_nil, or_false, not_or] at hc
      exact (sb.2 c hc.1).trans (hk c ob hc.1 hc.2.2.1 hc.2.2.2.1 hc.2.2.2.2 q)
    have I1 := I.turnedNew (t' := tk) (ch := [z, TI, TO, i1, i2]) keepB hf (Nat.le_refl _) new
    have zi1 : i1 ≠ z := fun q => Z.zf1 (by rw [← q]; simp)
    have zi2 : i2 ≠ z := fun q => Z.zf2 (by rw [← q]; simp)
    have hTI : h'.get? TI = some { cls := .type "tuple", data := .seq #[.ref i1, .ref i2] } := hk TI _ Z.TIz Z.TITO Z.TIi1 Z.TIi2 h2
    refine ⟨.ref s.heap.objs.size, _, I1, rfl, ⟨_, x, y, rfl, I.hok.fresh (Nat.le_refl _), rfl, fun zs hy' => by rw [I.list_inj hy' hl]; exact hx, fun zs hy' => by rw [I.tuple_inj hy' ht]; exact hy⟩,
      ⟨hz', (sb.2 TI Z.TIz).trans hTI, ⟨x1, x2, (sb.2 TO Z.TOz).trans hto⟩, s1.1.at fun o q => (sb.2 i1 zi1).trans q, s2.1.at fun o q => (sb.2 i2 zi2).trans q⟩, fun c hc => ?_⟩
    have hc' : c < s.heap.objs.size := by
      simp only [List.mem_cons, List.not_mem_nil, or_false] at hc
      rcases hc with rfl | rfl | rfl | rfl | rfl <;> assumption
    rw [upd_ne (Nat.ne_of_lt hc')]
    exact (hf c hc).1
  done := by
    intro X hP hw hK hc i pins s σ H E I hf st hg
    subst hP hw hK
    obtain ⟨h1, h2, ⟨x0, y0, h3⟩, h4, h5⟩ := st
    obtain ⟨xs, ys, hl, ht, e1, e2⟩ := hg
    obtain ⟨its, rv, pl, hz⟩ := I.list hl
    obtain ⟨its2, rv2, pt, hz2⟩ := I.tuple ht
    have D1 := Draws.list (prog := X.prog) (w := X.w) (A := X.A.in1) (I.ok.hd hc) i1 a n1 its.toArray
    have D2 := Draws.tuple (prog := X.prog) (w := X.w) (A := X.A.in1) (I.ok.hd hc) i2 b n2 its2.toArray
    have z1 : its.toArray.size = i := by rw [List.size_toArray, ← rv.length]; exact e1
    have z2 : its2.toArray.size = i := by rw [List.size_toArray, ← rv2.length]; exact e2
    refine wpAny_pyNext_zipD2_end Z D1 D2 h1 h2 h3 ⟨h4, pl.isList⟩ ⟨h5, pt⟩ (Nat.le_of_eq z1.symm) (Nat.le_of_eq z2.symm) (.inl z1.symm) fun h' tk eb => ⟨rfl, ?_⟩
    exact I.turnedL (t' := tk) (ch := [z, TI, TO, i1, i2]) (fun c o hc q => by
      simp only [List.mem_cons, List.not_mem_nil, or_false, not_or] at hc
      exact eb c o hc.1 hc.2.2.1 hc.2.2.2.1 hc.2.2.2.2 q) hf
  self := fun A i s Q E st h => wpAny_pyIter_zip st.1 h
def iZipM (K : PySem.W.Frag) (ta : TA) : TI := fun σ H R => ta σ H fun vs H1 => ∃ a b xs ys, vs = [.ref a, .ref b] ∧ SqL K H1 a xs ∧ SqT K H1 b ys ∧ R (ItzM K a b) H1
theorem vals_two {v w : V} {us : List Value} (h : Vals [v, w] us) : ∃ u u2, us = [u, u2] ∧ RelV v u ∧ RelV w u2 := by
  cases h with
  | cons r t =>
    cases t with
    | cons r2 t2 =>
      cases t2
      exact ⟨_, _, rfl, r, r2⟩
theorem nm2 (x y z : Nat) (h1 : x ≠ y) (h2 : x ≠ z) : ¬ x ∈ [y, z] := by simp [h1, h2]
theorem zsep (n a b : Nat) (ha : a < n) (hb : b < n) : ZipSep2 (n + 4) (n + 2) (n + 3) n (n + 1) [n, a] [n + 1, b] where
  TIz := Nat.ne_of_lt (show n + 2 < n + 4 by omega)
  TOz := Nat.ne_of_lt (show n + 3 < n + 4 by omega)
  TITO := Nat.ne_of_lt (show n + 2 < n + 3 by omega)
  TIi1 := Nat.ne_of_gt (show n < n + 2 by omega)
  mem1 := List.mem_cons_self
  zf1 := nm2 (n + 4) n a (by omega) (by omega)
  Tf1 := nm2 (n + 3) n a (by omega) (by omega)
  TIi2 := Nat.ne_of_gt (show n + 1 < n + 2 by omega)
  mem2 := List.mem_cons_self
  zf2 := nm2 (n + 4) (n + 1) b (by omega) (by omega)
  Tf2 := nm2 (n + 3) (n + 1) b (by omega) (by omega)
  sep1_2 := nm2 n (n + 1) b (by omega) (by omega)
  sep2_1 := nm2 (n + 1) n a (by omega) (by omega)
theorem zle (n c : Nat) (h : c ∈ [n + 4, n + 2, n + 3, n, n + 1]) : n ≤ c := by
  simp only [List.mem_cons, List.not_mem_nil, or_false] at h
  omega
theorem pi_zipM {X : Cx} {e e2 : Expr} {ta : TA} {p pos tpos : Pos} {elts : List Expr} {kk : Nat} (hg : Gl X "zip") (hm : X.mg "zip" = none) (ha : PA X [e, e2] ta)
    (hs : starEach [e, e2] X.env = (false, eval e X.env) :: starEach [e2] X.env := by rfl) (hpl : ((backTo pos (starEach [e2] X.env)).any fun x => x.1) = false := by rfl) :
    PI X (.Tuple elts kk tpos) (.Call (.Name "zip" p) [e, e2] [] pos) (iZipM X.K ta) := by
  refine ⟨fun pins s σ H R I h => ?_⟩
  refine Call_ (ld_blt I hg hm boot_zip (callWith_type1 (thn (ha.run pos pins s σ H _ I h) fun us s1 ⟨vs, H1, I1, r1, q1⟩ => ?_) hs hpl))
  obtain ⟨a, b, xs, ys, ex, hl, ht, q⟩ := q1
  subst ex
  obtain ⟨u, u2, rfl, ru, ru2⟩ := vals_two r1
  cases ru
  cases ru2
  obtain ⟨its, rv, pl, hz⟩ := I1.list hl
  obtain ⟨its2, rv2, pt, hz2⟩ := I1.tuple ht
  have al : a < s1.heap.objs.size := by
    obtain ⟨o, ho, _⟩ := pl.isList
    exact Heap.lt_size ho
  have bl : b < s1.heap.objs.size := by
    obtain ⟨o, ho, _⟩ := pt
    exact Heap.lt_size ho
  refine zip_begins2 (begins_list a its.toArray) (begins_tuple b its2.toArray) pl.isList pt fun h' hz hTI hTO hi1 hi2 hsz hk => wpAny_pyIter_zip hz ?_
  have I2 : Inv X pins σ H1 { s1 with heap := h' } := I1.kept (t' := s1.toks) hk
  have ne : ∀ {c : Addr} {k : Nat}, c < s1.heap.objs.size → c ≠ s1.heap.objs.size + k := fun h => Nat.ne_of_lt (Nat.lt_of_lt_of_le h (Nat.le_add_right _ _))
  have Z := zsep _ _ _ al bl
  refine ⟨s1.heap.objs.size + 4, [s1.heap.objs.size + 4, s1.heap.objs.size + 2, s1.heap.objs.size + 3, s1.heap.objs.size, s1.heap.objs.size + 1], _, _, H1, rfl, I2, turn_zipM Z (Nat.ne_of_lt al) (ne bl),
    ⟨hz, hTI, ⟨_, _, hTO⟩, ⟨_, hi1, rfl, rfl⟩, ⟨_, hi2, rfl, rfl⟩⟩, fun c hc => ?_, q⟩
  have hle : s1.heap.objs.size ≤ c := zle _ _ hc
  exact I1.fpOk hle (I1.hok.fresh hle)
/-! ## the walks, for comprehensions (lc_it) -/
theorem walk_zipT {K : PySem.W.Frag} {a b : Addr} {xs ys : List V} {n : Nat} (h1 : xs.length = n) (h2 : ys.length = n) : Walk (RZ.ItzT K a b) n (fun H => SqT K H a xs ∧ SqT K H b ys) (YPair (fun i => xs[i]?) fun i => ys[i]?) where
  goes := fun i H hi ⟨g1, g2⟩ => ⟨xs, ys, xs[i]'(by omega), ys[i]'(by omega), g1, g2, List.getElem?_eq_getElem (by omega), List.getElem?_eq_getElem (by omega)⟩
  stops := fun H ⟨g1, g2⟩ => ⟨xs, ys, g1, g2, .inl (Nat.le_of_eq h1)⟩
  yields := fun i H x H' hi ⟨g1, g2⟩ ⟨T, u, v, e, hT, e2, q1, q2⟩ => ⟨T, u, v, e, hT, e2, q1 xs g1, q2 ys g2⟩
theorem walk_zipM {K : PySem.W.Frag} {a b : Addr} {xs ys : List V} {n : Nat} (h1 : xs.length = n) (h2 : ys.length = n) : Walk (ItzM K a b) n (fun H => SqL K H a xs ∧ SqT K H b ys) (YPair (fun i => xs[i]?) fun i => ys[i]?) where
  goes := fun i H hi ⟨g1, g2⟩ => ⟨xs, ys, xs[i]'(by omega), ys[i]'(by omega), g1, g2, List.getElem?_eq_getElem (by omega), List.getElem?_eq_getElem (by omega)⟩
  stops := fun H ⟨g1, g2⟩ => ⟨xs, ys, g1, g2, h1, h2⟩
  yields := fun i H x H' hi ⟨g1, g2⟩ ⟨T, u, v, e, hT, e2, q1, q2⟩ => ⟨T, u, v, e, hT, e2, q1 xs g1, q2 ys g2⟩
theorem i_zipM {K : PySem.W.Frag} {σ : L2.St} {H : Hp} {ta : TA} {R : It → Hp → Prop} (h : ta σ H fun vs H1 => ∃ a b xs ys, vs = [.ref a, .ref b] ∧ SqL K H1 a xs ∧ SqT K H1 b ys ∧ R (ItzM K a b) H1) : iZipM K ta σ H R := h
theorem i_zipA {K : PySem.W.Frag} {σ : L2.St} {H : Hp} {ta : TA} {R : It → Hp → Prop} (h : ta σ H fun vs H1 => ∃ a b xs ys, vs = [.ref a, .ref b] ∧ (SqL K H1 a xs ∧ SqL K H1 b ys ∧ R (Itz K a b) H1 ∨ SqT K H1 a xs ∧ SqT K H1 b ys ∧ R (RZ.ItzT K a b) H1)) : RZ.iZipA K ta σ H R := h
end Spk

set_option Elab.async false
set_option linter.all false
set_option maxRecDepth 100000
set_option maxHeartbeats 1000000
namespace Spk
open PySem PySem.Spec PyProof.Rows L2
/-! ## methods of tuples that are known whole -/
/-- the tuple at a, its object known -/
def TupF (H : Hp) (a : Addr) (xs : List V) : Prop := ∃ o : Obj, H a = some (.frz o (.tup xs)) ∧ o.cls = .type "tuple" ∧ o.dict = none
theorem TupF.seq {K : PySem.W.Frag} {H : Hp} {a : Addr} {xs : List V} (h : TupF H a xs) : SqT K H a xs := by
  obtain ⟨o, h, _⟩ := h
  exact .inl (.inr ⟨o, h⟩)
theorem TupF.up {H H' : Hp} {a : Addr} {xs : List V} (e : Same H H') (h : TupF H a xs) : TupF H' a xs := by
  obtain ⟨o, h, r⟩ := h
  exact ⟨o, e _ _ h, r⟩
def tBMF (r : V → List V → Hp → VK → Prop) (to : TE) (t : TA) : TE := fun σ H Q => to σ H fun x H1 => (∃ a xs, x = .ref a ∧ TupF H1 a xs) ∧ t σ H1 fun xs H2 => r x xs H2 Q
theorem i_bmf {r : V → List V → Hp → VK → Prop} {to : TE} {t : TA} {σ : L2.St} {H : Hp} {Q : VK} (h : to σ H fun x H1 => (∃ a xs, x = .ref a ∧ TupF H1 a xs) ∧ t σ H1 fun xs H2 => r x xs H2 Q) : tBMF r to t σ H Q := h
theorem pe_bmF {X : Cx} {o e : Expr} {es : List Expr} {to : TE} {t : TA} {name : Str} {apos cpos : Pos} {id : String} {r : V → List V → Hp → VK → Prop} (pa : PlainAttrs "tuple") (slot : Slot "tuple" name id) (hty : typeOf (Value.builtin id) = pure (Value.type "method_descriptor"))
    (hm : MtR X id r) (ho : PE X o to) (ha : PA X (e :: es) t) (hbase : attributeBase o name X.env (eval o X.env) = eval o X.env := by rfl)
    (hfew : ((((backTo cpos (starEach (e :: es) X.env)).all fun x => !x.1) && (backToKw cpos (keywordEach [] X.env)).all fun x => x.1.isSome) && decide (((e :: es).length + ([] : List Keyword).length + if ([] : List Keyword).isEmpty = true then 0 else 1) < 30)) = true := by rfl)
    (hline : (apos.endLine == cpos.line) = true := by rfl) (hs : starEach (e :: es) X.env = (false, eval e X.env) :: starEach es X.env := by rfl) (hpl : ((backTo cpos (starEach es X.env)).any fun x => x.1) = false := by rfl) :
    PE X (.Call (.Attribute o name apos) (e :: es) [] cpos) (tBMF r to t) := by
  refine ⟨fun pins s σ H Q I h => wpAny_Call_method_late hbase hfew hline rfl (thn (ho.run pins s σ H _ I h) fun v s1 ⟨x, H1, I1, r1, ⟨a, xs, ex, ob, hf, hc, hd⟩, q1⟩ => ?_)⟩
  subst ex
  obtain rfl : v = Value.ref a := r1
  have hg : s1.heap.get? a = some ob := (I1.hok a _ hf).1
  refine ⟨"tuple", id, pa, slot, hty, ⟨ob, hg, hc⟩, fun b e => by cases e; exact ⟨ob, hg, hd⟩, ?_⟩
  have hA := ha.run cpos pins s1 σ H1 _ I1 q1
  rw [hs] at hA ⊢
  refine Calls.callWith_builtin (by show (false || _) = false; rw [Bool.false_or]; exact hpl) (Calls.evalArgs_plain (thn hA fun us s2 ⟨vs, H2, I2, r2, q2⟩ => ?_))
  exact hm pins s2 σ H2 (.ref a) vs _ us Q I2 rfl r2 q2
end Spk

set_option Elab.async false
set_option linter.all false
namespace Spk
open PySem L2
/-! ## rules whose reading names the written part K by itself: for what stands within a comprehension -/
section
variable {X : Cx} {K : PySem.W.Frag} {e : Expr} {f : Str} {pos : Pos} {ta : TE}
theorem op_inK (h : X.K = K) : OpR X (compareOp .In) (rIn K false) := by subst h; exact op_in_seq
theorem op_notInK (h : X.K = K) : OpR X (compareOp .NotIn) (rIn K true) := by subst h; exact op_notIn_seq
theorem call_isiK (h : X.K = K) : CallR X (.builtin "isinstance") (rIsi K) := by subst h; exact call_isi
theorem pe_fldK (h : X.K = K) (he : PE X e ta) (hb : attributeBase e f X.env (eval e X.env) = eval e X.env) : PE X (.Attribute e f pos) (tFld K ta f) := by subst h; exact pe_fld he hb
theorem ix_tupK (h : X.K = K) : IxR X (rIxT K) := by subst h; exact ix_tup
theorem ix_listK (h : X.K = K) : IxR X (rIxL K) := by subst h; exact ix_list
theorem mt_tup_indexK (h : X.K = K) : MtR X "tuple.index" (fun x xs H Q => ∃ p, ∃ ys : List Str, ∃ z j, x = .ref p ∧ xs = [.str z] ∧ SqT K H p (ys.map V.str) ∧ ys[j]? = some z ∧ (∀ m, m < j → ys[m]? ≠ some z) ∧ Q (.int (j : Nat)) H) := by subst h; exact mt_tup_index
theorem mt_indexDK (h : X.K = K) (hu : X.A.units + 65 < cLine) : MtR X "list.index" (rIndexD K) := by subst h; exact mt_indexD hu
theorem op_catAK (h : X.K = K) : OpR X (binaryOp .Add) (rCatA K) := by subst h; exact op_catA
theorem sl_tupK (h : X.K = K) : SlR X (rSlT K) := by subst h; exact sl_tup
theorem call_len_seqK (h : X.K = K) : CallR X (.builtin "len") (fun xs H Q => ∃ p ys, xs = [.ref p] ∧ (SqL K H p ys ∨ SqT K H p ys) ∧ Q (.int ys.length) H) := by subst h; exact call_len_seq
theorem pe_bmK {o : Expr} {es : List Expr} {to : TE} {t : TA} {name : Str} {apos cpos : Pos} {T id : String} {r : V → List V → Hp → VK → Prop} (h : X.K = K) (pa : PlainAttrs T) (slot : Slot T name id) (hty : typeOf (Value.builtin id) = pure (Value.type "method_descriptor")) (hm : MtR X id r) (ho : PE X o to) (ha : PA X (e :: es) t)
    (hbase : attributeBase o name X.env (eval o X.env) = eval o X.env := by rfl)
    (hfew : ((((backTo cpos (starEach (e :: es) X.env)).all fun x => !x.1) && (backToKw cpos (keywordEach [] X.env)).all fun x => x.1.isSome) && decide (((e :: es).length + ([] : List Keyword).length + if ([] : List Keyword).isEmpty = true then 0 else 1) < 30)) = true := by rfl)
    (hline : (apos.endLine == cpos.line) = true := by rfl) (hs : starEach (e :: es) X.env = (false, eval e X.env) :: starEach es X.env := by rfl) (hpl : ((backTo cpos (starEach es X.env)).any fun x => x.1) = false := by rfl) :
    PE X (.Call (.Attribute o name apos) (e :: es) [] cpos) (tBM K T r to t) := by subst h; exact pe_bm pa slot hty hm ho ha hbase hfew hline hs hpl
end
theorem room65 {k : Nat} {A : Around} (hr : Room k A) : A.units + 65 < cLine := by
  have := hr.un
  omega
end Spk

set_option Elab.async false
set_option linter.all false
set_option maxRecDepth 100000
set_option maxHeartbeats 1000000
namespace Spk
open PySem PySem.Spec PyProof.Rows L2
/-! ## try: .. except X as e: v = e, and v used behind it -/
section
variable {X : Cx}
theorem unsuiteP {pins pn' : List (Addr × Obj)} {σ : L2.St} {H : Hp} {s : Shared} {a : Addr} {oe : Obj} (S : L2.Inv (X.suite a ((a, oe) :: (X.pn ++ pins))) pn' σ H s) (ok : X.Ok) : L2.Inv X ((a, oe) :: pins) σ H s :=
  { Inv.unsuite S ok with
    pin := fun p hp => S.pin p (List.mem_append_left _ (by
      rcases List.mem_append.mp hp with h | h
      · exact List.mem_cons_of_mem _ (List.mem_append_left _ h)
      · rcases List.mem_cons.mp h with rfl | h
        · exact List.mem_cons_self
        · exact List.mem_cons_of_mem _ (List.mem_append_right _ h))) }
theorem dropPin {pins : List (Addr × Obj)} {q : Addr × Obj} {σ : L2.St} {H : Hp} {s : Shared} (J : L2.Inv X (q :: pins) σ H s) : L2.Inv X pins σ H s :=
  { J with
    pin := fun p hp => J.pin p (by
      rcases List.mem_append.mp hp with h | h
      · exact List.mem_append_left _ h
      · exact List.mem_append_right _ (List.mem_cons_of_mem _ h)) }
/-- what is wished of the body's error: the handler takes it; what follows is walked with the error kept at slot j -/
def wKeep (K : PySem.W.Frag) (c : Value) (j i : Nat) (u : Addr → Value → Option Addr → TS) (D : Ends) : WX := fun cls d σ H =>
  PySem.W.exmOne K cls c = some true ∧ ∀ a, H a = none → u a cls d D ((σ.set j (some (.ref a))).set i none) H
theorem sp_drop {pins : List (Addr × Obj)} {q : Addr × Obj} {D : Ends} {f : Flow} {s : Shared} (ok : X.Ok) (h : SP (X.tr (X.pn ++ q :: pins) X.xe) [] D f s) : SP X pins D f s := by
  cases f with
  | next =>
    obtain ⟨σ', H', J, q⟩ := h
    exact ⟨σ', H', dropPin (Inv.ofTry J ok), q⟩
  | brk =>
    obtain ⟨σ', H', J, q⟩ := h
    exact ⟨σ', H', dropPin (Inv.ofTry J ok), q⟩
  | cont =>
    obtain ⟨σ', H', J, q⟩ := h
    exact ⟨σ', H', dropPin (Inv.ofTry J ok), q⟩
  | ret w =>
    obtain ⟨v, σ', H', J, r, q⟩ := h
    exact ⟨v, σ', H', dropPin (Inv.ofTry J ok), r, q⟩
theorem pss_try_keep {x n : Str} {c : Value} {i j : Nat} {body rest suite : List Stmt} {b₀ : Stmt} {np pos pos' : Pos} {tb : WX → TS} {u0 : TS} {u : Addr → Value → Option Addr → TS} (hs : X.stack = X.env :: X.outer) (hf : X.env.frame = some X.env.locals) (hN : X.N.Nodup)
    (hi : X.N[i]? = some n) (hln : X.env.kindOf n = some .local) (hj : j < X.N.length) (hc : Names X x c)
    (hb : ∀ (W : WX) (pn : List (Addr × Obj)) (xe : Value → Shared → Prop), Takes (X.tr pn xe) W → PassesOwn (model X.prog X.w) X.A X.env xe → PSs (X.tr pn xe) body (tb W))
    (hsu : ∀ (a : Addr) (oe : Obj) (pn : List (Addr × Obj)), PSs (X.suite a ((a, oe) :: pn)) (b₀ :: suite) (tAsg (tVar i) (gName j)))
    (hr : PSs X rest u0) (hre : ∀ (a : Addr) (oe : Obj) (cls : Value) (d : Option Addr) (pn : List (Addr × Obj)), Zc cls d oe → (∃ vs, oe.data = .fields vs) → (a, oe) ∈ pn → PSs (X.tr pn X.xe) rest (u a cls d)) :
    PSs X (.Try body [.ExceptHandler (some (.Name x np)) (some n) (b₀ :: suite) pos'] [] [] pos :: rest) (fun D σ H => tb (wKeep X.K c j i u D) { D with nx := u0 D } σ H) := by
  refine ⟨fun pins s σ H D I h => ?_⟩
  have ok := I.ok
  have hfr : X.A.frames = some (X.env :: X.outer) := by rw [ok.frames, hs]
  have hloc : L2.Loc X.env.scope n := .inl hln
  refine wpAny_execs_cons (wpAny_Try_except (wpAny_mono ((hb (wKeep X.K c j i u D) (X.pn ++ pins) _ (fun w s' xx => ?_) PassesOwn.looking).run [] s σ H { D with nx := u0 D } (I.toTry _) h) (fun f s1 hsp => ?_) fun _ _ he => he))
  · obtain ⟨a, B, sI, pins', σ', H', cls, d, rfl, J', nb, up, sky, na, os, ag, hb1, hyes⟩ := xx
    have J := J'.ofTry ok
    have sky' : Sky B (X.env :: X.outer) a (Zc cls d) X.env.locals s'.heap := by
      rw [← hs]
      exact sky
    refine Sky.land Zc.steady hfr hf sky' fun h3 fl3 up3 => ?_
    have J3 : L2.Inv X pins σ' H' { s' with heap := h3 } := Inv.landed J nb fl3.1 (up.trans up3) os ag
    obtain ⟨oe3, vs3, he3, hz3, hd3⟩ := HandSPX.FlyingZ.there fl3
    have nfr : a ∉ frs (X.env :: X.outer) := fun hm => by
      obtain ⟨_, o', e', hnf⟩ := fl3.2.2.1.mem hm
      rw [he3] at e'
      cases e'
      exact hnf vs3 hd3
    have nL : a ≠ X.env.locals := fun z => nfr (List.mem_filterMap.mpr ⟨X.env, List.mem_cons_self, by rw [hf, z]⟩)
    have nF : a ∉ X.fs := fun hm => by
      obtain ⟨e, he, q⟩ := List.mem_filterMap.mp hm
      exact nfr (List.mem_filterMap.mpr ⟨e, List.mem_cons_of_mem _ he, q⟩)
    have S3 := Inv.suite J3 he3 hd3 na nL nF
    have LT : PySem.W.Looks (model X.prog X.w) h3 (typeOf (.ref a)) cls := fun A Q E s k q => wpAny_typeOf_ref (k a oe3 he3) (by rw [hz3.1]; exact q)
    have LM := W.exm_one (Inv.kIn J3) LT hb1
    obtain ⟨hg, hdbg, hm⟩ := hc
    refine wpAny_handleBy_cons (codeAny_handlers_test ?_) (fun q => nomatch q)
    have test : ∀ {Q E : Value → Shared → Prop}, Q c { s' with heap := h3 } → wpAny (model X.prog X.w) (X.A.mark (some (.ref a))) (eval (.Name x np) X.env) Q E { s' with heap := h3 } := fun {Q E} q => hm.elim (fun hm => ld_glob S3 hg hm q hdbg) fun h => ld_blt S3 hg h.1 h.2.1 q h.2.2 hdbg
    refine test (W.Looks.here LM ?_)
    show codeAny _ _ _ _ _
    refine codeAny_handlers_suite_as (HandSPX.lands_againZ fl3 fun h4 fl4 up4 => ?_)
    have J4 : L2.Inv X pins σ' H' { s' with heap := h4 } := Inv.landed J nb fl4.1 ((up.trans up3).trans up4) os ag
    obtain ⟨oe4, vs4, he4, hz4, hd4⟩ := HandSPX.FlyingZ.there fl4
    have S4 := Inv.suite J4 he4 hd4 na nL nF
    refine store_ok (X := X.suite a ((a, oe4) :: (X.pn ++ pins))) S4 hN hi hloc (show RelV (.ref a) (.ref a) from rfl) (fun s5 S5 => ?_) (.inr hln)
    have il : i < σ'.length := by
      rw [J.len]
      exact (List.getElem?_eq_some_iff.mp hi).1
    have jl : j < σ'.length := by
      rw [J.len]
      exact hj
    refine wpAny_mono ((hsu a oe4 (X.pn ++ pins)).run [] s5 (σ'.set i (some (.ref a))) H' { nx := fun σ6 H6 => σ6 = (σ'.set i (some (.ref a))).set j (some (.ref a)) ∧ H6 = H', rt := fun _ _ => False, bk := fun _ _ => False, ct := fun _ _ => False } S5 ⟨.ref a, by rw [List.getElem?_set_self il], rfl, rfl⟩) (fun f s6 hsp => ?_) (fun _ _ z => z.elim)
    cases f with
    | brk =>
      obtain ⟨_, _, _, q⟩ := hsp
      exact q.elim
    | cont =>
      obtain ⟨_, _, _, q⟩ := hsp
      exact q.elim
    | ret w =>
      obtain ⟨_, _, _, _, _, q⟩ := hsp
      exact q.elim
    | next =>
      obtain ⟨σ6, H6, S6, e1, e2⟩ := hsp
      subst e1 e2
      refine gone_ok (unsuiteP S6 ok) hN hi hln fun s7 J7 => ?_
      have q := hyes a na
      have es : ((σ'.set i (some (.ref a))).set j (some (.ref a))).set i none = (σ'.set j (some (.ref a))).set i none := by
        by_cases e : i = j
        · subst e
          simp only [List.set_set]
        · rw [List.set_comm _ _ e, List.set_set]
      rw [es] at J7
      exact wpAny_mono ((hre a oe4 cls d (X.pn ++ (a, oe4) :: pins) hz4 ⟨vs4, hd4⟩ (by simp)).run [] s7 _ H6 D (J7.toTry X.xe) q) (fun f s8 h8 => sp_drop ok h8) fun _ _ z => z
  · cases f with
    | next =>
      obtain ⟨σ', H', J', q⟩ := hsp
      exact wpAny_execs_nil (hr.run pins s1 σ' H' D (J'.ofTry ok) q)
    | brk =>
      obtain ⟨σ', H', J', q⟩ := hsp
      exact ⟨σ', H', J'.ofTry ok, q⟩
    | cont =>
      obtain ⟨σ', H', J', q⟩ := hsp
      exact ⟨σ', H', J'.ofTry ok, q⟩
    | ret w =>
      obtain ⟨v, σ', H', J', r, q⟩ := hsp
      exact ⟨v, σ', H', J'.ofTry ok, r, q⟩
/-- e.f, e an error that is pinned at a -/
theorem pe_xfP {a C : Addr} {oe : Obj} {cls : Value} {d : Option Addr} {e : Expr} {te : TE} {pos : Pos} {n : Str} (T : XfC X.K C) (hno : PySem.W.findIn X.K (.ref C) n = some none) (hz : Zc cls d oe) (hf : ∃ vs, oe.data = .fields vs) (hpin : (a, oe) ∈ X.pn) (he : PE X e te)
    (hb : attributeBase e n X.env (eval e X.env) = eval e X.env := by rfl) : PE X (.Attribute e n pos) (tXf a cls d C n te) := by
  refine ⟨fun pins s σ H Q I h => attr_of hb (thn (he.run pins s σ H _ I h) fun u s1 ⟨x, H1, I1, rx, ex, ec, dd, fs, v, ed, ea, l, q⟩ => ?_)⟩
  subst ex ec ed
  obtain rfl : u = Value.ref a := rx
  have ha := (I1.pin (a, oe) (List.mem_append_left pins hpin)).1
  obtain ⟨vs, hd⟩ := hf
  obtain ⟨mA, hns, hr⟩ := I1.hok dd (.xd fs) ea
  obtain ⟨od, ho, hl⟩ := lookIn_ns hns
  obtain ⟨u, hu, ru⟩ := RelO.some_of (by rw [← l]; exact hr n)
  have J : PySem.W.InstAt s1.heap a oe C (some od) := ⟨ha, hz.1, by unfold PySem.W.notCls; rw [hd], by rw [hz.2]; exact ho⟩
  exact HandSPX.exc_get I1.kIn J T.ga T.gg T.exC (PySem.W.findObj_own T.hdC hno rfl (by rw [hl n, hu])) (handed_of ru) ⟨v, H1, I1.tok (s1.toks + 1), ru, q⟩
/-- what the text says of an error's class, for isinstance -/
structure ExP (K : PySem.W.Frag) (C : Addr) : Prop where
  is : (PySem.W.clsIn K C).isSome = true
  ga : PySem.W.findIn K (.ref C) "__getattribute__" = some (some (.builtin "BaseException.__getattribute__"))
  gg : PySem.W.findIn K (.ref C) "__getattr__" = some none
  sub : PySem.W.subIn K (.ref C) (.type "BaseException") = some true
  cls : PySem.W.findIn K (.ref C) "__class__" = some (some (.builtin "object.__class__"))
  get : PySem.W.specialIn K (.builtin "object.__class__") "__get__" = some (some (.builtin "getset_descriptor.__get__"))
  tk : PySem.W.takesIn K (.builtin "object.__class__") = some true
  mro : PySem.W.mroIn K C (.type "object") = some true
/-- isinstance(e, D), e an error that is pinned at a -/
def rIsP (K : PySem.W.Frag) (C a : Addr) (d : Option Addr) : List V → Hp → VK → Prop := fun xs H Q => ∃ (c : V) (cv : Value) (b : Bool) (dd : Addr) (fs : List (Str × V)), xs = [.ref a, c] ∧ ClsV c cv ∧ PySem.W.kitOne K (.ref C) cv = some b ∧ d = some dd ∧ H dd = some (.xd fs) ∧ Q (.bl b) H
theorem call_isP {a C : Addr} {oe : Obj} {d : Option Addr} (T : ExP X.K C) (hz : Zc (.ref C) d oe) (hf : ∃ vs, oe.data = .fields vs) (hpin : (a, oe) ∈ X.pn) : CallR X (.builtin "isinstance") (rIsP X.K C a d) := by
  intro pins s σ H xs us Q I r h
  obtain ⟨c, cv, b, dd, fs, rfl, hc, kt, ed, ea, q⟩ := h
  subst ed
  have ha := (I.pin (a, oe) (List.mem_append_left pins hpin)).1
  obtain ⟨vs, hd⟩ := hf
  obtain ⟨mA, hns, hr⟩ := I.hok dd (.xd fs) ea
  obtain ⟨od, ho, hl⟩ := lookIn_ns hns
  have J : PySem.W.InstAt s.heap a oe C (some od) := ⟨ha, hz.1, by unfold PySem.W.notCls; rw [hd], by rw [hz.2]; exact ho⟩
  cases r with
  | cons r1 r2 =>
    cases r2 with
    | cons r2 r3 =>
      cases r3
      rename_i u1 u2
      obtain rfl : u1 = Value.ref a := r1
      have e2 : u2 = cv := by
        cases hc with
        | ty n => exact r2
        | own D => exact r2
      subst e2
      exact PySem.W.kia_one (PySem.W.kitx_exc T.is T.ga T.gg T.sub T.cls T.get T.tk T.mro) I.kIn J kt (fun z => nomatch z) fun tk => ⟨.bl b, H, I.kept (t' := tk) fun _ _ z => z, rfl, q⟩
end
end Spk

set_option Elab.async false
set_option linter.all false
set_option maxRecDepth 100000
set_option maxHeartbeats 1000000
namespace Spk
open PySem PySem.Spec PyProof.Rows PySem.W L2
/-! ## C(e, .., k = v, ..), its __init__ one with a star and keywords; what it raises -/
theorem passE {X : Cx} {E : XK} (tk : Takes X (fun cls d _ H => E cls d H)) : Passes (L2.CX X.prog X.w) X E := fun pins σ H s e s' I h => passAt tk σ pins H s e s' I h
def tMakePK (C : Addr) (m : Nat) (sp : List V → List V → Hp → VK → XK → Prop) (E : XK) (t tk : TA) : TE := fun σ H Q => t σ H fun vs H1 => tk σ H1 fun zs H2 => zs.length = m ∧
  ∀ x dx, H2 x = Option.none → H2 dx = Option.none → dx ≠ x → sp (V.ref x :: vs) zs (upd (upd H2 dx (.own x)) x (.ins C dx [])) (fun v H3 => v = .non ∧ Q (.ref x) H3) E
theorem i_mkpk {C : Addr} {m : Nat} {sp : List V → List V → Hp → VK → XK → Prop} {E : XK} {t tk : TA} {σ : L2.St} {H : Hp} {Q : VK} (h : t σ H fun vs H1 => tk σ H1 fun zs H2 => zs.length = m ∧
  ∀ x dx, H2 x = Option.none → H2 dx = Option.none → dx ≠ x → sp (V.ref x :: vs) zs (upd (upd H2 dx (.own x)) x (.ins C dx [])) (fun v H3 => v = .non ∧ Q (.ref x) H3) E) : tMakePK C m sp E t tk σ H Q := h
section
variable {X : Cx} {CX : CXT} {k : Nat} {f C : Addr} {ks : List Str} {sp : List V → List V → Hp → VK → XK → Prop} {E : XK} {x : Str} {p pos : Pos} {e : Expr} {es : List Expr} {kws : List Keyword} {t tk : TA}
theorem run_makePK {pins : List (Addr × Obj)} {σ : L2.St} {H : Hp} {s : Shared} {us ws : List Value} {vs zs : List V} {Q : VK} (M : Mk X.K C f) (F : FnK X.prog X.w X.K X.mg X.base CX k f ks sp) (hr : Room (k + 1) X.A) (hx : Passes CX X E) (I : L2.Inv X pins σ H s) (rv : Vals vs us) (rz : Vals zs ws) (l : zs.length = ks.length)
    (q : ∀ x dx, H x = Option.none → H dx = Option.none → dx ≠ x → sp (V.ref x :: vs) zs (upd (upd H dx (.own x)) x (.ins C dx [])) (fun v H3 => v = .non ∧ Q (.ref x) H3) E) : wpAny (model X.prog X.w) X.A (call (.ref C) us (ks.zip ws)) (EP X pins σ Q) X.xe s := by
  have hq := q (s.heap.objs.size + 1) s.heap.objs.size (I.hok.fresh (Nat.le_succ _)) (I.hok.fresh (Nat.le_refl _)) (Nat.ne_of_lt (Nat.lt_succ_self _))
  have J := Inv.made (C := C) I
  have rv' : Vals (V.ref (s.heap.objs.size + 1) :: vs) (Value.ref (s.heap.objs.size + 1) :: us) := .cons rfl rv
  refine wpAny_call (make_map (f := f) I.kIn M.makes M.init (beq_iff_eq.mp M.fn) (codeAny_mono (F _ X.stack _ _ (Value.ref (s.heap.objs.size + 1) :: us) ws _ _ _ E (hr.make C us (ks.zip ws)) (J.env0.make C us (ks.zip ws)) rv' rz l hq) ?_))
  intro r s4 hr4
  match r, hr4 with
  | .error er, hr4 => exact hx pins σ _ _ er s4 J hr4
  | .ok .next, hr4 => exact hr4.elim
  | .ok .brk, hr4 => exact hr4.elim
  | .ok .cont, hr4 => exact hr4.elim
  | .ok (.ret u), hr4 =>
    obtain ⟨v, H3, J3, rv3, ev, q3⟩ := J.after hr4
    subst ev
    exact ⟨rv3, ⟨V.ref (s.heap.objs.size + 1), H3, J3, rfl, q3⟩⟩
theorem pe_makePK (M : Mk X.K C f) (F : FnK X.prog X.w X.K X.mg X.base CX k f ks sp) (hr : Room (k + 1) X.A) (hg : Gl X x) (hm : X.mg x = some (.ref C)) (hx : Passes CX X E) (ha : PA X (e :: es) t) (hkw : PK X kws tk)
    (hall : (backToKw pos (keywordEach kws X.env)).all (·.1.isSome) = true := by rfl) (hks : (backToKw pos (keywordEach kws X.env)).filterMap (·.1) = ks := by rfl) (hdb : (x == ("__debug__" : Str)) = false := by decide)
    (hpl : (((backTo pos (starEach (e :: es) X.env)).any fun x => x.1) || (backToKw pos (keywordEach kws X.env)).any fun x => x.1.isNone) = false := by rfl)
    (hst : starEach (e :: es) X.env = (false, eval e X.env) :: starEach es X.env := by rfl) : PE X (.Call (.Name x p) (e :: es) kws pos) (tMakePK C ks.length sp E t tk) := by
  refine ⟨fun pins s σ H Q I h => ?_⟩
  refine wpAny_Call_Name_kw (ld_glob I hg hm ?_ hdb)
  refine PySem.W.callWith_KW (h₀ := X.base) I.ok.mod.kin M.kp hall (thn (ha.run pos pins s σ H _ I h) fun us s1 ⟨vs, H1, I1, rv, q1⟩ => thn (hkw.run pos pins s1 σ H1 _ I1 q1) fun ws s2 ⟨zs, H2, I2, rz, l2, q2⟩ => ⟨I2.kIn, ?_⟩) hpl hst
  rw [hks]
  exact run_makePK M F hr hx I2 rv rz l2 q2
theorem pe_makePK0 (M : Mk X.K C f) (F : FnK X.prog X.w X.K X.mg X.base CX k f ks sp) (hr : Room (k + 1) X.A) (hg : Gl X x) (hm : X.mg x = some (.ref C)) (hx : Passes CX X E) (hkw : PK X kws tk)
    (hall : (backToKw pos (keywordEach kws X.env)).all (·.1.isSome) = true := by rfl) (hks : (backToKw pos (keywordEach kws X.env)).filterMap (·.1) = ks := by rfl) (hdb : (x == ("__debug__" : Str)) = false := by decide)
    (hpl : (((backTo pos (starEach [] X.env)).any fun x => x.1) || (backToKw pos (keywordEach kws X.env)).any fun x => x.1.isNone) = false := by rfl) : PE X (.Call (.Name x p) [] kws pos) (tMakePK C ks.length sp E tNil tk) := by
  refine ⟨fun pins s σ H Q I h => ?_⟩
  refine wpAny_Call_Name_kw (ld_glob I hg hm ?_ hdb)
  refine PySem.W.callWith_KW0 (h₀ := X.base) I.ok.mod.kin M.kp hall (thn (hkw.run pos pins s σ H _ I h) fun ws s2 ⟨zs, H2, I2, rz, l2, q2⟩ => ⟨I2.kIn, ?_⟩) hpl
  rw [hks]
  exact run_makePK M F hr hx I2 .nil rz l2 q2
end
/-! ## C.m(e, .., k = v, ..), what it raises wished for at the slots as they stand -/
def tCMethKS (C : Addr) (n m : Nat) (sp : Sp) (gV : List V → List V → List V) (E : L2.St → XK) (ta : TE) (t tk : TA) : TE := fun σ H Q => ta σ H fun x H1 => x = .ref C ∧ t σ H1 fun vs H2 => tk σ H2 fun zs H3 => vs.length = n ∧ zs.length = m ∧ sp (gV (.ref C :: vs) zs) H3 Q (E σ)
section
open ClX
variable {X : Cx} {CX : CXT} {k n : Nat} {C p g : Addr} {fd : FuncData} {mc : Value} {sp : Sp} {E : L2.St → XK} {m : Str} {ps ks : List Str} {gg : List Value → List Value → List Value} {gV : List V → List V → List V} {pos apos : Pos} {e o : Expr} {es : List Expr} {kws : List Keyword} {ta : TE} {t tk : TA}
theorem pe_cmethKS {pl : Sem Bool} (he : PE X o ta) (r : CRead X.K C mc) (c : CMet X.K C mc m p g) (F : FnOk X.prog X.w X.K X.mg X.base CX k g fd ps sp) (hb : KBn X.K fd ps (n + 1) ks gg gV) (hr : Room k X.A) (hx : ∀ σ, PassesAt CX X σ (E σ)) (ha : PA X (e :: es) t) (hk : PK X kws tk)
    (hall : (backToKw pos (keywordEach kws X.env)).all (·.1.isSome) = true := by rfl) (hks : (backToKw pos (keywordEach kws X.env)).filterMap (·.1) = ks := by rfl)
    (hse : starEach (e :: es) X.env = (false, eval e X.env) :: starEach es X.env := by rfl)
    (hpl : (((backTo pos (starEach (e :: es) X.env)).any fun x => x.1) || (backToKw pos (keywordEach kws X.env)).any fun x => x.1.isNone) = false := by rfl)
    (ht : eval (.Call (.Attribute o m apos) (e :: es) kws pos) X.env = (do
      let ov ← eval o X.env
      standAt apos.atName
      let (f, first) ← holding [ov] (getMethod ov m pl)
      callWith pos f first (backTo pos (starEach (e :: es) X.env)) (backToKw pos (keywordEach kws X.env))) := by rfl) :
    PE X (.Call (.Attribute o m apos) (e :: es) kws pos) (tCMethKS C n ks.length sp gV E ta t tk) := by
  refine ⟨fun pins s σ H Q I h => ?_⟩
  refine PySem.W.methodCall_KW (pl := pl) (thn (he.run pins s σ H _ I h) fun u s1 ⟨x, H1, I1, rx, ex, z⟩ => ?_) ht
  subst ex
  obtain rfl : u = Value.ref C := rx
  refine getmethcm_ok I1 r c fun s2 I2 => ?_
  refine callwith_met (a := C) (g := g) hpl c.fi (evalArgs_kw2 hall (thn (ha.run pos _ s2 σ _ _ I2 z) fun us s3 ⟨vs, H2, I3, rv, z2⟩ => ?_) hse)
  refine thn (hk.run pos _ s3 σ H2 _ I3 z2) fun ws s4 ⟨zs, H3, I4, rz, l1, l2, q⟩ => ?_
  refine ⟨⟨pin_at I4, I4.kIn⟩, ?_⟩
  rw [hks]
  have w1 : us.length = n := by rw [← rv.length]; exact l1
  have w2 : ws.length = ks.length := by rw [← rz.length]; exact l2
  have rv' : Vals (V.ref C :: vs) (Value.ref C :: us) := .cons rfl rv
  refine wpAny_call (PySem.W.method_call (pin_at I4) (codeAny_mono (F.run X.A X.stack s4 H3 ⟨Value.ref C :: us, ks.zip ws⟩ (gg (Value.ref C :: us) ws) _ _ (E σ) hr I4.env0 (hb.to s4 (Value.ref C :: us) ws I4.kIn (by rw [List.length_cons, w1]) w2) (hb.rel rv' rz) q) ?_))
  intro r5 s5 hr5
  match r5, hr5 with
  | .error er, hr5 => exact hx σ _ _ _ er s5 I4 hr5
  | .ok .next, hr5 => exact hr5.elim
  | .ok .brk, hr5 => exact hr5.elim
  | .ok .cont, hr5 => exact hr5.elim
  | .ok (.ret u5), hr5 => exact ClX.unpinE (I4.after hr5)
end
end Spk

set_option Elab.async false
set_option linter.all false
set_option maxRecDepth 100000
set_option maxHeartbeats 1000000
namespace Spk
open PySem PySem.Spec PyProof.Rows L2
/-! ## xs != [], xs == [] of a list of anything -/
def rNeNil : R2 := fun x y H Q => ∃ a b xs, x = .ref a ∧ y = .ref b ∧ H a = some (.lst xs) ∧ H b = some (.lst []) ∧ Q (.bl (!xs.isEmpty)) H
def rEqNil : R2 := fun x y H Q => ∃ a b xs, x = .ref a ∧ y = .ref b ∧ H a = some (.lst xs) ∧ H b = some (.lst []) ∧ Q (.bl xs.isEmpty) H
theorem op_neNil {X : Cx} (hu : X.A.units < cLine) : OpR X (compareOp .NotEq) rNeNil := by
  intro pins s σ H x y v u Q I rx ry h
  obtain ⟨a, b, xs, rfl, rfl, ha, hb, q⟩ := h
  obtain rfl : v = Value.ref a := rx
  obtain rfl : u = Value.ref b := ry
  obtain ⟨its, rv, pl, hz⟩ := I.list (SqL.of ha)
  obtain ⟨its2, rv2, pl2, hz2⟩ := I.list (SqL.of hb)
  show wpAny (model X.prog X.w) X.A (richCompare .NotEq (.ref a) (.ref b)) (EP X pins σ Q) X.xe s
  have e2 : its2 = [] := List.eq_nil_of_length_eq_zero (by rw [← rv2.length]; rfl)
  subst e2
  cases xs with
  | nil =>
    have e1 : its = [] := List.eq_nil_of_length_eq_zero (by rw [← rv.length]; rfl)
    subst e1
    exact SeqAt.RcNeAt.lists (e := fun _ => true) pl.isList pl2.isList rfl hu (fun j h1 => absurd h1 (Nat.not_lt_zero _)) _ _ _ _ ⟨.bl _, H, I, rfl, q⟩
  | cons w ws =>
    refine SeqAt.RcNeAt.lists_lengths pl.isList pl2.isList ?_ hu _ _ _ _ ⟨.bl _, H, I, rfl, q⟩
    have := rv.length
    cases its with
    | nil => simp at this
    | cons i is => rfl
theorem op_eqNil {X : Cx} (hu : X.A.units < cLine) : OpR X (compareOp .Eq) rEqNil := by
  intro pins s σ H x y v u Q I rx ry h
  obtain ⟨a, b, xs, rfl, rfl, ha, hb, q⟩ := h
  obtain rfl : v = Value.ref a := rx
  obtain rfl : u = Value.ref b := ry
  obtain ⟨its, rv, pl, hz⟩ := I.list (SqL.of ha)
  obtain ⟨its2, rv2, pl2, hz2⟩ := I.list (SqL.of hb)
  show wpAny (model X.prog X.w) X.A (richCompare .Eq (.ref a) (.ref b)) (EP X pins σ Q) X.xe s
  have e2 : its2 = [] := List.eq_nil_of_length_eq_zero (by rw [← rv2.length]; rfl)
  subst e2
  cases xs with
  | nil =>
    have e1 : its = [] := List.eq_nil_of_length_eq_zero (by rw [← rv.length]; rfl)
    subst e1
    exact SeqAt.RcAt.lists (e := fun _ => true) pl.isList pl2.isList rfl hu (fun j h1 => absurd h1 (Nat.not_lt_zero _)) _ _ _ _ ⟨.bl _, H, I, rfl, q⟩
  | cons w ws =>
    refine SeqAt.RcAt.lists_lengths pl.isList pl2.isList ?_ hu _ _ _ _ ⟨.bl _, H, I, rfl, q⟩
    have := rv.length
    cases its with
    | nil => simp at this
    | cons i is => rfl
theorem roomU {k : Nat} {A : Around} (hr : Room k A) : A.units < cLine := by
  have := hr.un
  omega
end Spk

set_option Elab.async false
set_option linter.all false
set_option maxRecDepth 100000
set_option maxHeartbeats 1000000
namespace Spk
open PySem PySem.Spec PyProof.Rows PySem.W L2
/-! ## defs that are entered while nothing is being shown: in them lists and tuples may be shown by repr -/

/-- the promise of a def, for such entries alone -/
structure FnG (P : Program) (w : World) (K : Frag) (mg : Str → Option Value) (base : Heap) (CX : CXT) (k : Nat) (f : Addr) (fd : FuncData) (ps : List Str) (sp : Sp) : Prop where
  arity : ∀ vs H Q E, sp vs H Q E → vs.length = ps.length
  goes : ∀ (A : Around), A.guards = some [] → ∀ (outer : List Env) (s : Shared) (H : Hp) (args : Args) (us : List Value) (vs : List V) (Q : VK) (E : XK), Room k A → Env0 P w K mg base A outer s H →
    BindsTo s fd args (ps.zip us) → Vals vs us → sp vs H Q E → codeAny (model P w) A (.call (.ref f) args) (CR CX outer P w H s Q E) s

section
variable {P : Program} {w : World} {K : Frag} {mg : Str → Option Value} {base : Heap} {CX : CXT} {j k : Nat} {f : Addr} {fd : FuncData} {ps : List Str} {sp : Sp}
theorem FnG.of (F : FnOk P w K mg base CX k f fd ps sp) : FnG P w K mg base CX k f fd ps sp :=
  ⟨F.len, fun A _ outer s H args us vs Q E hr e b v h => F.run A outer s H args us vs Q E hr e b v h⟩
theorem FnG.mono (F : FnG P w K mg base CX j f fd ps sp) (h : j ≤ k) : FnG P w K mg base CX k f fd ps sp :=
  ⟨F.arity, fun A g outer s H args us vs Q E hr => F.goes A g outer s H args us vs Q E (hr.mono h)⟩
/-- a def by its body -/
theorem fn_ofG {name qual : Str} {params : Arguments} {body : List Stmt} {scope : Scope} {dV kV doc pm cdv ct oc : Value} {an od : Option Addr} {osl : Array (Option Value)} {N : List Str}
    (lk : K.lookup f = some ⟨oc, od, .func (fnOf name qual params body scope dV kV doc pm an cdv ct), osl⟩) (hcd : codeIn K cdv qual = true) (S : FnScope N ps scope) (ar : ∀ vs H Q E, sp vs H Q E → vs.length = ps.length)
    (hb : ∀ (A : Around), A.guards = some [] → ∀ (outer : List Env) (s : Shared) (H : Hp) (vs : List V) (Q : VK) (E : XK), Room k (A.deeper (envOfC qual scope s.heap.objs.size f cdv)) → sp vs H Q E →
      ∃ t, PSs (cxOf CX P w K mg base N qual scope f cdv A outer s H E) body t ∧ t { nx := fun _ H1 => Q .non H1, rt := Q } (L2.start N vs) H) :
    FnG P w K mg base CX (k + 1) f (fnOf name qual params body scope dV kV doc pm an cdv ct) ps sp := by
  constructor
  · exact ar
  intro A g outer s H args us vs Q E hr e0 bi r hsp
  have hl := ar _ _ _ _ hsp
  have KX : K.In s.heap := e0.mod.kin.keeps fun c o z => (e0.bs c o z).1
  have lim : s.heap.NoLimit := e0.mod.nolimit.keeps fun c o z => (e0.bs c o z).1
  have kinds : ∀ y, y ∈ ps.zip us → scope.names.lookup y.1 = some .local ∨ (scope.names.lookup y.1 = some .cell ∧ ((cellsFrom (s.heap.objs.size + 1) scope.names []).lookup y.1).isSome = true) := by
    intro y hy
    have hm := (List.of_mem_zip (show (y.1, y.2) ∈ ps.zip us from hy)).1
    exact (S.par y.1 hm).imp id fun q => ⟨q, cellsFrom_some _ _ _ (.inl q)⟩
  refine codeAny_call_function hr.depth (KX _ _ lk) rfl S.co S.gen rfl (codeRec_of KX hcd) (bi _ _ _ _ ?_)
  refine wpAny_newFunctionEnv_cells S.kind kinds ?_
  intro env he s1 x
  subst he
  constructor
  · exact lim.keeps x.toInCall.keep
  refine codeAny_func ?_
  obtain ⟨t, ht, hq⟩ := hb A g outer s H vs Q E (hr.deeper _) hsp
  have I : Inv (cxOf CX P w K mg base N qual scope f cdv A outer s H E) [] (L2.start N vs) H s1 := inv_start S hr.hd e0 hl r x
  have out : ∀ {τ : L2.St} {H1 : Hp} {v : V} {u : Value} {s2 : Shared}, Inv (cxOf CX P w K mg base N qual scope f cdv A outer s H E) [] τ H1 s2 → RelV v u → Q v H1 → CE outer P w H s Q u s2 := by
    intro τ H1 v u s2 J rv q
    exact ⟨v, H1, J.os, J.bare, J.base, J.hok, rv, q⟩
  refine wpAny_mono (ht.run [] s1 (L2.start N vs) H _ I hq) ?_ fun e s2 z => z
  intro fl s2 hs
  match fl, hs with
  | .ret u, hs =>
    obtain ⟨v, τ, H1, J, rv, q⟩ := hs
    exact out J rv q
  | .next, hs =>
    obtain ⟨τ, H1, J, q⟩ := hs
    exact out (v := V.non) (u := Value.none) J rfl q
  | .brk, hs =>
    obtain ⟨_, _, _, q⟩ := hs
    exact q.elim
  | .cont, hs =>
    obtain ⟨_, _, _, q⟩ := hs
    exact q.elim
end
section
variable {P : Program} {w : World} {K : Frag} {mg : Str → Option Value} {base : Heap} {k : Nat} {f : Addr} {fd : FuncData} {ps : List Str} {sp : Sp}
theorem _root_.L2.Fun.okG {x qual : Str} {st : Stmt} {N : List Str} (F : Fun K x qual st f fd) (S : FnScope N ps (defScope st)) (ar : ∀ vs H Q E, sp vs H Q E → vs.length = ps.length)
    (hb : ∀ (cdv : Value) (A : Around), A.guards = some [] → ∀ (outer : List Env) (s : Shared) (H : Hp) (vs : List V) (Q : VK) (E : XK), Room k (A.deeper (envOfC qual (defScope st) s.heap.objs.size f cdv)) → sp vs H Q E →
      ∃ t, PSs (cxOf CX0 P w K mg base N qual (defScope st) f cdv A outer s H E).nox (defBody st) t ∧ t { nx := fun _ H1 => Q .non H1, rt := Q } (L2.start N vs) H) : FnG P w K mg base CX0 (k + 1) f fd ps sp := by
  obtain ⟨oc, od, kV, doc, pm, an, cdv, ct, osl, rfl, lk, hcd⟩ := F.ex
  refine fn_ofG lk hcd S ar ?_
  intro A g outer s H vs Q E hr hsp
  obtain ⟨t, h, q⟩ := hb cdv A g outer s H vs Q E hr hsp
  exact ⟨t, h.nox, q⟩
end
section
variable {X : Cx} {CX : CXT} {k : Nat} {f : Addr} {fd : FuncData} {ps : List Str} {ds : List Value} {dvs : List V} {sp : Sp} {E : XK}
theorem run_g {pins : List (Addr × Obj)} {σ : L2.St} {H : Hp} {s : Shared} {Q : VK} {us : List Value} {vs : List V} (F : FnG X.prog X.w X.K X.mg X.base CX k f fd ps sp) (g : X.A.guards = some []) (hr : Room k X.A) (hb : Binds X.K fd ps ds)
    (hd : Vals dvs ds) (hx : Passes CX X E) (I : Inv X pins σ H s) (r : Vals vs us) (h : sp (vs ++ dvs) H Q E) : wpAny (model X.prog X.w) X.A (call (.ref f) us) (EP X pins σ Q) X.xe s := by
  have all : Vals (vs ++ dvs) (us ++ ds) := r.append hd
  have many : (us ++ ds).length = ps.length := by
    rw [← all.length]
    exact F.arity _ _ _ _ h
  have z := F.goes X.A g X.stack s H ⟨us, []⟩ (us ++ ds) (vs ++ dvs) Q E hr I.env0 (hb s us I.kIn many) all h
  refine wpAny_call (codeAny_mono z ?_)
  intro r s1 hq
  match r, hq with
  | .error e, hq => exact hx pins σ H s e s1 I hq
  | .ok (.ret u), hq => exact I.after hq
  | .ok .next, hq => exact hq.elim
  | .ok .brk, hq => exact hq.elim
  | .ok .cont, hq => exact hq.elim
variable {x : Str} {e : Expr} {es : List Expr} {t : TA} {p pos : Pos}
theorem pe_callG (F : FnG X.prog X.w X.K X.mg X.base CX k f fd ps sp) (g : X.A.guards = some []) (hr : Room k X.A) (hg : Gl X x) (hm : X.mg x = some (.ref f)) (hk : keepIn X.K (.ref f) = true) (hb : Binds X.K fd ps ds) (hd : Vals dvs ds) (hx : Passes CX X E)
    (ha : PA X (e :: es) t) (hdb : (x == ("__debug__" : Str)) = false := by decide) (he : starEach (e :: es) X.env = (false, eval e X.env) :: starEach es X.env := by rfl) (hpl : (backTo pos (starEach es X.env)).any (·.1) = false := by rfl) :
    PE X (.Call (.Name x p) (e :: es) [] pos) (tCall sp dvs E t) := by
  constructor
  intro pins s σ H Q I h
  refine wpAny_Call_Name_kw (ld_glob I hg hm ?_ hdb)
  refine callWith_K (h₀ := X.base) I.ok.mod.kin hk (thn (ha.run pos pins s σ H _ I h) ?_) he hpl
  intro us s1 z
  obtain ⟨vs, H1, I1, r, q⟩ := z
  exact ⟨I1.kIn, run_g F g hr hb hd hx I1 r q⟩
/-- repr of data: None, truths, ints, texts, lists and tuples of these at any depth -/
def rReprD (K : Frag) : List V → Hp → VK → Prop := fun vs H Q => ∃ (a : Addr) (d : PyData), vs = [V.ref a] ∧ Dp K H (.ref a) d ∧ d.showable = true ∧ d.hasDict = false ∧ d.depth ≤ 64 ∧ d.shown.length ≤ sizeLine ∧ Q (.str d.shown) H
theorem cr_reprD (g : X.A.guards = some []) (hu : X.A.units + 66 < cLine) : CallR X (.builtin "repr") (rReprD X.K) := by
  intro pins s σ H vs us Q I r h
  obtain ⟨a, d, rfl, hd, sh, nd, dp, sz, q⟩ := h
  cases r with
  | cons ru rt =>
    cases rt
    obtain ⟨as, rd⟩ := Dp.reads I d _ _ hd ru
    cases ru
    refine repr_of_reads' rd sh (fun z => by rw [nd] at z; cases z) g (by omega) (fun _ _ z => z) (fun h1 u tk keep => ?_) sz
    exact ⟨.str _, H, I.kept keep, ⟨_, rfl⟩, q⟩
end
end Spk

set_option Elab.async false
set_option linter.all false
set_option maxRecDepth 100000
set_option maxHeartbeats 1000000
namespace Spk
open PySem PySem.Spec PyProof.Rows PySem.W L2
/-! ## a law's end, from a promise for entries while nothing is being shown -/
section
variable {P : Program} {w : World} {K : Frag} {mg mb : Str → Option Value} {CX : CXT} {k : Nat} {fa a : Addr} {fd : FuncData} {x : Str} {sp : Sp} {s1 : Shared} {vs : List Value} {ns : List Int}
/-- an abstract heap in which nothing but the script is tracked, if it is no object of the text -/
theorem start_heap (KX : K.In s1.heap) (ha : s1.heap.get? a = some { cls := .type "list", data := .seq vs.toArray }) (hi : IntsAre vs ns) (hl : ns.length ≤ sizeLine) :
    ∃ H : Hp, Only H ∧ SqL K H a (ns.map V.int) ∧ HOk P w H s1.heap ∧ (∀ b, (H b).isSome = true → b = a ∧ K.lookup a = none) := by
  have rv := vals_ints hi
  cases hk : K.lookup a with
  | some o =>
    have same := (KX a o hk).symm.trans ha
    cases same
    have n0 : HOk P w (fun _ => none) s1.heap := by
      intro b u z
      cases z
    have m0 : ∀ b : Addr, ((fun _ => none : Hp) b).isSome = true → b = a ∧ some ({ cls := .type "list", data := .seq vs.toArray } : Obj) = none := by
      intro b z
      cases z
    have q0 : SqL K (fun _ => none) a (ns.map V.int) := by
      refine Or.inr ⟨_, vs.toArray, _, hk, rfl, rfl, rfl, ?_, ?_⟩
      · rw [List.size_toArray, hi.length]
        exact hl
      · simpa using rv
    exact ⟨fun _ => none, fun _ => Or.inl rfl, q0, n0, m0⟩
  | none =>
    have one : ∀ b (u : HO), (if b = a then some (HO.frz { cls := .type "list", data := .seq vs.toArray } (.lst (ns.map V.int))) else none) = some u → b = a ∧ u = .frz { cls := .type "list", data := .seq vs.toArray } (.lst (ns.map V.int)) := by
      intro b u z
      split at z
      · rename_i e
        exact ⟨e, (Option.some.inj z).symm⟩
      · cases z
    refine ⟨fun b => if b = a then some (.frz { cls := .type "list", data := .seq vs.toArray } (.lst (ns.map V.int))) else none, fun b => ?_, Or.inl (Or.inr ⟨{ cls := .type "list", data := .seq vs.toArray }, if_pos rfl⟩), fun b u z => ?_, fun b z => ?_⟩
    · show (if b = a then _ else _) = _ ∨ _
      split
      · exact .inr ⟨_, _, if_pos (by assumption)⟩
      · exact .inl rfl
    · obtain ⟨rfl, rfl⟩ := one b u z
      refine ⟨ha, ?_, vs, _, rv, ha⟩
      rw [List.length_map]
      exact hl
    · obtain ⟨u, e⟩ := Option.isSome_iff_exists.mp z
      exact ⟨(one b u e).1, rfl⟩
/-- the law's promise at the heap behind the top -/
theorem law_g (KX : K.In s1.heap) (hns : s1.heap.Ns mainGlobals mg) (hb : s1.heap.Ns builtinsNs mb) (hbb : ∀ x : Str, x ≠ "__name__" → mb x = bootBuiltins x) (hlim : s1.heap.NoLimit) (hg : s1.gens = #[])
    (ha : s1.heap.get? a = some { cls := .type "list", data := .seq vs.toArray }) (hi : IntsAre vs ns) (hl : ns.length ≤ sizeLine) (hr : Room k callerA)
    (F : ∀ base : Heap, K.In base → base.Ns mainGlobals mg → FnG P w K mg base CX k fa fd [x] sp) (bi : ∀ (s : Shared) (u : Value), BindsTo s fd ⟨[u], []⟩ [(x, u)])
    (hsp : ∀ H : Hp, Only H → SqL K H a (ns.map V.int) → sp [.ref a] H (fun v _ => v = .bl true) fun _ _ _ => False) (hCX : ∀ H e s2, CX [] H s1 (fun _ _ _ => False) e s2 → False) :
    codeAny (model P w) callerA (.call (.ref fa) ⟨[.ref a], []⟩) (fun r s2 => r = .ok (.ret (.bool true)) ∧ OldK s1.heap s2.heap ∧ s2.os = s1.os ∧ AllBare s2.gens) s1 := by
  obtain ⟨H, only, sq, hok, mine⟩ := start_heap (P := P) (w := w) KX ha hi hl
  have off : ∀ {b : Addr} {o : Obj}, s1.heap.get? b = some o → H b = none → (hidT s1.heap H).get? b = some o := fun e n => hidT_get e n
  have free : ∀ {b : Addr}, (b = a → K.lookup a = none → False) → H b = none := by
    intro b no
    cases q : H b with
    | none => rfl
    | some u =>
      have z := mine b (by rw [q] <;> rfl)
      exact (no z.1 z.2).elim
  have dicts : ∀ {b : Addr} {o : Obj} {es : Array DictEntry} {ep : Nat}, s1.heap.get? b = some o → o.data = .dict es ep → H b = none := by
    intro b o es ep e d
    refine free fun z _ => ?_
    rw [z, ha] at e
    cases e
    cases d
  have names : ∀ {b : Addr} {m : Str → Option Value}, s1.heap.Ns b m → (hidT s1.heap H).Ns b m := by
    intro b m z
    obtain ⟨o, es, ep, e, d, r⟩ := z
    exact ⟨o, es, ep, off e (dicts e d), d, r⟩
  have inB : K.In (hidT s1.heap H) := by
    intro b o e
    refine off (KX b o e) (free fun z n => ?_)
    rw [z, n] at e
    cases e
  have mod : Mod K mg (hidT s1.heap H) := by
    obtain ⟨mc, h1, h2⟩ := hlim
    exact ⟨inB, names hns, ⟨mb, names hb, hbb⟩, mc, names h1, h2⟩
  have e0 : Env0 P w K mg (hidT s1.heap H) callerA [] s1 H :=
    ⟨rfl, mod, fun b o e => of_hidT e, Nat.le_of_eq (hidT_size _ _), trivial, fun b z => (List.not_mem_nil z).elim, hok, .of_eq hg⟩
  have z := (F _ inB (names hns)).goes callerA rfl [] s1 H ⟨[.ref a], []⟩ [.ref a] [.ref a] _ _ hr e0 (bi s1 (.ref a)) (.cons rfl .nil) (hsp H only sq)
  refine codeAny_mono z ?_
  intro r s2 q
  match r, q with
  | .error e, q => exact (hCX H e s2 q).elim
  | .ok .next, q => exact q.elim
  | .ok .brk, q => exact q.elim
  | .ok .cont, q => exact q.elim
  | .ok (.ret u), q =>
    obtain ⟨v, H2, os, gens, un, hok2, rv, e⟩ := q
    cases (show v = .bl true from e)
    cases (show u = Value.bool true from rv)
    refine ⟨rfl, OldK.of_keep ?_, os, gens⟩
    intro b o e
    rcases only b with n | ⟨ob, xs, n⟩
    · exact un.keep b o e n (fun z => List.not_mem_nil z) (fun z => List.not_mem_nil z)
    · have e1 := (hok b _ n).1
      have e2 := (hok2 b _ (un.frzs b ob _ n)).1
      rw [e] at e1
      cases e1
      exact e2
end
theorem walk_g {l : OpenLaw} {n k : Nat} {q : Program} {loose : List Str} {XP : (Str → Option Value) → Heap → Prop} {YP : World → Heap → Prop} {d : DefRec} {CX : CXT} {x : Str} (hn : l.most = some n) (hn2 : n ≤ sizeLine) (hdf : d.params.defaults = [])
    (hr : Room k callerA)
    (F : ∀ (w : World) (mg : Str → Option Value) (fa : Addr) (h : Heap), YP w h → h.Ns mainGlobals mg → mg d.name = some (.ref fa) → ∃ (K : Frag) (fd : FuncData) (sp : Sp), K.In h ∧ (∀ (s : Shared) (u : Value), BindsTo s fd ⟨[u], []⟩ [(x, u)]) ∧
        (∀ (H : Hp) (a : Addr) (ns : List Int), ns.length ≤ n → Only H → SqL K H a (ns.map V.int) → sp [.ref a] H (fun v _ => v = .bl true) fun _ _ _ => False) ∧
        ∀ base : Heap, K.In base → base.Ns mainGlobals mg → FnG l.prog w K mg base CX k fa fd [x] sp)
    (hCX : ∀ (H : Hp) (s : Shared) (e : Value) (s2 : Shared), CX [] H s (fun _ _ _ => False) e s2 → False) : WalkO q loose XP YP l.row.toRowW d [] (fun f vs => PySem.call f vs) := by
  refine Att.attach_call hn hdf ?_
  intro w s0 s1 mg mb fa o pm cd doc a vs ns G Y _ _ _ hmg hobj hints hlen hg
  obtain ⟨K, fd, sp, KX, bi, hsp, hF⟩ := F w mg fa _ Y G.T.g hmg
  exact law_g KX G.T.g G.T.b G.T.builtins G.T.nolimit hg hobj hints (Nat.le_trans hlen hn2) hr hF bi (fun H only sq => hsp H a ns hlen only sq) fun H e s2 => hCX H s1 e s2
end Spk

set_option Elab.async false
set_option linter.all false
set_option maxRecDepth 100000
set_option maxHeartbeats 1000000
namespace Spk
open PySem PySem.Spec PyProof.Rows PySem.W L2 HT
/-! ## t[::-1] of a tuple -/
section
variable {prog : Program} {w : World} {A : Around} {E : Value → Shared → Prop} {s : Shared}
theorem adjust_rev (n : Nat) : Builtin.Slice.sliceAdjust none none (-1) (n : Int) = ((n : Int) - 1, -1) := by
  unfold Builtin.Slice.sliceAdjust
  have h1 : ((-1 : Int) < 0) := by decide
  simp only [h1, if_true]
theorem places_rev (n : Nat) : Builtin.Slice.slicePlaces ((n : Int) - 1) (-1) (-1) = n := by
  unfold Builtin.Slice.slicePlaces
  have h1 : ¬ ((-1 : Int) > 0) := by decide
  have h2 : (- (-1 : Int)) = 1 := by decide
  simp only [h1, if_false, h2, Int.ediv_one]
  split <;> omega
theorem sliceApplied_rev {sl : Addr} {vl vu vs : Value} {n : Nat} {Q : Int × Int × Nat → Shared → Prop} (hs : s.heap.IsSliceOf sl vl vu vs) (pl : IsPart vl none) (pu : IsPart vu none) (ps : IsPart vs (some (-1)))
    (h : Q ((n : Int) - 1, -1, n) s) : wpAny (model prog w) A (Builtin.Slice.sliceApplied (.ref sl) (pure (n : Int))) Q E s := by
  obtain ⟨os, hos, hcs, hds⟩ := id hs
  unfold Builtin.Slice.sliceApplied Builtin.Slice.sliceFields
  refine wpAny_bind (wpAny_bind (wpAny_field hos hds (x := vl) rfl (wpAny_bind (wpAny_field hos hds (x := vu) rfl (wpAny_bind (wpAny_field hos hds (x := vs) rfl (wpAny_pure ?_)))))))
  refine wpAny_bind (slicePart_ ps ?_)
  show wpAny _ _ (if ((-1 : Int) == 0) = true then _ else _) _ _ s
  rw [if_neg (by decide)]
  refine wpAny_bind (slicePart_ pl (wpAny_bind (slicePart_ pu (wpAny_bind (wpAny_pure ?_)))))
  show wpAny _ _ (match Builtin.Slice.sliceAdjust none none (-1) (n : Int) with | (lo, hi) => pure (lo, (-1 : Int), Builtin.Slice.slicePlaces lo hi (-1))) _ _ s
  rw [adjust_rev n]
  show wpAny _ _ (pure ((n : Int) - 1, (-1 : Int), Builtin.Slice.slicePlaces ((n : Int) - 1) (-1) (-1))) _ _ s
  rw [places_rev]
  exact wpAny_pure h
theorem fm_congr {α β : Type} {f g : α → Option β} : ∀ {l : List α}, (∀ x, x ∈ l → f x = g x) → l.filterMap f = l.filterMap g
  | [], _ => rfl
  | a :: l, h => by
    have h1 := h a (by simp)
    have h2 := fm_congr (f := f) (g := g) (l := l) fun x hx => h x (by simp [hx])
    simp only [List.filterMap_cons, h1, h2]
theorem pick_rev (xs : Array Value) : ((List.range xs.size).filterMap fun (m : Nat) => xs[(((xs.size : Nat) : Int) - 1 + (m : Int) * (-1)).toNat]?).toArray = xs.toList.reverse.toArray := by
  have e : ((List.range xs.size).filterMap fun (m : Nat) => xs[(((xs.size : Nat) : Int) - 1 + (m : Int) * (-1)).toNat]?) = ((List.range xs.size).map fun k => xs.size - 1 - k).filterMap (xs[·]?) := by
    rw [List.filterMap_map]
    refine fm_congr fun m hm => ?_
    have := List.mem_range.mp hm
    have e2 : (((xs.size : Nat) : Int) - 1 + (m : Int) * (-1)).toNat = xs.size - 1 - m := by omega
    rw [e2]
    rfl
  rw [e, krv_range, List.filterMap_reverse, krv_all]
theorem getItem_tuple_rev {t sl : Addr} {items : Array Value} {vl vu vs : Value} {Q : Value → Shared → Prop} (ht : IsTup s.heap t items) (hs : s.heap.IsSliceOf sl vl vu vs) (pl : IsPart vl none) (pu : IsPart vu none) (ps : IsPart vs (some (-1)))
    (h : Q (.ref s.heap.objs.size) { s with heap := s.heap.push { cls := .type "tuple", data := .seq items.toList.reverse.toArray } })
    (hsz : items.size ≤ sizeLine) : wpAny (model prog w) A (getItem (.ref t) (.ref sl)) Q E s := by
  have htake : sizeOk (.seq items.toList.reverse.toArray) := by
    show items.toList.reverse.toArray.size ≤ sizeLine
    rw [List.size_toArray, List.length_reverse, Array.length_toList]
    exact hsz
  obtain ⟨os, hos, hcs, hds⟩ := id hs
  have hTs : s.TypeIs (.ref sl) "slice" := ⟨os, hos, hcs⟩
  unfold getItem
  try with_reducible refine wpAny_holding ?_
  first | refine wpAny_bind (wpAny_pure ?_) | skip
  refine wpAny_bind (wpAny_sequenceKey ht.typeIs (by decide) ?_)
  refine wpAny_bind (wpAny_callSpecial?_slot (name := Str.ofString "__getitem__") ht.typeIs PyProof.Rows.slot_tuple_getitem
    (wpAny_call_entry PyProof.Rows.slot_tuple_getitem ht.typeIs entry_tuple_getitem ?_ (args_tuple_getitem _ _)))
  show wpAny _ _ (Builtin.Tuple.tupleItemsOf (.ref t) >>= _) _ _ s
  refine wpAny_bind (tupleItemsOf_ ht ?_)
  refine wpAny_bind (wpAny_typeOf hTs ?_)
  rw [if_pos (by decide)]
  refine wpAny_bind (sliceApplied_rev hs pl pu ps ?_)
  have hno : ¬ ((((items.size : Nat) : Int) - 1 == 0 && (-1 : Int) == 1 && items.size == items.size) = true) := by
    intro q
    rw [Bool.and_eq_true, Bool.and_eq_true] at q
    exact absurd q.1.2 (by decide)
  show wpAny _ _ (if (((items.size : Nat) : Int) - 1 == 0 && (-1 : Int) == 1 && items.size == items.size) = true then _ else _) _ _ s
  rw [if_neg hno, pick_rev]
  first
    | exact wpAny_bind (m := Builtin.Tuple.tupleExact _) (wpAny_newObj_type (wpAny_pure ⟨_, rfl, wpAny_pure h⟩) htake)
    | exact wpAny_bind (m := Builtin.Tuple.tupleExact _) (wpAny_newObj_type (wpAny_bind (wpAny_pure (wpAny_pure ⟨_, rfl, wpAny_pure h⟩))) htake)
    | exact wpAny_bind (wpAny_bind (m := Builtin.Tuple.tupleExact _) (wpAny_newObj_type (wpAny_pure (wpAny_pure ⟨_, rfl, wpAny_pure h⟩)) htake))
    | exact wpAny_bind (wpAny_bind (m := Builtin.Tuple.tupleExact _) (wpAny_newObj_type (wpAny_pure ⟨_, rfl, wpAny_pure h⟩) htake))
end
section
variable {X : Cx}
def tRevT (K : PySem.W.Frag) (te : TE) : TE := fun σ H Q => te σ H fun x H1 => ∃ a xs, x = .ref a ∧ SqT K H1 a xs ∧ ∀ p, H1 p = none → Q (.ref p) (upd H1 p (.tup xs.reverse))
theorem pe_revT {e : Expr} {te : TE} {k : Nat} {p1 p2 p3 pos : Pos} (he : PE X e te) : PE X (.Subscript e (.Slice none none (some (.UnaryOp .USub (.Constant (.int 1) k p1) p2)) p3) pos) (tRevT X.K te) := by
  refine ⟨fun pins s σ H Q I h => ?_⟩
  refine Subscript_ (thn (he.run pins s σ H _ I h) fun v s1 ⟨x, H1, I1, r1, q1⟩ => ?_)
  obtain ⟨a, xs, ex, hx, q⟩ := q1
  subst ex
  cases r1
  have hst : PO X (some (.UnaryOp .USub (.Constant (.int 1) k p1) p2)) (tPart (tUn (rU fun i => .int (-i)) (tC (.int 1)))) := po_some (pe_un un_neg pe_int)
  refine wpAny_Slice (thn (po_none.run pins s1 σ H1 (fun o H2 => o = none ∧ H2 = H1) I1 ⟨rfl, rfl⟩) fun vl s2 ⟨l, H2, I2, pl, el, e2⟩ => ?_)
  subst el e2
  refine thn (po_none.run pins s2 σ H2 (fun o H3 => o = none ∧ H3 = H2) I2 ⟨rfl, rfl⟩) fun vu s3 ⟨u, H3, I3, pu, eu, e3⟩ => ?_
  subst eu e3
  refine thn (hst.run pins s3 σ H3 (fun o H4 => o = some (-1) ∧ H4 = H3) I3 ⟨1, rfl, -1, rfl, rfl, rfl⟩) fun vs s4 ⟨o, H4, I4, ps, eo, e4⟩ => ?_
  subst eo e4
  have I5 : Inv X pins σ H4 { s4 with heap := s4.heap.push { cls := .type "slice", data := .fields #[vl, vu, vs] } } := I4.kept (t' := s4.toks) fun b ob q => Heap.get?_push_of_some _ q
  obtain ⟨its, r, ht, hz⟩ := I5.tuple hx
  have hlen := r.length
  show wpAny (model X.prog X.w) X.A (subscriptTail e (.Slice none none (some (.UnaryOp .USub (.Constant (.int 1) k p1) p2)) p3) (.ref a) (.ref s4.heap.objs.size)) (EP X pins σ Q) X.xe { s4 with heap := s4.heap.push { cls := .type "slice", data := .fields #[vl, vu, vs] } }
  refine tail_any (ops := [.ref a, .ref s4.heap.objs.size]) ht.typeIs (PyProof.Rows.slot_tuple_getitem.lookup) ?_ (by with_unfolding_all rfl)
  refine getItem_tuple_rev ht (Heap.IsSliceOf.new _ vl vu vs) pl pu ps ?_ (by rw [List.size_toArray]; omega)
  refine ⟨.ref _, _, I5.laid (t' := s4.toks) (o := .tup xs.reverse) (fun b ob q => Heap.get?_push_of_some _ q) (Nat.le_refl _) ?_, rfl, q _ (I5.hok.fresh (Nat.le_refl _))⟩
  exact ⟨by rw [List.length_reverse]; exact hz, _, r.reverse, IsTup.new _ _⟩
end
end Spk

set_option Elab.async false
set_option linter.all false
set_option maxRecDepth 100000
set_option maxHeartbeats 1000000
namespace Spk
open PySem PySem.Spec PyProof.Rows PySem.W L2
/-! ## def f(a, *b, c, d = ..): keywords that lack -/
/-- keywords that lack are read, then fin -/
def KwTo {α : Type} (D : Addr) : List (Str × Value) → Sem α → Sem α → Prop
  | [], t, fin => t = fin
  | q :: l, t, fin => ∃ (β γ : Type) (k1 : Option Value → Sem β) (k2 : β → Sem γ) (k3 : γ → Sem α) (a : β), t = ((nsGet D q.1 >>= k1) >>= k2) >>= k3 ∧ k1 (some q.2) = pure a ∧ KwTo D l (k2 a >>= k3) fin
theorem KwTo.run {α : Type} {K : PySem.W.Frag} {M : Model} {h : Heap} {D : Addr} {A : Around} {Q : α → Shared → Prop} {E : Value → Shared → Prop} {s : Shared} (X : K.In h) (kp : ∀ b o, h.get? b = some o → s.heap.get? b = some o) :
    ∀ {l : List (Str × Value)} {t fin : Sem α}, (∀ q ∈ l, PySem.W.nsIn K D q.1 = some (some q.2)) → KwTo D l t fin → wpAny M A fin Q E s → wpAny M A t Q E s
  | [], t, fin, _, e, z => by
    have e : t = fin := e
    rw [e]
    exact z
  | q :: l, t, fin, hl, e, z => by
    obtain ⟨β, γ, k1, k2, k3, a, e1, e2, e3⟩ := e
    have l1 : PySem.W.Looks M h (nsGet D q.1 >>= k1) a := (PySem.W.looks_nsIn X (hl q (List.mem_cons_self ..))).andThen (PySem.W.Looks.of_pure e2)
    rw [e1, bind_assoc]
    exact wpAny_bind (l1 A _ E s kp (KwTo.run X kp (fun p hp => hl p (List.mem_cons_of_mem _ hp)) e3 z))
section
variable {P : Program} {w : World} {K : Frag} {mg : Str → Option Value} {base : Heap} {name qual : Str} {params : Arguments} {body : List Stmt} {scope : Scope} {kws ms : List (Str × V)} {f : Addr} {fd : FuncData} {N ps ks as : List Str} {sp : Sp} {CX : CXT} {k : Nat}
theorem fn_starKD {pv : Str} (F : FunD K name qual params body scope [] kws f fd) (g : {α : Type} → List α → List α → List α) (S : FnScope N (ps ++ as ++ [pv]) scope) (hCX : StX.CXUp CX) (hk : kws ≠ []) (hms : ∀ q ∈ ms, q ∈ kws)
    (hrel : ∀ {mz zs : List V} {mv ws : List Value}, Vals mz mv → Vals zs ws → Vals (g zs mz) (g ws mv))
    (hlen : ∀ (α : Type) (zs mz : List α), zs.length = ks.length → mz.length = ms.length → (g zs mz).length = as.length)
    (hb : ∀ (D : Addr) (doc pm : Value) (an : Option Addr) (cdv ct : Value) (us rest mv ws : List Value), us.length = ps.length → ws.length = ks.length → mv.length = ms.length →
      KwTo D ((ms.map (·.1)).zip mv) (bindArgs (fnOf name qual params body scope .none (.ref D) doc pm an cdv ct) ⟨us ++ rest, ks.zip ws⟩) (newTuple rest >>= fun t => pure ((ps ++ as).zip (us ++ g ws mv) ++ [(pv, t)])))
    (hbody : ∀ (cdv : Value) (A : Around) (outer : List Env) (s : Shared) (H : Hp) (vs : List V) (Q : VK) (E : XK), Room k (A.deeper (envOfC qual scope s.heap.objs.size f cdv)) → sp vs H Q E →
      ∃ t, PSs (cxOf CX P w K mg base N qual scope f cdv A outer s H E) body t ∧ t { nx := fun _ H1 => Q .non H1, rt := Q } (L2.start N vs) H) :
    FnK P w K mg base CX (k + 1) f ks (fun vs zs H Q E => ∃ ws rest, vs = ws ++ rest ∧ ws.length = ps.length ∧ rest.length ≤ sizeLine ∧ ∀ p o, H p = Option.none → o.cls = .type "tuple" → o.dict = Option.none → sp (ws ++ g zs (ms.map (·.2)) ++ [V.ref p]) (upd H p (.frz o (.tup rest))) Q E) := by
  obtain ⟨oc, od, dV, kV, doc, pm, an, cdv, ct, osl, rfl, lk, hcd, hD, hK⟩ := F.ex
  rcases hD with ⟨_, rfl⟩ | ⟨e, _⟩
  rotate_left
  · exact absurd rfl e
  rcases hK with e | ⟨D, rfl, hq⟩
  · exact absurd e hk
  obtain ⟨mv, hl0, rk, hks⟩ := kwd_vals (ms := ms) fun q hm => hq q (hms q hm)
  intro A outer s H us wz vs zs Q E hr e0 r rz lz hsp
  obtain ⟨ws, rest, ev, hl, hz, hq⟩ := hsp
  subst ev
  obtain ⟨u1, u2, eu, r1, r2⟩ := StX.vals_split r
  subst eu
  have fresh : H s.heap.objs.size = Option.none := e0.hok.fresh (Nat.le_refl _)
  have l1 : u1.length = ps.length := by
    rw [← r1.length]
    exact hl
  have l2 : u2.length ≤ sizeLine := by
    rw [← r2.length]
    exact hz
  have l3 : wz.length = ks.length := by
    rw [← rz.length]
    exact lz
  have eb := hb D doc pm an cdv ct u1 u2 mv wz l1 l3 hl0
  have gl1 : (g wz mv).length = as.length := hlen _ _ _ l3 hl0
  have gl2 : (g zs (ms.map (·.2))).length = as.length := hlen _ _ _ lz (by simp)
  refine StX.run_bnd lk hcd S hr e0 (G := fun xs H2 => ∃ p o, H p = Option.none ∧ o.cls = .type "tuple" ∧ o.dict = Option.none ∧ xs = ws ++ g zs (ms.map (·.2)) ++ [V.ref p] ∧ H2 = upd H p (.frz o (.tup rest))) ?_ ?_
  · intro A2 Ex Q2 h
    have X : K.In s.heap := fun a o e => (e0.bs a o (e0.mod.kin a o e)).1
    refine KwTo.run X (fun _ _ q => q) hks eb (wpAny_bind (wpAny_newTuple (wpAny_pure ?_) l2))
    have new : ObjOk P w (upd H s.heap.objs.size (.frz ({ cls := .type "tuple", data := .seq u2.toArray } : Obj) (.tup rest))) (s.heap.push ({ cls := .type "tuple", data := .seq u2.toArray } : Obj)) s.heap.objs.size (.frz ({ cls := .type "tuple", data := .seq u2.toArray } : Obj) (.tup rest)) := ⟨Heap.get?_push_size _ rfl, hz, u2, r2, ⟨_, Heap.get?_push_size _ rfl, rfl, _, rfl⟩⟩
    have un := StX.un_laid (fs := frs outer) (s := s) (o := ({ cls := .type "tuple", data := .seq u2.toArray } : Obj)) (u := .frz ({ cls := .type "tuple", data := .seq u2.toArray } : Obj) (.tup rest)) fresh
    have z := h _ _ (ws ++ g zs (ms.map (·.2)) ++ [V.ref s.heap.objs.size]) (u1 ++ g wz mv ++ [Value.ref s.heap.objs.size]) (StX.env0_laid e0 new) un rfl (fun e s2 => hCX outer s H _ _ E e s2 un (fun b o q => Heap.get?_push_of_some _ q) rfl) ((r1.append (hrel rk rz)).append (.cons rfl .nil))
      (by simp [hl, gl2]) ⟨_, _, fresh, rfl, rfl, rfl, rfl⟩
    rw [List.zip_append (by simp [l1, gl1])] at z
    exact z
  · intro s2 H2 xs gg hr2
    obtain ⟨p, o, hp, oc, od, ex, eH⟩ := gg
    subst ex eH
    exact hbody cdv A outer s2 _ _ Q E hr2 (hq p o hp oc od)
end
end Spk

set_option Elab.async false
set_option linter.all false
set_option maxRecDepth 100000
set_option maxHeartbeats 1000000
namespace Spk
open PySem L2
def top (i : Nat) : Stmt := PySem.Challenge.pw_speaklast_k09_tables_and_their_columns.main.body.getD i (.Pass ⟨0, 0, 0, 0⟩)
local macro_rules | `(tactic| walk_at "rd") => `(tactic| repeat (first
  | with_reducible refine i_seq ?_ | with_reducible refine i_asg ?_ | with_reducible refine i_ret ?_ | with_reducible refine i_ifS ?_ | with_reducible refine i_if ?_
  | with_reducible refine i_for ?_ | with_reducible refine i_iL ?_ | with_reducible refine i_iT ?_ | with_reducible refine i_ckw ?_ | with_reducible refine i_cm ?_ | with_reducible refine And.intro (rfl : V.ref _ = V.ref _) ?_ | with_reducible refine i_rng1 ?_ | with_reducible refine i_bm ?_ | with_reducible refine i_bm0 ?_
  | with_reducible refine i_drop ?_ | with_reducible refine i_next ?_
  | with_reducible refine i_var rfl ?_ | with_reducible refine i_c ?_ | with_reducible refine i_op ?_ | with_reducible refine i_un ?_ | with_reducible refine i_name ?_
  | with_reducible refine i_rI0 ?_ | with_reducible refine i_rU ?_ | with_reducible refine i_rEq rfl ?_ | with_reducible refine i_rNe rfl ?_
  | with_reducible refine i_test ?_ | with_reducible refine i_tB ?_ | with_reducible refine i_and ?_ | with_reducible refine i_or ?_ | with_reducible refine i_not ?_
  | with_reducible refine i_andV ?_ | with_reducible refine i_orV ?_ | with_reducible refine i_notV ?_
  | with_reducible refine i_cons ?_ | with_reducible refine i_nil ?_ | with_reducible refine i_cb ?_ | with_reducible refine i_call ?_ | with_reducible refine i_bl ?_
  | with_reducible refine i_tup ?_ | with_reducible refine i_lst ?_ | with_reducible refine i_par ?_ | with_reducible refine i_gcons ?_ | with_reducible refine i_gnil ?_
  | with_reducible refine And.intro (rfl : V.non = V.non) ?_ | with_reducible refine i_ixT (by assumption) rfl ?_ | with_reducible refine i_ixL (by assumption) rfl ?_ | with_reducible refine i_gtup (by assumption) rfl ?_
  | with_reducible refine i_gsub ?_
  | with_reducible refine Or.inl (Exists.intro _ (And.intro (rfl : [V.int _] = [V.int _]) ?_)) | with_reducible refine Exists.intro _ (And.intro (rfl : [V.int _] = [V.int _]) ?_)
  | with_reducible refine Or.inr (Exists.intro _ (And.intro (rfl : [V.bl _] = [V.bl _]) ?_))
  | with_reducible refine Exists.intro _ (Exists.intro _ (And.intro (rfl : [V.int _, V.int _] = [V.int _, V.int _]) ?_))
  | with_reducible refine Exists.intro _ (Exists.intro _ (And.intro (rfl : [V.ref _] = [V.ref _]) (And.intro (Or.inl (SqL.of (by assumption))) ?_)))
  | with_reducible refine i_rI (show (0 : Int) < _ by assumption) ?_ | with_reducible refine i_rI (show (0 : Int) < _ by decide) ?_
  | with_reducible refine i_rI (pow_ok (Nat.le_of_ble_eq_true rfl) (Nat.le_of_ble_eq_true rfl)) ?_
  | with_reducible refine i_rI (cmulL rfl) ?_))
theorem _root_.L2.Same.mut {H0 H : Hp} {d : Addr} {o : HO} (e : Same H0 H) (h : H0 d = none) : Same H0 (upd H d o) := fun b u hb => by
  rw [upd_ne (ne_of_none hb h)]
  exact e b u hb
/-! ### the pen: what is drawn from the script -/
def penny : HO → Bool
  | .lst [.ref _, .int _, .int _] => true
  | _ => false
/-- all but a pen is as it was -/
def Keep (H H' : Hp) : Prop := ∀ b o, penny o = false → H b = some o → H' b = some o
theorem Keep.refl (H : Hp) : Keep H H := fun _ _ _ h => h
theorem Keep.trans {H H1 H2 : Hp} (a : Keep H H1) (b : Keep H1 H2) : Keep H H2 := fun c o p h => b c o p (a c o p h)
theorem Same.keep {H H' : Hp} (e : Same H H') : Keep H H' := fun b o _ h => e b o h
def Pen (H : Hp) (p L : Addr) (n : Nat) : Prop := ∃ (ns : List Int) (at_ lg : Int), H p = some (.lst [.ref L, .int at_, .int lg]) ∧ H L = some (.lst (ns.map V.int)) ∧ ns.length ≤ 63 ∧ 0 ≤ at_ ∧ at_ ≤ n ∧ 0 ≤ lg
theorem Pen.up {H H' : Hp} {p L : Addr} {n : Nat} (e : Same H H') (h : Pen H p L n) : Pen H' p L n := by
  obtain ⟨ns, a, l, h1, h2, r⟩ := h
  exact ⟨ns, a, l, e _ _ h1, e _ _ h2, r⟩
theorem Pen.mono {H : Hp} {p L : Addr} {n m : Nat} (h : Pen H p L n) (e : n ≤ m) : Pen H p L m := by
  obtain ⟨ns, a, l, h1, h2, h3, h4, h5, h6⟩ := h
  exact ⟨ns, a, l, h1, h2, h3, h4, by omega, h6⟩
theorem penny_ints (ns : List Int) : penny (.lst (ns.map V.int)) = false := by
  cases ns <;> rfl
/-- a pen is written anew -/
theorem pen_set {H : Hp} {p L : Addr} {ns : List Int} {a l a' l' : Int} {n : Nat} (hp : H p = some (.lst [.ref L, .int a, .int l])) (hL : H L = some (.lst (ns.map V.int))) (h1 : ns.length ≤ 63) (h2 : 0 ≤ a') (h3 : a' ≤ n) (h4 : 0 ≤ l') :
    Keep H (upd H p (.lst [.ref L, .int a', .int l'])) ∧ Pen (upd H p (.lst [.ref L, .int a', .int l'])) p L n := by
  refine ⟨fun b o hb e => ?_, ns, a', l', upd_same, ?_, h1, h2, h3, h4⟩
  · have : b ≠ p := fun z => by
      subst z
      rw [hp] at e
      cases e
      simp [penny] at hb
    rw [upd_ne this]
    exact e
  · have : L ≠ p := fun z => by
      subst z
      rw [hp] at hL
      have := penny_ints ns
      rw [← HO.lst.inj (Option.some.inj hL)] at this
      simp [penny] at this
    rw [upd_ne this]
    exact hL
theorem pen_put {H : Hp} {p L : Addr} {ns : List Int} {a l a' l' : Int} (hp : H p = some (.lst [.ref L, .int a, .int l])) (hL : H L = some (.lst (ns.map V.int))) :
    ∃ H1, upd H p (.lst [.ref L, .int a', .int l']) = H1 ∧ Keep H H1 ∧ H1 p = some (.lst [.ref L, .int a', .int l']) ∧ H1 L = some (.lst (ns.map V.int)) := by
  have : L ≠ p := fun z => by
    subst z
    rw [hp] at hL
    have := penny_ints ns
    rw [← HO.lst.inj (Option.some.inj hL)] at this
    simp [penny] at this
  refine ⟨_, rfl, fun b o hb e => ?_, upd_same, by rw [upd_ne this]; exact hL⟩
  have : b ≠ p := fun z => by
    subst z
    rw [hp] at e
    cases e
    simp [penny] at hb
  rw [upd_ne this]
  exact e
theorem dps_ints {K : PySem.W.Frag} {H : Hp} : ∀ ns : List Int, DpAll K H (ns.map V.int) (ns.map PyData.int)
  | [] => .nil
  | n :: ns => .cons (.int n) (dps_ints ns)
theorem eqv_ints : ∀ ns ms : List Int, PyData.eqvAll (ns.map PyData.int) (ms.map PyData.int) = decide (ns = ms)
  | [], [] => by simp [PyData.eqvAll]
  | [], _ :: _ => by simp [PyData.eqvAll]
  | _ :: _, [] => by simp [PyData.eqvAll]
  | a :: ns, b :: ms => by
    simp only [List.map_cons, PyData.eqvAll, PyData.eqv, eqv_ints ns ms, List.cons.injEq]
    rw [Bool.eq_iff_iff]
    simp
theorem lay_ints : ∀ ns : List Int, PyData.canLayAll0 (ns.map PyData.int) = true
  | [] => by simp [PyData.canLayAll0]
  | n :: ns => by simp [PyData.canLayAll0, PyData.canLay0, lay_ints ns]
theorem dep_ints : ∀ ns : List Int, PyData.depthAll (ns.map PyData.int) ≤ 1
  | [] => by simp [PyData.depthAll]
  | n :: ns => by
    have := dep_ints ns
    simp only [List.map_cons, PyData.depthAll, PyData.depth]
    omega
theorem shaped_ints (ns : List Int) : SeqAt.shaped (.list (ns.map PyData.int)) = true := by
  have h1 := lay_ints ns
  have h2 := dep_ints ns
  have h3 : (PyData.list (ns.map PyData.int)).depth ≤ 2 := by
    simp only [PyData.depth]
    omega
  unfold SeqAt.shaped
  rw [Bool.and_eq_true, decide_eq_true_eq]
  exact ⟨by simpa only [PyData.canLay0] using h1, by omega⟩
theorem mul_bd {a b A B : Int} (h1 : 0 ≤ a) (h2 : a ≤ A) (h3 : 0 ≤ b) (h4 : b ≤ B) : 0 ≤ a * b ∧ a * b ≤ A * B :=
  ⟨Int.mul_nonneg h1 h3, Int.mul_le_mul h2 h4 h3 (Int.le_trans h1 h2)⟩
section
variable {P : Program} {w : World} {K : PySem.W.Frag} {mg : Str → Option Value} {base : Heap}
abbrev s_pen : Stmt := top 13
theorem sc_pen : FnScope ["_law_script"] ["_law_script"] (defScope s_pen) := ⟨rfl, rfl, rfl, by decide +kernel, rfl, by decide +kernel, by decide +kernel⟩
def sp_pen (K : PySem.W.Frag) : Sp := fun vs H Q _ => ∃ a, ∃ ns : List Int, vs = [.ref a] ∧ SqL K H a (ns.map V.int) ∧ ns.length ≤ 63 ∧ ∀ p L H', Same H H' → Pen H' p L 0 → Q (.ref p) H'
theorem cut_ints (ns : List Int) (lo hi : Option Int) : ∃ ns' : List Int, cutV (ns.map V.int) lo hi = ns'.map V.int ∧ ns'.length ≤ ns.length := by
  refine ⟨(ns.drop (HT.sIx (ns.map V.int).length 0 lo)).take (HT.sIx (ns.map V.int).length (ns.map V.int).length hi - HT.sIx (ns.map V.int).length 0 lo), ?_, ?_⟩
  · unfold cutV
    rw [List.map_take, List.map_drop]
  · rw [List.length_take, List.length_drop]
    omega
theorem ok_pen {f : Addr} {fd : FuncData} (F : Fun K "_law_pen" "_law_pen" s_pen f fd) (z_list : mg "list" = none) : FnOk P w K mg base CX0 1 f fd ["_law_script"] (sp_pen K) := by
  refine F.ok sc_pen (fun vs H Q E h => ?_) (fun cdv A outer s H vs Q E hr h => ?_)
  · obtain ⟨a, ns, rfl, _⟩ := h
    rfl
  · obtain ⟨a, ns, rfl, ha, hz, q⟩ := h
    refine ⟨_, (pss_one (ps_ret (pe_lst (pa_cons (pe_callTy call_list_of (by rfl) z_list (by decide +kernel) (pa_cons (pe_slice sl_list (pv 0) po_none (po_some pe_int)) pa_nil)) (pa_cons pe_int (pa_cons pe_int pa_nil)))))), ?_⟩
    walk_at "rd"
    refine ⟨_, rfl, 63, rfl, a, _, rfl, ha, fun p hp => ?_⟩
    obtain ⟨ns', e, hl⟩ := cut_ints ns none (some 63)
    rw [e]
    obtain ⟨H1, e1, s1, h1⟩ := new_heap (o := .lst (ns'.map V.int)) hp
    rw [e1]
    walk_at "rd"
    intro l hl'
    obtain ⟨H2, e2, s2, h2⟩ := new_heap (o := .lst (ns'.map V.int)) hl'
    rw [e2]
    walk_at "rd"
    refine ⟨size_of (Nat.le_of_ble_eq_true rfl), fun r hr => ?_⟩
    obtain ⟨H3, e3, s3, h3⟩ := new_heap (o := .lst [.ref l, .int 0, .int 0]) hr
    rw [e3]
    exact q r l H3 (fun b o z => s3 _ _ (s2 _ _ (s1 _ _ z))) ⟨ns', 0, 0, h3, s3 _ _ h2, by omega, Int.le_refl _, Int.le_refl _, Int.le_refl _⟩
abbrev s_draw : Stmt := top 14
theorem sc_draw : FnScope ["_law_pen_here", "_law_many", "_law_digit", "_law_at", "_law_cell", "_law_large", "_law_mixed"] ["_law_pen_here", "_law_many"] (defScope s_draw) := ⟨rfl, rfl, rfl, by decide +kernel, rfl, by decide +kernel, by decide +kernel⟩
def sp_draw : Sp := fun vs H Q _ => ∃ p L n m, vs = [.ref p, .int m] ∧ Pen H p L n ∧ n ≤ 10000 ∧ 0 < m ∧ m ≤ 1000000000000 ∧ ∀ d H', 0 ≤ d → d < m → Keep H H' → Pen H' p L (n + 1) → Q (.int d) H'
theorem ok_draw {f : Addr} {fd : FuncData} (F : Fun K "_law_draw" "_law_draw" s_draw f fd) (z_int : mg "int" = none) (z_len : mg "len" = none) (z_abs : mg "abs" = none) : FnOk P w K mg base CX0 1 f fd ["_law_pen_here", "_law_many"] sp_draw := by
  refine F.ok sc_draw (fun vs H Q E h => ?_) (fun cdv A outer s H vs Q E hr h => ?_)
  · obtain ⟨p, L, n, m, rfl, _⟩ := h
    rfl
  · obtain ⟨p, L, n, m, rfl, ⟨ns, a, l, hp, hL, hz, a0, an, l0⟩, hn, m0, m1, q⟩ := h
    refine ⟨_, (pss_cons (ps_if (pt_cmpR op_gt (pe_ix ix_list (pv 0) pe_int (fun _ _ => rfl)) pe_int (nomark _))
 (pss_cons (ps_set (i := 2) sc_draw.nd rfl (Or.inl rfl) (pe_op op_mod (pe_callTy call_int1 (by rfl) z_int (by decide +kernel) (pa_cons (pe_ix ix_list (pv 0) pe_int (fun _ _ => rfl)) pa_nil)) (pv 1)))
 (pss_cons (ps_asg (pe_op op_fdivW (pe_ix ix_list (pv 0) pe_int (fun _ _ => rfl)) (pv 1)) (pg_sub (pv 0) pe_int set_list))
 (pss_one (ps_ret (pv 2)))))
 pss_nil)
 (pss_cons (ps_set (i := 3) sc_draw.nd rfl (Or.inl rfl) (pe_ix ix_list (pv 0) pe_int (fun _ _ => rfl)))
 (pss_cons (ps_asg (pe_op op_add (pv 3) pe_int) (pg_sub (pv 0) pe_int set_list))
 (pss_cons (ps_set (i := 4) sc_draw.nd rfl (Or.inl rfl) (pe_op op_add (pe_op op_mul pe_int (pv 3)) pe_int))
 (pss_cons (ps_if (pt_cmpR (op_neD hr.units) (pe_ix ix_list (pv 0) pe_int (fun _ _ => rfl)) (pe_lst pa_nil) (nomark _))
 (pss_one (ps_set (i := 4) sc_draw.nd rfl (Or.inl rfl) (pe_ix ix_list (pe_ix ix_list (pv 0) pe_int (fun _ _ => rfl)) (pe_op op_mod (pe_callTy call_int1 (by rfl) z_int (by decide +kernel) (pa_cons (pv 3) pa_nil)) (pe_callB call_len_seq (by rfl) z_len PySem.boot_len (pa_cons (pe_ix ix_list (pv 0) pe_int (fun _ _ => rfl)) pa_nil))) (fun _ _ => rfl))))
 pss_nil)
 (pss_cons (ps_if (PW.pt (pw_and (pt_cmpR op_lt (pv 3) (pe_callB call_len_seq (by rfl) z_len PySem.boot_len (pa_cons (pe_ix ix_list (pv 0) pe_int (fun _ _ => rfl)) pa_nil)) (nomark _)) (pw_and1 (pt_cmpR op_ge (pe_callB call_abs (by rfl) z_abs (by decide +kernel) (pa_cons (pv 4) pa_nil)) (pe_op op_pow pe_int pe_int) (nomark _)))))
 (pss_cons (ps_set (i := 5) sc_draw.nd rfl (Or.inl rfl) (pe_op op_add (pe_op op_mul pe_int (pe_callB call_abs (by rfl) z_abs (by decide +kernel) (pa_cons (pv 4) pa_nil))) (pe_callTy call_int1 (by rfl) z_int (by decide +kernel) (pa_cons (pe_cmpR op_lt (pv 4) pe_int (nomark _)) pa_nil))))
 (pss_cons (ps_asg (pe_op op_fdivW (pv 5) (pv 1)) (pg_sub (pv 0) pe_int set_list))
 (pss_one (ps_ret (pe_op op_mod (pe_callTy call_int1 (by rfl) z_int (by decide +kernel) (pa_cons (pv 5) pa_nil)) (pv 1))))))
 pss_nil)
 (pss_cons (ps_set (i := 6) sc_draw.nd rfl (Or.inl rfl) (pe_op op_mod (pe_op op_pow (pe_callTy call_int1 (by rfl) z_int (by decide +kernel) (pa_cons (pe_op op_add (pe_op op_add (pe_op op_mod (pe_callTy call_int1 (by rfl) z_int (by decide +kernel) (pa_cons (pv 4) pa_nil)) pe_int) (pe_op op_mul pe_int (pv 3))) pe_int) pa_nil)) pe_int) pe_int))
 (pss_cons (ps_set (i := 6) sc_draw.nd rfl (Or.inl rfl) (pe_op op_mod (pe_op op_pow (pe_callTy call_int1 (by rfl) z_int (by decide +kernel) (pa_cons (pe_op op_add (pe_op op_add (pe_op op_mul (pv 6) (pe_op op_add (pe_op op_mul pe_int (pv 3)) pe_int)) (pe_op op_mul (pe_op op_mul pe_int (pv 3)) (pv 3))) pe_int) pa_nil)) pe_int) pe_int))
 (pss_one (ps_ret (pe_op op_mod (pe_callTy call_int1 (by rfl) z_int (by decide +kernel) (pa_cons (pe_op op_fdivW (pv 6) pe_int) pa_nil)) (pv 1)))))))))))), ?_⟩
    have wd : ∀ i : Int, CDivW i m := fun i => wide_div (b := 64) m0 (by omega) (by decide) (by decide)
    walk_at "rd"
    refine ite_d (fun h => ?_) (fun h => ?_)
    · walk_at "rd"
      refine i_rI (wd _) ?_
      walk_at "rd"
      refine i_setL hp (j := 2) rfl ?_
      walk_at "rd"
      obtain ⟨k, pe⟩ := pen_set (a' := a) (l' := l / m) (n := n + 1) hp hL hz a0 (by omega) (Int.ediv_nonneg l0 (by omega))
      exact q _ _ (Int.emod_nonneg _ (by omega)) (Int.emod_lt_of_pos _ m0) k pe
    · walk_at "rd"
      refine i_setL hp (j := 1) rfl ?_
      obtain ⟨H1, e1, k1, hp1, hL1⟩ := pen_put (a' := a + 1) (l' := l) hp hL
      rw [show ([V.ref L, .int a, .int l].set 1 (.int (a + 1))) = [.ref L, .int (a + 1), .int l] from rfl, e1]
      walk_at "rd"
      refine ⟨Nat.zero_le _, fun r hr => ?_⟩
      obtain ⟨H2, e2, s2, h2⟩ := new_heap (o := .lst []) hr
      rw [e2]
      have hp2 := s2 _ _ hp1
      have hL2 := s2 _ _ hL1
      have k2 : Keep H H2 := k1.trans (Same.keep s2)
      refine ⟨.list (ns.map PyData.int), .list (([] : List Int).map PyData.int), .lst (SqL.of hL2) (dps_ints ns), .lst (SqL.of h2) .nil, shaped_ints ns, shaped_ints [], ?_⟩
      rw [show PyData.eqv (.list (ns.map PyData.int)) (.list (([] : List Int).map PyData.int)) = decide (ns = []) from eqv_ints ns []]
      -- the end of the draw, from the cell on
      have fin : ∀ (l' d : Int), 0 ≤ l' → 0 ≤ d → d < m → Q (.int d) (upd H2 p (.lst [.ref L, .int (a + 1), .int l'])) := fun l' d hl' hd0 hd1 => by
        obtain ⟨k, pe⟩ := pen_set (a' := a + 1) (l' := l') (n := n + 1) hp2 hL2 hz (by omega) (by omega) hl'
        exact q _ _ hd0 hd1 (k2.trans k) pe
      have same : upd H2 p (.lst [.ref L, .int (a + 1), .int l]) = H2 := by
        funext b
        unfold upd
        split
        · rename_i e
          rw [e, hp2]
        · rfl
      have fin0 : ∀ d : Int, 0 ≤ d → d < m → Q (.int d) H2 := fun d h0 h1 => by
        rw [← same]
        exact fin l d l0 h0 h1
      walk_at "rd"
      refine ite_nd (fun hne => ?_) (fun he => ?_)
      · walk_at "rd"
        have hpos : (0 : Int) < ((ns.map V.int).length : Int) := by
          cases ns with
          | nil => exact absurd rfl hne
          | cons x xs => simp
        refine i_rI hpos ?_
        have hlen : ((ns.map V.int).length : Int) = (ns.length : Int) := by rw [List.length_map]
        rw [hlen] at hpos ⊢
        have i0 := Int.emod_nonneg a (b := (ns.length : Int)) (by omega)
        have i1 := Int.emod_lt_of_pos a hpos
        obtain ⟨j, hj⟩ : ∃ j : Nat, a % (ns.length : Int) = (j : Int) := ⟨(a % (ns.length : Int)).toNat, by omega⟩
        rw [hj]
        have hjl : j < ns.length := by omega
        refine i_ixL hL2 (atI_nat (by rw [List.getElem?_map, List.getElem?_eq_getElem hjl]; rfl)) ?_
        generalize ns[j] = c
        walk_at "rd"
        have c0 := Int.emod_nonneg c (b := 2147483549) (by decide)
        have c1 := Int.emod_lt_of_pos c (b := 2147483549) (by decide)
        refine ite_d (fun h1 => ?_) (fun h1 => ?_)
        · walk_at "rd"
          refine ite_d (fun h2 => ?_) (fun h2 => ?_)
          · walk_at "rd"
            refine i_rI (wd _) ?_
            walk_at "rd"
            refine i_setL hp2 (j := 2) rfl ?_
            walk_at "rd"
            refine fin _ _ (Int.ediv_nonneg ?_ (by omega)) (Int.emod_nonneg _ (by omega)) (Int.emod_lt_of_pos _ m0)
            split <;> split <;> omega
          · walk_at "rd"
            refine i_rI ⟨by decide, by decide, by omega⟩ ?_
            walk_at "rd"
            generalize hx : (c % 2147483549 + 58321 * a + 29) ^ (5 : Int).toNat % 2147483579 = x
            have x0 : 0 ≤ x := by rw [← hx]; exact Int.emod_nonneg _ (by decide)
            have x1 : x < 2147483579 := by rw [← hx]; exact Int.emod_lt_of_pos _ (by decide)
            refine i_rI (.inl ⟨by omega, by omega⟩) ?_
            walk_at "rd"
            refine i_rI (.inl ⟨by omega, by omega⟩) ?_
            walk_at "rd"
            have b1 := mul_bd x0 (Int.le_of_lt x1) (b := 2 * a + 47) (B := 20100) (by omega) (by omega)
            have b2 := mul_bd (a := 70001 * a) (A := 70001 * 10001) (by omega) (by omega) a0 (B := 10001) (by omega)
            refine i_rI ⟨by decide, by decide, by omega⟩ ?_
            walk_at "rd"
            refine i_rI (wide_div (b := 8) (by decide) (by decide) (by decide) (by decide)) ?_
            walk_at "rd"
            exact fin0 _ (Int.emod_nonneg _ (by omega)) (Int.emod_lt_of_pos _ m0)
        · refine iteF ?_
          walk_at "rd"
          refine i_rI ⟨by decide, by decide, by omega⟩ ?_
          walk_at "rd"
          generalize hx : (c % 2147483549 + 58321 * a + 29) ^ (5 : Int).toNat % 2147483579 = x
          have x0 : 0 ≤ x := by rw [← hx]; exact Int.emod_nonneg _ (by decide)
          have x1 : x < 2147483579 := by rw [← hx]; exact Int.emod_lt_of_pos _ (by decide)
          refine i_rI (.inl ⟨by omega, by omega⟩) ?_
          walk_at "rd"
          refine i_rI (.inl ⟨by omega, by omega⟩) ?_
          walk_at "rd"
          have b1 := mul_bd x0 (Int.le_of_lt x1) (b := 2 * a + 47) (B := 20100) (by omega) (by omega)
          have b2 := mul_bd (a := 70001 * a) (A := 70001 * 10001) (by omega) (by omega) a0 (B := 10001) (by omega)
          refine i_rI ⟨by decide, by decide, by omega⟩ ?_
          walk_at "rd"
          refine i_rI (wide_div (b := 8) (by decide) (by decide) (by decide) (by decide)) ?_
          walk_at "rd"
          exact fin0 _ (Int.emod_nonneg _ (by omega)) (Int.emod_lt_of_pos _ m0)
      · subst he
        walk_at "rd"
        generalize 48141 * a + 15 = c
        have c0 := Int.emod_nonneg c (b := 2147483549) (by decide)
        have c1 := Int.emod_lt_of_pos c (b := 2147483549) (by decide)
        refine ite_d (fun h1 => ?_) (fun h1 => ?_)
        · walk_at "rd"
          refine ite_d (fun h2 => ?_) (fun h2 => ?_)
          · walk_at "rd"
            refine i_rI (wd _) ?_
            walk_at "rd"
            refine i_setL hp2 (j := 2) rfl ?_
            walk_at "rd"
            refine fin _ _ (Int.ediv_nonneg ?_ (by omega)) (Int.emod_nonneg _ (by omega)) (Int.emod_lt_of_pos _ m0)
            split <;> split <;> omega
          · walk_at "rd"
            refine i_rI ⟨by decide, by decide, by omega⟩ ?_
            walk_at "rd"
            generalize hx : (c % 2147483549 + 58321 * a + 29) ^ (5 : Int).toNat % 2147483579 = x
            have x0 : 0 ≤ x := by rw [← hx]; exact Int.emod_nonneg _ (by decide)
            have x1 : x < 2147483579 := by rw [← hx]; exact Int.emod_lt_of_pos _ (by decide)
            refine i_rI (.inl ⟨by omega, by omega⟩) ?_
            walk_at "rd"
            refine i_rI (.inl ⟨by omega, by omega⟩) ?_
            walk_at "rd"
            have b1 := mul_bd x0 (Int.le_of_lt x1) (b := 2 * a + 47) (B := 20100) (by omega) (by omega)
            have b2 := mul_bd (a := 70001 * a) (A := 70001 * 10001) (by omega) (by omega) a0 (B := 10001) (by omega)
            refine i_rI ⟨by decide, by decide, by omega⟩ ?_
            walk_at "rd"
            refine i_rI (wide_div (b := 8) (by decide) (by decide) (by decide) (by decide)) ?_
            walk_at "rd"
            exact fin0 _ (Int.emod_nonneg _ (by omega)) (Int.emod_lt_of_pos _ m0)
        · refine iteF ?_
          walk_at "rd"
          refine i_rI ⟨by decide, by decide, by omega⟩ ?_
          walk_at "rd"
          generalize hx : (c % 2147483549 + 58321 * a + 29) ^ (5 : Int).toNat % 2147483579 = x
          have x0 : 0 ≤ x := by rw [← hx]; exact Int.emod_nonneg _ (by decide)
          have x1 : x < 2147483579 := by rw [← hx]; exact Int.emod_lt_of_pos _ (by decide)
          refine i_rI (.inl ⟨by omega, by omega⟩) ?_
          walk_at "rd"
          refine i_rI (.inl ⟨by omega, by omega⟩) ?_
          walk_at "rd"
          have b1 := mul_bd x0 (Int.le_of_lt x1) (b := 2 * a + 47) (B := 20100) (by omega) (by omega)
          have b2 := mul_bd (a := 70001 * a) (A := 70001 * 10001) (by omega) (by omega) a0 (B := 10001) (by omega)
          refine i_rI ⟨by decide, by decide, by omega⟩ ?_
          walk_at "rd"
          refine i_rI (wide_div (b := 8) (by decide) (by decide) (by decide) (by decide)) ?_
          walk_at "rd"
          exact fin0 _ (Int.emod_nonneg _ (by omega)) (Int.emod_lt_of_pos _ m0)
end
end Spk

set_option Elab.async false
set_option linter.all false
set_option maxRecDepth 100000
set_option maxHeartbeats 1000000
namespace Spk
open PySem L2
local macro_rules | `(tactic| walk_at "rd") => `(tactic| repeat (first
  | with_reducible refine i_seq ?_ | with_reducible refine i_asg ?_ | with_reducible refine i_ret ?_ | with_reducible refine i_ifS ?_ | with_reducible refine i_if ?_
  | with_reducible refine i_for ?_ | with_reducible refine i_iL ?_ | with_reducible refine i_iT ?_ | with_reducible refine i_ckw ?_ | with_reducible refine i_cm ?_ | with_reducible refine And.intro (rfl : V.ref _ = V.ref _) ?_ | with_reducible refine i_rng1 ?_ | with_reducible refine i_bm ?_ | with_reducible refine i_bm0 ?_
  | with_reducible refine i_drop ?_ | with_reducible refine i_next ?_
  | with_reducible refine i_var rfl ?_ | with_reducible refine i_c ?_ | with_reducible refine i_op ?_ | with_reducible refine i_un ?_ | with_reducible refine i_name ?_
  | with_reducible refine i_rI0 ?_ | with_reducible refine i_rU ?_ | with_reducible refine i_rEq rfl ?_ | with_reducible refine i_rNe rfl ?_
  | with_reducible refine i_test ?_ | with_reducible refine i_tB ?_ | with_reducible refine i_and ?_ | with_reducible refine i_or ?_ | with_reducible refine i_not ?_
  | with_reducible refine i_andV ?_ | with_reducible refine i_orV ?_ | with_reducible refine i_notV ?_
  | with_reducible refine i_cons ?_ | with_reducible refine i_nil ?_ | with_reducible refine i_cb ?_ | with_reducible refine i_call ?_ | with_reducible refine i_bl ?_
  | with_reducible refine i_tup ?_ | with_reducible refine i_lst ?_ | with_reducible refine i_par ?_ | with_reducible refine i_gcons ?_ | with_reducible refine i_gnil ?_
  | with_reducible refine And.intro (rfl : V.non = V.non) ?_ | with_reducible refine i_ixT (by assumption) rfl ?_ | with_reducible refine i_ixL (by assumption) rfl ?_ | with_reducible refine i_gtup (by assumption) rfl ?_
  | with_reducible refine i_gsub ?_
  | with_reducible refine Or.inl (Exists.intro _ (And.intro (rfl : [V.int _] = [V.int _]) ?_)) | with_reducible refine Exists.intro _ (And.intro (rfl : [V.int _] = [V.int _]) ?_)
  | with_reducible refine Or.inr (Exists.intro _ (And.intro (rfl : [V.bl _] = [V.bl _]) ?_))
  | with_reducible refine Exists.intro _ (Exists.intro _ (And.intro (rfl : [V.int _, V.int _] = [V.int _, V.int _]) ?_))
  | with_reducible refine Exists.intro _ (Exists.intro _ (And.intro (rfl : [V.ref _] = [V.ref _]) (And.intro (Or.inl (SqL.of (by assumption))) ?_)))
  | with_reducible refine i_rI (show (0 : Int) < _ by assumption) ?_ | with_reducible refine i_rI (show (0 : Int) < _ by decide) ?_
  | with_reducible refine i_rI (pow_ok (Nat.le_of_ble_eq_true rfl) (Nat.le_of_ble_eq_true rfl)) ?_
  | with_reducible refine i_rI (cmulL rfl) ?_))
theorem i_chain {r r' : R2} {ta tb tc : TE} {σ : L2.St} {H : Hp} {Q : VK} (h : ta σ H fun x H1 => tb σ H1 fun y H2 => r x y H2 fun z H3 => ∃ k, z = V.bl k ∧ if k = true then tc σ H3 fun w' H4 => r' y w' H4 Q else Q (V.bl false) H3) : tChain r r' ta tb tc σ H Q := h
theorem i_iS {te : TE} {σ : L2.St} {H : Hp} {R : It → Hp → Prop} (h : te σ H fun v H1 => ∃ x, v = V.str x ∧ R (Its x) H1) : iStr te σ H R := h
theorem ty_up {K : PySem.W.Frag} {H H' : Hp} {x : V} {t : Value} (e : Same H H') (h : TyX K H x t) : TyX K H' x t := by
  cases h with
  | base h =>
    refine .base ?_
    cases h with
    | non => exact .non
    | bl x => exact .bl x
    | int x => exact .int x
    | str x => exact .str x
    | flt x => exact .flt x
    | lst h => exact .lst (e _ _ h)
    | frz h => exact .frz (e _ _ h)
    | tup h => exact .tup (e _ _ h)
    | dK h => exact .dK (e _ _ h)
    | dT h => exact .dT (e _ _ h)
    | ins h a b c d f => exact .ins (e _ _ h) a b c d f
  | byt b => exact .byt b
  | set h => exact .set (e _ _ h)
  | kList h h2 => exact .kList h h2
  | kTuple h h2 => exact .kTuple h h2
  | kDict h h2 => exact .kDict h h2
  | fTuple h => exact .fTuple (e _ _ h)
  | fDict h => exact .fDict (e _ _ h)
/-! ### names -/
def okc (c : Nat) : Bool := decide (97 ≤ c ∧ c ≤ 122)
def nameB (z : Str) : Bool := decide (1 ≤ z.length) && (decide (z.length ≤ 8) && z.cps.toList.all okc)
/-- no text -/
def NoStr (K : PySem.W.Frag) (H : Hp) (y : V) : Prop := ∃ t, TyX K H y t ∧ PySem.W.kitOne K t (.type "str") = some false
/-- what is_name says of it -/
def NmV (K : PySem.W.Frag) (H : Hp) (y : V) (k : Bool) : Prop := (∃ z, y = .str z ∧ z.length ≤ 100 ∧ k = nameB z) ∨ (NoStr K H y ∧ k = false)
theorem NmV.up {K : PySem.W.Frag} {H H' : Hp} {y : V} {k : Bool} (e : Same H H') (h : NmV K H y k) : NmV K H' y k := by
  rcases h with h | ⟨⟨t, ty, o⟩, h⟩
  · exact .inl h
  · exact .inr ⟨⟨t, ty_up e ty, o⟩, h⟩
theorem lt_ch {a b : Nat} : (!decide ([b] < [a])) = decide (a ≤ b) := by
  rw [Bool.eq_iff_iff, Bool.not_eq_true', decide_eq_false_iff_not, decide_eq_true_eq]
  constructor
  · intro h
    refine Nat.le_of_not_lt fun q => h (List.cons_lt_cons_iff.mpr (.inl q))
  · intro h q
    rcases List.cons_lt_cons_iff.mp q with q | ⟨_, q⟩
    · omega
    · exact absurd q (List.lt_irrefl _)
theorem chars_a : ("a" : Str).cps.toList = [97] := rfl
theorem chars_z : ("z" : Str).cps.toList = [122] := rfl
theorem take_snoc {α : Type} {ts : List α} {i : Nat} {t : α} (h : ts[i]? = some t) : ts.take (i + 1) = ts.take i ++ [t] := by
  rw [List.take_add_one, h]
  rfl
theorem pair_at {α β : Type} {R : α → β → Prop} : ∀ {xs : List α} {ys : List β}, Paired R xs ys → ∀ {i : Nat} {x : α}, xs[i]? = some x → ∃ y, ys[i]? = some y ∧ R x y
  | _, _, .nil, i, x, h => by simp at h
  | _, _, .cons r t, 0, x, h => by
    cases h
    exact ⟨_, rfl, r⟩
  | _, _, .cons r t, i + 1, x, h => pair_at t (i := i) h
theorem onceTx_nd : ∀ (xs l : List Str), l.Nodup → (onceTx l xs).Nodup
  | [], _, h => h
  | x :: xs, l, h => by
    show (onceTx (withTx l x) xs).Nodup
    refine onceTx_nd xs _ ?_
    unfold withTx
    split
    · exact h
    · rename_i hx
      exact List.nodup_cons.mpr ⟨hx, h⟩
theorem onceTx_iff (cs : List Str) : (onceTx [] cs).length = cs.length ↔ cs.Nodup := by
  constructor
  · intro h
    have pm := perm_of_nodup (onceTx [] cs) cs (onceTx_nd cs [] List.nodup_nil) (fun x hx => ((onceTx_mem cs [] x).mp hx).elim id fun z => absurd z List.not_mem_nil) (Nat.le_of_eq h.symm)
    exact pm.nodup_iff.mpr (onceTx_nd cs [] List.nodup_nil)
  · intro h
    have e := onceTx_nodup cs [] (by simpa using h)
    simpa using e
theorem onceTx_le (cs : List Str) : (onceTx [] cs).length ≤ cs.length := by
  have := onceTx_len cs []
  simpa using this
section
variable {P : Program} {w : World} {K : PySem.W.Frag} {mg : Str → Option Value} {base : Heap}
abbrev s_is_name : Stmt := top 5
theorem sc_is_name : FnScope ["thing", "sign"] ["thing"] (defScope s_is_name) := ⟨rfl, rfl, rfl, by decide +kernel, rfl, by decide +kernel, by decide +kernel⟩
def sp_is_name (K : PySem.W.Frag) : Sp := fun vs H Q _ => ∃ y k, vs = [y] ∧ NmV K H y k ∧ ∀ H', Same H H' → Q (.bl k) H'
theorem ok_is_name {f : Addr} {fd : FuncData} (F : Fun K "is_name" "is_name" s_is_name f fd) (z_isinstance : mg "isinstance" = none) (z_str : mg "str" = none) (z_len : mg "len" = none) (z_all : mg "all" = none) : FnOk P w K mg base CX0 1 f fd ["thing"] (sp_is_name K) := by
  refine F.ok sc_is_name (fun vs H Q E h => ?_) (fun cdv A outer s H vs Q E hr h => ?_)
  · obtain ⟨y, k, rfl, _⟩ := h
    rfl
  · obtain ⟨y, k, rfl, h, q⟩ := h
    refine ⟨_, (pss_one (ps_ret (pe_and (pe_callB call_isi (by rfl) z_isinstance (by decide +kernel) (pa_cons (pv 0) (pa_cons (pe_bltn (v := .ty "str") (u := .type "str") (by rfl) z_str (by decide +kernel) rfl) pa_nil))) (pe_and (pe_chain op_le op_le pe_int (pe_callB call_len_str (by rfl) z_len PySem.boot_len (pa_cons (pv 0) pa_nil)) pe_int) (pe_one (pe_callB (cr_all rfl) (by rfl) z_all (by decide +kernel) (pa_cons (pe_lc (own := [("sign", 1)]) (g := gName 1) (tt := tYes) rfl sc_is_name.nd (pi_str (pv 0)) (blkOk_by (own := [("sign", 1)]) (N := ["thing", "sign"]) (sc := defScope s_is_name) (by decide +kernel)) (fun _ _ _ _ _ => pg_name (i := 1) sc_is_name.nd rfl (Or.inl rfl)) (fun _ _ _ _ _ => pts_nil) (fun _ _ _ _ _ => (pe_chain op_le_str op_le_str pe_str (pv 1) pe_str))) pa_nil))))))), ?_⟩
    walk_at "rd"
    rcases h with ⟨z, rfl, hz, rfl⟩ | ⟨⟨t, ty, o⟩, rfl⟩
    · refine ⟨_, _, _, _, true, rfl, .ty "str", .base (.str z), kit_ty (by decide +kernel), true, rfl, iteT ?_⟩
      walk_at "rd"
      refine i_chain ?_
      walk_at "rd"
      refine ⟨z, rfl, size_of (by omega), ?_⟩
      walk_at "rd"
      have q' := q
      unfold nameB at q'
      by_cases h1 : 1 ≤ z.length
      · rw [decide_eq_true (show (1 : Int) ≤ (z.length : Int) by omega)]
        rw [decide_eq_true h1, Bool.true_and] at q'
        refine iteT ?_
        walk_at "rd"
        by_cases h8 : z.length ≤ 8
        · rw [decide_eq_true (show (z.length : Int) ≤ 8 by omega)]
          rw [decide_eq_true h8, Bool.true_and] at q'
          refine iteT ?_
          walk_at "rd"
          unfold tLc
          refine i_iS ?_
          walk_at "rd"
          refine ⟨z, rfl, fun D hD => ?_⟩
          obtain ⟨H1, e1, s1, hd⟩ := new_heap (o := .lst []) hD
          refine lc_it walk_str (fun i H' => Same H H' ∧ H' D = some (.lst (((z.cps.toList.map okc).take i).map V.bl))) ⟨by rw [e1]; exact s1, by rw [e1]; exact hd⟩ (fun _ _ _ _ => trivial) ?_ ?_
          · rintro i x H2 H' hi ⟨s2, h2⟩ ⟨rfl, c, hc', rfl⟩
            have hm : z.cps.toList[i]? = some c := by rw [Array.getElem?_toList]; exact hc'
            have hm2 : (z.cps.toList.map okc)[i]? = some (okc c) := by rw [List.getElem?_map, hm]; rfl
            have fin : ∀ k, k = okc c → ∃ acc, H' D = some (HO.lst acc) ∧ acc.length < sizeLine ∧ Same H (upd H' D (HO.lst (acc ++ [V.bl k]))) ∧ (upd H' D (HO.lst (acc ++ [V.bl k]))) D = some (.lst (((z.cps.toList.map okc).take (i + 1)).map V.bl)) := by
              intro k ek
              refine ⟨_, h2, size_lt ?_, Same.mut s2 hD, ?_⟩
              · rw [List.length_map, List.length_take, List.length_map]
                have : z.cps.toList.length = z.length := by simp [Str.length]
                omega
              · rw [upd_same, take_snoc hm2, List.map_append, ek]
                rfl
            walk_at "rd"
            refine ⟨rfl, i_yes (iteT ?_)⟩
            refine i_chain ?_
            walk_at "rd"
            refine ⟨_, _, rfl, rfl, ?_⟩
            rw [chars_a, show (Str.mk #[c]).cps.toList = [c] from rfl, lt_ch]
            refine ⟨_, rfl, ite_d (fun ha => ?_) (fun ha => ?_)⟩
            · walk_at "rd"
              refine ⟨_, _, rfl, rfl, ?_⟩
              rw [chars_z, show (Str.mk #[c]).cps.toList = [c] from rfl, lt_ch]
              refine fin _ ?_
              unfold okc
              rw [decide_eq_decide]
              exact ⟨fun z => ⟨ha, z⟩, fun z => z.2⟩
            · refine fin false ?_
              unfold okc
              rw [eq_comm, decide_eq_false_iff_not]
              exact fun z => ha z.1
          · rintro H' ⟨s2, h2⟩
            have e : (z.cps.toList.map okc).take z.cps.size = z.cps.toList.map okc := List.take_of_length_le (by simp)
            rw [e] at h2
            walk_at "rd"
            refine ⟨D, z.cps.toList.map okc, rfl, SqL.of h2, ?_⟩
            rw [List.all_map]
            exact q' H' s2
        · rw [decide_eq_false (show ¬ (z.length : Int) ≤ 8 by omega)]
          rw [decide_eq_false h8, Bool.false_and] at q'
          exact iteF (q' H (Same.refl H))
      · rw [decide_eq_false (show ¬ (1 : Int) ≤ (z.length : Int) by omega)]
        rw [decide_eq_false h1, Bool.false_and] at q'
        refine iteF ?_
        exact ⟨false, rfl, iteF (q' H (Same.refl H))⟩
    · exact ⟨_, _, _, _, false, rfl, .ty "str", ty, o, false, rfl, iteF (q H (Same.refl H))⟩
end
end Spk

set_option Elab.async false
set_option linter.all false
set_option maxRecDepth 100000
set_option maxHeartbeats 1000000
namespace Spk
open PySem L2
local macro_rules | `(tactic| walk_at "rd") => `(tactic| repeat (first
  | with_reducible refine i_seq ?_ | with_reducible refine i_asg ?_ | with_reducible refine i_ret ?_ | with_reducible refine i_ifS ?_ | with_reducible refine i_if ?_
  | with_reducible refine i_for ?_ | with_reducible refine i_iL ?_ | with_reducible refine i_iT ?_ | with_reducible refine i_ckw ?_ | with_reducible refine i_cm ?_ | with_reducible refine And.intro (rfl : V.ref _ = V.ref _) ?_ | with_reducible refine i_rng1 ?_ | with_reducible refine i_bm ?_ | with_reducible refine i_bm0 ?_
  | with_reducible refine i_drop ?_ | with_reducible refine i_next ?_
  | with_reducible refine i_var rfl ?_ | with_reducible refine i_c ?_ | with_reducible refine i_op ?_ | with_reducible refine i_un ?_ | with_reducible refine i_name ?_
  | with_reducible refine i_rI0 ?_ | with_reducible refine i_rU ?_ | with_reducible refine i_rEq rfl ?_ | with_reducible refine i_rNe rfl ?_
  | with_reducible refine i_test ?_ | with_reducible refine i_tB ?_ | with_reducible refine i_and ?_ | with_reducible refine i_or ?_ | with_reducible refine i_not ?_
  | with_reducible refine i_andV ?_ | with_reducible refine i_orV ?_ | with_reducible refine i_notV ?_
  | with_reducible refine i_cons ?_ | with_reducible refine i_nil ?_ | with_reducible refine i_cb ?_ | with_reducible refine i_call ?_ | with_reducible refine i_bl ?_
  | with_reducible refine i_tup ?_ | with_reducible refine i_lst ?_ | with_reducible refine i_par ?_ | with_reducible refine i_gcons ?_ | with_reducible refine i_gnil ?_
  | with_reducible refine And.intro (rfl : V.non = V.non) ?_ | with_reducible refine i_ixT (by assumption) rfl ?_ | with_reducible refine i_ixL (by assumption) rfl ?_ | with_reducible refine i_gtup (by assumption) rfl ?_
  | with_reducible refine i_gsub ?_
  | with_reducible refine Or.inl (Exists.intro _ (And.intro (rfl : [V.int _] = [V.int _]) ?_)) | with_reducible refine Exists.intro _ (And.intro (rfl : [V.int _] = [V.int _]) ?_)
  | with_reducible refine Or.inr (Exists.intro _ (And.intro (rfl : [V.bl _] = [V.bl _]) ?_))
  | with_reducible refine Exists.intro _ (Exists.intro _ (And.intro (rfl : [V.int _, V.int _] = [V.int _, V.int _]) ?_))
  | with_reducible refine Exists.intro _ (Exists.intro _ (And.intro (rfl : [V.ref _] = [V.ref _]) (And.intro (Or.inl (SqL.of (by assumption))) ?_)))
  | with_reducible refine i_rI (show (0 : Int) < _ by assumption) ?_ | with_reducible refine i_rI (show (0 : Int) < _ by decide) ?_
  | with_reducible refine i_rI (pow_ok (Nat.le_of_ble_eq_true rfl) (Nat.le_of_ble_eq_true rfl)) ?_
  | with_reducible refine i_rI (cmulL rfl) ?_))
def namesB (xs : List V) (js : List Bool) : Bool := !xs.isEmpty && (js.all id && decide xs.Nodup)
theorem names_of {K : PySem.W.Frag} {H : Hp} : ∀ {xs : List V} {js : List Bool}, Paired (NmV K H) xs js → js.all id = true → ∃ cs : List Str, xs = cs.map V.str ∧ ∀ c, c ∈ cs → nameB c = true ∧ c.length ≤ 100
  | _, _, .nil, _ => ⟨[], rfl, fun c hc => absurd hc List.not_mem_nil⟩
  | _, j :: js, .cons r t, h => by
    rw [List.all_cons, Bool.and_eq_true] at h
    obtain ⟨cs, e, ok⟩ := names_of t h.2
    have hj : j = true := h.1
    rcases r with ⟨z, rfl, hz, ez⟩ | ⟨_, ez⟩
    · refine ⟨z :: cs, by rw [e]; rfl, fun c hc => ?_⟩
      rcases List.mem_cons.mp hc with rfl | hc
      · exact ⟨by rw [← ez]; exact hj, hz⟩
      · exact ok c hc
    · rw [hj] at ez
      cases ez
theorem nodup_strs {cs : List Str} : (cs.map V.str).Nodup ↔ cs.Nodup := by
  unfold List.Nodup
  rw [List.pairwise_map]
  exact ⟨fun h => h.imp fun z e => z (by rw [e]), fun h => h.imp fun z e => z (V.str.inj e)⟩
section
variable {P : Program} {w : World} {K : PySem.W.Frag} {mg : Str → Option Value} {base : Heap}
abbrev s_are_names : Stmt := top 6
theorem sc_are_names : FnScope ["things", "thing"] ["things"] (defScope s_are_names) := ⟨rfl, rfl, rfl, by decide +kernel, rfl, by decide +kernel, by decide +kernel⟩
def sp_are_names (K : PySem.W.Frag) : Sp := fun vs H Q _ => ∃ t xs js, vs = [.ref t] ∧ SqT K H t xs ∧ xs.length ≤ 100 ∧ Paired (NmV K H) xs js ∧ ∀ H', Same H H' → Q (.bl (namesB xs js)) H'
theorem ok_are_names {f fN : Addr} {fd fdN : FuncData} (F : Fun K "are_names" "are_names" s_are_names f fd) (F_is_name : Fun K "is_name" "is_name" s_is_name fN fdN) (B_is_name : Binds K fdN ["thing"] []) (g_is_name : mg "is_name" = some (.ref fN))
    (G_is_name : FnOk P w K mg base CX0 1 fN fdN ["thing"] (sp_is_name K)) (z_len : mg "len" = none) (z_all : mg "all" = none) (z_set : mg "set" = none) : FnOk P w K mg base CX0 2 f fd ["things"] (sp_are_names K) := by
  refine F.ok sc_are_names (fun vs H Q E h => ?_) (fun cdv A outer s H vs Q E hr h => ?_)
  · obtain ⟨t, xs, js, rfl, _⟩ := h
    rfl
  · obtain ⟨t, xs, js, rfl, ht, hz, nm, q⟩ := h
    refine ⟨_, (pss_one (ps_ret (pe_and (pe_cmpR op_gt (pe_callB call_len_seq (by rfl) z_len PySem.boot_len (pa_cons (pv 0) pa_nil)) pe_int (nomark _)) (pe_and (pe_callB (cr_all rfl) (by rfl) z_all (by decide +kernel) (pa_cons (pe_lc (own := [("thing", 1)]) (g := gName 1) (tt := tYes) rfl sc_are_names.nd (pi_tup (pv 0)) (blkOk_by (own := [("thing", 1)]) (N := ["things", "thing"]) (sc := defScope s_are_names) (by decide +kernel)) (fun _ _ _ _ _ => pg_name (i := 1) sc_are_names.nd rfl (Or.inl rfl)) (fun _ _ _ _ _ => pts_nil) (fun _ _ _ _ _ => (pe_call G_is_name (hr.mono (by decide)) rfl g_is_name F_is_name.kp B_is_name .nil pass0 (pa_cons (pv 1) pa_nil)))) pa_nil)) (pe_one (pe_cmpR op_eq (pe_callB cr_txLen (by rfl) z_len PySem.boot_len (pa_cons (pe_callTy (cr_txSet rfl) (by rfl) z_set (by decide +kernel) (pa_cons (pv 0) pa_nil)) pa_nil)) (pe_callB call_len_seq (by rfl) z_len PySem.boot_len (pa_cons (pv 0) pa_nil)) (nomark _))))))), ?_⟩
    have jl : xs.length = js.length := Paired.length nm
    walk_at "rd"
    refine ⟨t, _, rfl, .inr ht, ?_⟩
    walk_at "rd"
    unfold namesB at q
    cases hx : xs with
    | nil =>
      subst hx
      exact iteF (q H (Same.refl H))
    | cons x0 xr =>
      rw [← hx]
      have hne : xs.isEmpty = false := by rw [hx]; rfl
      have hpos : 0 < xs.length := by rw [hx]; simp
      rw [hne] at q
      rw [decide_eq_true (show (0 : Int) < ((xs.length : Nat) : Int) by omega)]
      refine iteT ?_
      walk_at "rd"
      unfold tLc
      walk_at "rd"
      refine ⟨t, rfl, ⟨_, ht⟩, fun D hD => ?_⟩
      obtain ⟨H1, e1, s1, hd⟩ := new_heap (o := .lst []) hD
      refine lc_tup (K := K) (a := t) (xs := xs) (fun i H' => Same H H' ∧ H' D = some (.lst ((js.take i).map V.bl))) ⟨by rw [e1]; exact s1, by rw [e1]; exact hd⟩ ?_ ?_ ?_
      · rintro i H' _ ⟨s2, _⟩
        exact SqT.ext ht s2
      · rintro i x H2 hx ⟨s2, h2⟩
        obtain ⟨j, ej, nj⟩ := pair_at nm hx
        have hi : i < xs.length := (List.getElem?_eq_some_iff.mp hx).1
        walk_at "rd"
        refine ⟨rfl, i_yes (iteT ?_)⟩
        walk_at "rd"
        refine ⟨x, j, rfl, nj.up s2, fun H3 s3 => ?_⟩
        refine ⟨_, s3 _ _ h2, size_lt (by rw [List.length_map, List.length_take]; omega), Same.mut (fun b o z => s3 _ _ (s2 _ _ z)) hD, ?_⟩
        rw [upd_same, take_snoc ej, List.map_append]
        rfl
      · rintro H2 ⟨s2, h2⟩
        rw [jl, List.take_length] at h2
        walk_at "rd"
        refine ⟨D, js, rfl, SqL.of h2, js.all id, rfl, ?_⟩
        cases ha : js.all id with
        | false =>
          rw [ha] at q
          exact iteF (q H2 s2)
        | true =>
          rw [ha] at q
          obtain ⟨cs, rfl, ok⟩ := names_of nm ha
          refine iteT ?_
          walk_at "rd"
          rw [List.length_map] at hz
          refine ⟨t, cs, rfl, SqT.ext ht s2, by omega, fun p hp => ?_⟩
          obtain ⟨H3, e3, s3, h3⟩ := new_heap (o := TxO P w p (onceTx [] cs)) hp
          show tNil _ (upd H2 p (TxO P w p (onceTx [] cs))) _
          rw [e3]
          walk_at "rd"
          refine ⟨p, onceTx [] cs, rfl, h3, by have := onceTx_le cs; omega, ?_⟩
          walk_at "rd"
          refine ⟨t, _, rfl, .inr (SqT.ext (SqT.ext ht s2) s3), ?_⟩
          rw [List.length_map]
          refine i_rEq rfl ?_
          have e : decide (V.int ((onceTx [] cs).length : Int) = V.int (cs.length : Int)) = decide (cs.map V.str).Nodup := by
            rw [decide_eq_decide, nodup_strs, ← onceTx_iff]
            exact ⟨fun z => by have := V.int.inj z; omega, fun z => by rw [z]⟩
          rw [e]
          exact q H3 fun b o z => s3 _ _ (s2 _ _ z)
abbrev s_sequence_of : Stmt := top 7
theorem sc_sequence_of : FnScope ["things"] ["things"] (defScope s_sequence_of) := ⟨rfl, rfl, rfl, by decide +kernel, rfl, by decide +kernel, by decide +kernel⟩
def sp_sequence_of (K : PySem.W.Frag) : Sp := fun vs H Q _ => ∃ l xs, vs = [.ref l] ∧ (H l = some (.lst xs) ∨ H l = some (.tup xs)) ∧ ∀ p H', Same H H' → H' p = some (.tup xs) → Q (.ref p) H'
theorem ok_sequence_of {f : Addr} {fd : FuncData} (F : Fun K "sequence_of" "sequence_of" s_sequence_of f fd) (z_isinstance : mg "isinstance" = none) (z_list : mg "list" = none) (z_tuple : mg "tuple" = none) : FnOk P w K mg base CX0 1 f fd ["things"] (sp_sequence_of K) := by
  refine F.ok sc_sequence_of (fun vs H Q E h => ?_) (fun cdv A outer s H vs Q E hr h => ?_)
  · obtain ⟨l, xs, rfl, _⟩ := h
    rfl
  · obtain ⟨l, xs, rfl, hl, q⟩ := h
    refine ⟨_, (pss_one (ps_ret (pe_ifExp (pt_val (pe_callB call_isiT (by rfl) z_isinstance (by decide +kernel) (pa_cons (pv 0) (pa_cons (pe_tup (pa_cons (pe_bltn (v := .ty "list") (u := .type "list") (by rfl) z_list (by decide +kernel) rfl) (pa_cons (pe_bltn (v := .ty "tuple") (u := .type "tuple") (by rfl) z_tuple (by decide +kernel) rfl) pa_nil))) pa_nil)))) (pe_callTy call_tuple_of (by rfl) z_tuple (by decide +kernel) (pa_cons (pv 0) pa_nil)) (pe_tup pa_nil)))), ?_⟩
    walk_at "rd"
    refine ⟨size_of (Nat.le_of_ble_eq_true rfl), fun tp htp => ?_⟩
    obtain ⟨H1, e1, s1, h1⟩ := new_heap (o := .tup [.ty "list", .ty "tuple"]) htp
    rw [e1]
    walk_at "rd"
    rcases hl with hl | hl
    · refine ⟨.ref l, tp, _, _, _, true, rfl, h1, .cons (.ty "list") (.cons (.ty "tuple") .nil), .base (.lst (s1 _ _ hl)), rfl, true, rfl, iteT ?_⟩
      walk_at "rd"
      refine ⟨l, xs, rfl, .inl ⟨SqL.of (s1 _ _ hl), fun p hp => ?_⟩⟩
      obtain ⟨H2, e2, s2, h2⟩ := new_heap (o := .tup xs) hp
      rw [e2]
      exact q p H2 (fun b o z => s2 _ _ (s1 _ _ z)) h2
    · refine ⟨.ref l, tp, _, _, _, true, rfl, h1, .cons (.ty "list") (.cons (.ty "tuple") .nil), .base (.tup (s1 _ _ hl)), rfl, true, rfl, iteT ?_⟩
      walk_at "rd"
      exact ⟨l, xs, rfl, .inr ⟨SqT.of (s1 _ _ hl), q l H1 s1 (s1 _ _ hl)⟩⟩
end
end Spk

set_option Elab.async false
set_option linter.all false
set_option maxRecDepth 100000
set_option maxHeartbeats 1000000
namespace Spk
open PySem L2
local macro_rules | `(tactic| walk_at "rd") => `(tactic| repeat (first
  | with_reducible refine i_seq ?_ | with_reducible refine i_asg ?_ | with_reducible refine i_ret ?_ | with_reducible refine i_ifS ?_ | with_reducible refine i_if ?_
  | with_reducible refine i_for ?_ | with_reducible refine i_iL ?_ | with_reducible refine i_iT ?_ | with_reducible refine i_ckw ?_ | with_reducible refine i_cm ?_ | with_reducible refine And.intro (rfl : V.ref _ = V.ref _) ?_ | with_reducible refine i_rng1 ?_ | with_reducible refine i_bm ?_ | with_reducible refine i_bm0 ?_
  | with_reducible refine i_drop ?_ | with_reducible refine i_next ?_
  | with_reducible refine i_var rfl ?_ | with_reducible refine i_c ?_ | with_reducible refine i_op ?_ | with_reducible refine i_un ?_ | with_reducible refine i_name ?_
  | with_reducible refine i_rI0 ?_ | with_reducible refine i_rU ?_ | with_reducible refine i_rEq rfl ?_ | with_reducible refine i_rNe rfl ?_
  | with_reducible refine i_test ?_ | with_reducible refine i_tB ?_ | with_reducible refine i_and ?_ | with_reducible refine i_or ?_ | with_reducible refine i_not ?_
  | with_reducible refine i_andV ?_ | with_reducible refine i_orV ?_ | with_reducible refine i_notV ?_
  | with_reducible refine i_cons ?_ | with_reducible refine i_nil ?_ | with_reducible refine i_cb ?_ | with_reducible refine i_call ?_ | with_reducible refine i_bl ?_
  | with_reducible refine i_tup ?_ | with_reducible refine i_lst ?_ | with_reducible refine i_par ?_ | with_reducible refine i_gcons ?_ | with_reducible refine i_gnil ?_
  | with_reducible refine And.intro (rfl : V.non = V.non) ?_ | with_reducible refine i_ixT (by assumption) rfl ?_ | with_reducible refine i_ixL (by assumption) rfl ?_ | with_reducible refine i_gtup (by assumption) rfl ?_
  | with_reducible refine i_gsub ?_
  | with_reducible refine Or.inl (Exists.intro _ (And.intro (rfl : [V.int _] = [V.int _]) ?_)) | with_reducible refine Exists.intro _ (And.intro (rfl : [V.int _] = [V.int _]) ?_)
  | with_reducible refine Or.inr (Exists.intro _ (And.intro (rfl : [V.bl _] = [V.bl _]) ?_))
  | with_reducible refine Exists.intro _ (Exists.intro _ (And.intro (rfl : [V.int _, V.int _] = [V.int _, V.int _]) ?_))
  | with_reducible refine Exists.intro _ (Exists.intro _ (And.intro (rfl : [V.ref _] = [V.ref _]) (And.intro (Or.inl (SqL.of (by assumption))) ?_)))
  | with_reducible refine i_rI (show (0 : Int) < _ by assumption) ?_ | with_reducible refine i_rI (show (0 : Int) < _ by decide) ?_
  | with_reducible refine i_rI (pow_ok (Nat.le_of_ble_eq_true rfl) (Nat.le_of_ble_eq_true rfl)) ?_
  | with_reducible refine i_rI (cmulL rfl) ?_))
/-! ### names among names -/
theorem flat_strs (cs : List Str) : (cs.map V.str).all flatV = true := by
  rw [List.all_map]
  exact List.all_eq_true.mpr fun _ _ => rfl
theorem in_strs (c : Str) (cs : List Str) : inV (.str c) (cs.map V.str) = decide (c ∈ cs) := by
  unfold inV
  rw [List.any_map, Bool.eq_iff_iff, List.any_eq_true, decide_eq_true_eq]
  constructor
  · rintro ⟨x, hx, e⟩
    have : x = c := eq_of_beq e
    rw [← this]
    exact hx
  · intro h
    exact ⟨c, h, (beq_self_eq_true c : (c == c) = true)⟩
theorem in_at {K : PySem.W.Frag} {H : Hp} {c : Str} {u : Addr} {cs : List Str} {Q : VK} (h : SqL K H u (cs.map V.str) ∨ SqT K H u (cs.map V.str)) (q : Q (.bl (decide (c ∈ cs))) H) : rIn K false (.str c) (.ref u) H Q :=
  ⟨u, _, rfl, h, rfl, flat_strs cs, by rw [in_strs]; exact q⟩
theorem notIn_at {K : PySem.W.Frag} {H : Hp} {c : Str} {u : Addr} {cs : List Str} {Q : VK} (h : SqL K H u (cs.map V.str) ∨ SqT K H u (cs.map V.str)) (q : Q (.bl (!decide (c ∈ cs))) H) : rIn K true (.str c) (.ref u) H Q :=
  ⟨u, _, rfl, h, rfl, flat_strs cs, by rw [in_strs]; exact q⟩
theorem str_at {cs : List Str} {i : Nat} {x : V} (hx : (cs.map V.str)[i]? = some x) : ∃ c, cs[i]? = some c ∧ x = .str c := by
  rw [List.getElem?_map] at hx
  cases h : cs[i]? with
  | none => rw [h] at hx; cases hx
  | some c =>
    rw [h] at hx
    exact ⟨c, rfl, (Option.some.inj hx).symm⟩
/-- what stands in the written part or in the heap as a tuple -/
def TuS (K : PySem.W.Frag) (H : Hp) (a : Addr) (xs : List V) : Prop := SqT K H a xs ∧ TyX K H (.ref a) (.type "tuple")
theorem TuS.of {K : PySem.W.Frag} {H : Hp} {a : Addr} {xs : List V} (h : H a = some (.tup xs)) : TuS K H a xs := ⟨SqT.of h, .base (.tup h)⟩
theorem TuS.up {K : PySem.W.Frag} {H H' : Hp} {a : Addr} {xs : List V} (e : Same H H') (h : TuS K H a xs) : TuS K H' a xs := ⟨SqT.ext h.1 e, ty_up e h.2⟩
section
variable {P : Program} {w : World} {K : PySem.W.Frag} {mg : Str → Option Value} {base : Heap}
abbrev s_are_chosen : Stmt := top 10
theorem sc_are_chosen : FnScope ["names", "columns", "name"] ["names", "columns"] (defScope s_are_chosen) := ⟨rfl, rfl, rfl, by decide +kernel, rfl, by decide +kernel, by decide +kernel⟩
def chosenB (ks cs : List Str) : Bool := (ks.map fun c => decide (c ∈ cs)).all id && decide ks.Nodup
def sp_are_chosen (K : PySem.W.Frag) : Sp := fun vs H Q _ => ∃ t u, ∃ ks cs : List Str, vs = [.ref t, .ref u] ∧ TuS K H t (ks.map V.str) ∧ (SqL K H u (cs.map V.str) ∨ SqT K H u (cs.map V.str)) ∧ ks.length ≤ 100 ∧ ∀ H', Same H H' → Q (.bl (chosenB ks cs)) H'
theorem ok_are_chosen {f : Addr} {fd : FuncData} (F : Fun K "are_chosen" "are_chosen" s_are_chosen f fd) (z_isinstance : mg "isinstance" = none) (z_tuple : mg "tuple" = none) (z_str : mg "str" = none) (z_len : mg "len" = none) (z_all : mg "all" = none) (z_set : mg "set" = none) :
    FnOk P w K mg base CX0 1 f fd ["names", "columns"] (sp_are_chosen K) := by
  refine F.ok sc_are_chosen (fun vs H Q E h => ?_) (fun cdv A outer s H vs Q E hr h => ?_)
  · obtain ⟨t, u, ks, cs, rfl, _⟩ := h
    rfl
  · obtain ⟨t, u, ks, cs, rfl, ⟨ht, ty⟩, hu, hz, q⟩ := h
    refine ⟨_, (pss_cons (ps_if (pt_not (PW.pt (pw_and (pt_val (pe_callB call_isi (by rfl) z_isinstance (by decide +kernel) (pa_cons (pv 0) (pa_cons (pe_bltn (v := .ty "tuple") (u := .type "tuple") (by rfl) z_tuple (by decide +kernel) rfl) pa_nil)))) (pw_and1 (pt_truth (pe_callB (cr_all rfl) (by rfl) z_all (by decide +kernel) (pa_cons (pe_lc (own := [("name", 2)]) (g := gName 2) (tt := tYes) rfl sc_are_chosen.nd (pi_tup (pv 0)) (blkOk_by (own := [("name", 2)]) (N := ["names", "columns", "name"]) (sc := defScope s_are_chosen) (by decide +kernel)) (fun _ _ _ _ _ => pg_name (i := 2) sc_are_chosen.nd rfl (Or.inl rfl)) (fun _ _ _ _ _ => pts_nil) (fun _ _ _ _ _ => (pe_and (pe_callB (call_isiK (K := K) rfl) (by rfl) z_isinstance (by decide +kernel) (pa_cons (pv 2) (pa_cons (pe_bltn (v := .ty "str") (u := .type "str") (by rfl) z_str (by decide +kernel) rfl) pa_nil))) (pe_one (pe_cmpR (op_inK (K := K) rfl) (pv 2) (pv 1) (by rfl)))))) pa_nil)) (by intro _; rfl))))))
 (pss_one (ps_ret pe_bl))
 pss_nil)
 (pss_one (ps_ret (pe_cmpR op_eq (pe_callB cr_txLen (by rfl) z_len PySem.boot_len (pa_cons (pe_callTy (cr_txSet rfl) (by rfl) z_set (by decide +kernel) (pa_cons (pv 0) pa_nil)) pa_nil)) (pe_callB call_len_seq (by rfl) z_len PySem.boot_len (pa_cons (pv 0) pa_nil)) (nomark _))))), ?_⟩
    walk_at "rd"
    refine ⟨_, _, _, _, true, rfl, .ty "tuple", ty, kit_ty (by decide +kernel), true, rfl, iteT ?_⟩
    walk_at "rd"
    unfold tLc
    walk_at "rd"
    refine ⟨t, rfl, ⟨_, ht⟩, fun D hD => ?_⟩
    obtain ⟨H1, e1, s1, hd⟩ := new_heap (o := .lst []) hD
    refine lc_tup (K := K) (a := t) (xs := ks.map V.str) (fun i H' => Same H H' ∧ H' D = some (.lst ((((ks.map fun c => decide (c ∈ cs))).take i).map V.bl))) ⟨by rw [e1]; exact s1, by rw [e1]; exact hd⟩ ?_ ?_ ?_
    · rintro i H' _ ⟨s2, _⟩
      exact SqT.ext ht s2
    · rintro i x H2 hx ⟨s2, h2⟩
      obtain ⟨c, hc, rfl⟩ := str_at hx
      have hi : i < ks.length := (List.getElem?_eq_some_iff.mp hc).1
      have hc2 : (ks.map fun c => decide (c ∈ cs))[i]? = some (decide (c ∈ cs)) := by rw [List.getElem?_map, hc]; rfl
      walk_at "rd"
      refine ⟨rfl, i_yes (iteT ?_)⟩
      walk_at "rd"
      refine ⟨_, _, _, _, true, rfl, .ty "str", .base (.str c), kit_ty (by decide +kernel), true, rfl, iteT ?_⟩
      walk_at "rd"
      refine in_at (hu.imp (fun z => SqL.ext z s2) fun z => SqT.ext z s2) ?_
      refine ⟨_, h2, size_lt (by rw [List.length_map, List.length_take, List.length_map]; omega), Same.mut s2 hD, ?_⟩
      rw [upd_same, take_snoc hc2, List.map_append]
      rfl
    · rintro H2 ⟨s2, h2⟩
      have e : (ks.map fun c => decide (c ∈ cs)).take (ks.map V.str).length = ks.map fun c => decide (c ∈ cs) := List.take_of_length_le (by simp)
      rw [e] at h2
      walk_at "rd"
      refine ⟨D, ks.map fun c => decide (c ∈ cs), rfl, SqL.of h2, _, rfl, ?_⟩
      unfold chosenB at q
      cases ha : (ks.map fun c => decide (c ∈ cs)).all id with
      | false =>
        rw [ha] at q
        exact iteT (q H2 s2)
      | true =>
        rw [ha] at q
        refine iteF ?_
        walk_at "rd"
        refine ⟨t, ks, rfl, SqT.ext ht s2, by omega, fun p hp => ?_⟩
        obtain ⟨H3, e3, s3, h3⟩ := new_heap (o := TxO P w p (onceTx [] ks)) hp
        show tNil _ (upd H2 p (TxO P w p (onceTx [] ks))) _
        rw [e3]
        walk_at "rd"
        refine ⟨p, onceTx [] ks, rfl, h3, by have := onceTx_le ks; omega, ?_⟩
        walk_at "rd"
        refine ⟨t, _, rfl, .inr (SqT.ext (SqT.ext ht s2) s3), ?_⟩
        rw [List.length_map]
        refine i_rEq rfl ?_
        have e : decide (V.int ((onceTx [] ks).length : Int) = V.int (ks.length : Int)) = decide ks.Nodup := by
          rw [decide_eq_decide, ← onceTx_iff]
          exact ⟨fun z => by have := V.int.inj z; omega, fun z => by rw [z]⟩
        rw [e]
        exact q H3 fun b o z => s3 _ _ (s2 _ _ z)
abbrev s_in_order_of : Stmt := top 11
theorem sc_in_order_of : FnScope ["columns", "names", "column"] ["columns", "names"] (defScope s_in_order_of) := ⟨rfl, rfl, rfl, by decide +kernel, rfl, by decide +kernel, by decide +kernel⟩
abbrev among (cs ks : List Str) : List Str := cs.filter fun c => decide (c ∈ ks)
def sp_in_order_of (K : PySem.W.Frag) : Sp := fun vs H Q _ => ∃ t u, ∃ cs ks : List Str, vs = [.ref t, .ref u] ∧ SqT K H t (cs.map V.str) ∧ SqT K H u (ks.map V.str) ∧ cs.length ≤ 100 ∧ ∀ p H', Same H H' → H' p = some (.tup ((among cs ks).map V.str)) → Q (.ref p) H'
theorem among_snoc {cs ks : List Str} {i : Nat} {c : Str} (h : cs[i]? = some c) : among (cs.take (i + 1)) ks = if c ∈ ks then among (cs.take i) ks ++ [c] else among (cs.take i) ks := by
  unfold among
  rw [take_snoc h, List.filter_append]
  by_cases e : c ∈ ks
  · rw [if_pos e]
    simp [e]
  · rw [if_neg e]
    simp [e]
theorem ok_in_order_of {f : Addr} {fd : FuncData} (F : Fun K "in_order_of" "in_order_of" s_in_order_of f fd) (z_tuple : mg "tuple" = none) : FnOk P w K mg base CX0 1 f fd ["columns", "names"] (sp_in_order_of K) := by
  refine F.ok sc_in_order_of (fun vs H Q E h => ?_) (fun cdv A outer s H vs Q E hr h => ?_)
  · obtain ⟨t, u, ks, cs, rfl, _⟩ := h
    rfl
  · obtain ⟨t, u, cs, ks, rfl, ht, hu, hz, q⟩ := h
    refine ⟨_, (pss_one (ps_ret (pe_callTy call_tuple_of (by rfl) z_tuple (by decide +kernel) (pa_cons (pe_lc (own := [("column", 2)]) (g := gName 2) rfl sc_in_order_of.nd (pi_tup (pv 0)) (blkOk_by (own := [("column", 2)]) (N := ["columns", "names", "column"]) (sc := defScope s_in_order_of) (by decide +kernel)) (fun _ _ _ _ _ => pg_name (i := 2) sc_in_order_of.nd rfl (Or.inl rfl)) (fun _ _ _ _ _ => pts_one (pt_cmpR (op_inK (K := K) rfl) (pv 2) (pv 1) (by rfl))) (fun _ _ _ _ _ => (pv 2))) pa_nil)))), ?_⟩
    walk_at "rd"
    unfold tLc
    walk_at "rd"
    refine ⟨t, rfl, ⟨_, ht⟩, fun D hD => ?_⟩
    obtain ⟨H1, e1, s1, hd⟩ := new_heap (o := .lst []) hD
    refine lc_tup (K := K) (a := t) (xs := cs.map V.str) (fun i H' => Same H H' ∧ H' D = some (.lst ((among (cs.take i) ks).map V.str))) ⟨by rw [e1]; exact s1, by rw [e1]; exact hd⟩ ?_ ?_ ?_
    · rintro i H' _ ⟨s2, _⟩
      exact SqT.ext ht s2
    · rintro i x H2 hx ⟨s2, h2⟩
      obtain ⟨c, hc, rfl⟩ := str_at hx
      walk_at "rd"
      refine ⟨rfl, ?_⟩
      walk_at "rd"
      refine in_at (.inr (SqT.ext hu s2)) ⟨_, rfl, ?_⟩
      refine ite_d (fun hm => ?_) (fun hm => ?_)
      · walk_at "rd"
        refine ⟨_, h2, size_lt ?_, Same.mut s2 hD, ?_⟩
        · rw [List.length_map]
          refine Nat.le_trans (List.length_filter_le ..) ?_
          rw [List.length_take]
          omega
        · rw [among_snoc hc, if_pos hm, List.map_append]
          exact upd_same
      · refine ⟨s2, ?_⟩
        rw [among_snoc hc, if_neg hm]
        exact h2
    · rintro H2 ⟨s2, h2⟩
      rw [List.length_map, List.take_length] at h2
      walk_at "rd"
      refine ⟨D, _, rfl, .inl ⟨SqL.of h2, fun p hp => ?_⟩⟩
      obtain ⟨H3, e3, s3, h3⟩ := new_heap (o := .tup ((among cs ks).map V.str)) hp
      rw [e3]
      exact q p H3 (fun b o z => s3 _ _ (s2 _ _ z)) h3
end
end Spk

set_option Elab.async false
set_option linter.all false
set_option maxRecDepth 100000
set_option maxHeartbeats 2000000
namespace Spk
open PySem L2
local macro_rules | `(tactic| walk_at "rd") => `(tactic| repeat (first
  | with_reducible refine i_seq ?_ | with_reducible refine i_asg ?_ | with_reducible refine i_ret ?_ | with_reducible refine i_ifS ?_ | with_reducible refine i_if ?_
  | with_reducible refine i_for ?_ | with_reducible refine i_iL ?_ | with_reducible refine i_iT ?_ | with_reducible refine i_ckw ?_ | with_reducible refine i_cm ?_ | with_reducible refine And.intro (rfl : V.ref _ = V.ref _) ?_ | with_reducible refine i_rng1 ?_ | with_reducible refine i_bm ?_ | with_reducible refine i_bm0 ?_
  | with_reducible refine i_drop ?_ | with_reducible refine i_next ?_
  | with_reducible refine i_var rfl ?_ | with_reducible refine i_c ?_ | with_reducible refine i_op ?_ | with_reducible refine i_un ?_ | with_reducible refine i_name ?_
  | with_reducible refine i_rI0 ?_ | with_reducible refine i_rU ?_ | with_reducible refine i_rEq rfl ?_ | with_reducible refine i_rNe rfl ?_
  | with_reducible refine i_test ?_ | with_reducible refine i_tB ?_ | with_reducible refine i_and ?_ | with_reducible refine i_or ?_ | with_reducible refine i_not ?_
  | with_reducible refine i_andV ?_ | with_reducible refine i_orV ?_ | with_reducible refine i_notV ?_
  | with_reducible refine i_cons ?_ | with_reducible refine i_nil ?_ | with_reducible refine i_cb ?_ | with_reducible refine i_call ?_ | with_reducible refine i_bl ?_
  | with_reducible refine i_tup ?_ | with_reducible refine i_lst ?_ | with_reducible refine i_par ?_ | with_reducible refine i_gcons ?_ | with_reducible refine i_gnil ?_
  | with_reducible refine And.intro (rfl : V.non = V.non) ?_ | with_reducible refine i_ixT (by assumption) rfl ?_ | with_reducible refine i_ixL (by assumption) rfl ?_ | with_reducible refine i_gtup (by assumption) rfl ?_
  | with_reducible refine i_gsub ?_
  | with_reducible refine Or.inl (Exists.intro _ (And.intro (rfl : [V.int _] = [V.int _]) ?_)) | with_reducible refine Exists.intro _ (And.intro (rfl : [V.int _] = [V.int _]) ?_)
  | with_reducible refine Or.inr (Exists.intro _ (And.intro (rfl : [V.bl _] = [V.bl _]) ?_))
  | with_reducible refine Exists.intro _ (Exists.intro _ (And.intro (rfl : [V.int _, V.int _] = [V.int _, V.int _]) ?_))
  | with_reducible refine Exists.intro _ (Exists.intro _ (And.intro (rfl : [V.ref _] = [V.ref _]) (And.intro (Or.inl (SqL.of (by assumption))) ?_)))
  | with_reducible refine i_rI (show (0 : Int) < _ by assumption) ?_ | with_reducible refine i_rI (show (0 : Int) < _ by decide) ?_
  | with_reducible refine i_rI (pow_ok (Nat.le_of_ble_eq_true rfl) (Nat.le_of_ble_eq_true rfl)) ?_
  | with_reducible refine i_rI (cmulL rfl) ?_))
/-! ### the error InvalidTable -/
structure XIt (K : PySem.W.Frag) (mg : Str → Option Value) (CI fX : Addr) : Prop where
  o : OexC K CI
  iC : PySem.W.findIn K (.ref CI) "__init__" = some (some (.ref fX))
  tI : PySem.W.typeIn K (.ref fX) = some (.type "function")
  g : mg "InvalidTable" = some (.ref CI)
  noR : PySem.W.findIn K (.ref CI) "reason" = some none
theorem i_ost {K : PySem.W.Frag} {f : Str} {to te : TE} {D : Ends} {σ : L2.St} {H : Hp} (h : te σ H fun y H1 => to σ H1 fun x H2 => ∃ a C, x = V.ref a ∧ OexC K C ∧ PySem.W.findIn K (Value.ref C) f = some none ∧
              ((H2 a = some (exo a C none) ∧ ∀ (dx : Addr), H2 dx = none → dx ≠ a → D.nx σ (upd (upd H2 dx (exd dx [(f, y)])) a (exo a C (some dx)))) ∨
                ∃ dx fs, H2 a = some (exo a C (some dx)) ∧ H2 dx = some (exd dx fs) ∧ fs.length ≤ 900 ∧ D.nx σ (upd H2 dx (exd dx ((f, y) :: fs))))) : tOst K f to te D σ H := h
section
variable {P : Program} {w : World} {K : PySem.W.Frag} {mg : Str → Option Value} {base : Heap} {CI fX : Addr}
abbrev s_InvalidTable__init : Stmt := inClass (top 3) 0
theorem sc_InvalidTable__init : FnScope ["self", "reason"] ["self", "reason"] (defScope s_InvalidTable__init) := ⟨rfl, rfl, rfl, by decide +kernel, rfl, by decide +kernel, by decide +kernel⟩
def sp_iinit (CI : Addr) : Sp := fun vs H Q _ => ∃ a y, vs = [.ref a, y] ∧ H a = some (exo a CI none) ∧ ∀ dx, H dx = none → dx ≠ a → Q .non (upd (upd H dx (exd dx [("reason", y)])) a (exo a CI (some dx)))
theorem ok_iinit {fd : FuncData} (F : Fun K "__init__" "InvalidTable.__init__" s_InvalidTable__init fX fd) (XI : XIt K mg CI fX) : FnOk P w K mg base CX0 1 fX fd ["self", "reason"] (sp_iinit CI) := by
  refine F.ok sc_InvalidTable__init (fun vs H Q E h => ?_) (fun cdv A outer s H vs Q E hr h => ?_)
  · obtain ⟨a, y, rfl, _⟩ := h
    rfl
  · obtain ⟨a, y, rfl, ha, q⟩ := h
    refine ⟨_, (pss_one (ps_ost (pv 0) (pv 1))), ?_⟩
    refine i_ost ?_
    walk_at "rd"
    exact ⟨a, CI, rfl, XI.o, XI.noR, .inl ⟨ha, fun dx hdx hne => q dx hdx hne⟩⟩
/-- «an InvalidTable with this reason» -/
abbrev Told (CI : Addr) (H : Hp) (E : XK) (r : Str) : Prop := ∀ d H', Same H H' → H' d = some (.xd [("reason", .str r)]) → E (.ref CI) (some d) H'
theorem err_at {H : Hp} {r : Str} {E : XK} (q : Told CI H E r) : tMkO CI (sp_iinit CI) [] (tCons (tC (.str r)) tNil) [] H E := by
  refine ⟨by show 1 ≤ 1000; decide, fun a ha => ⟨a, .str r, rfl, upd_same, fun dx hdx hne => ⟨rfl, dx, [("reason", .str r)], upd_same, by rw [upd_ne hne]; exact upd_same, ?_, q dx _ (fun b o e => ?_) upd_same⟩⟩⟩
  · rw [upd_ne hne] at hdx
    exact hdx
  · have n1 : b ≠ a := ne_of_none e ha
    have n2 : b ≠ dx := fun z => by
      rw [z] at e
      rw [upd_ne hne, e] at hdx
      cases hdx
    rw [upd_ne n2]
    unfold del
    rw [if_neg n1, upd_ne n1, upd_ne n2, upd_ne n1]
    exact e
theorem i_raise {C : Addr} {sp : Sp} {ta : TA} {W : WX} {D : Ends} {σ : L2.St} {H : Hp} (h : tMkO C sp [] ta σ H fun cls d H' => W cls d σ H') : (fun (_ : Ends) σ H => tMkO C sp [] ta σ H fun cls d H' => W cls d σ H') D σ H := h
end
/-! ### the class Table -/
structure ClsT (K : PySem.W.Frag) (mg : Str → Option Value) (C fI : Addr) (mc : Value) (p g : Addr) : Prop where
  cl : Cls K C
  nC : NoAttr K C "columns"
  nK : NoAttr K C "key"
  nF : NoAttr K C "fixed"
  nU : NoAttr K C "unique"
  nR : NoAttr K C "reuse"
  M : Mk K C fI
  g_C : mg "Table" = some (.ref C)
  rd : ClX.CRead K C mc
  of : ClX.CMet K C mc "of" p g
  most : ∃ u, ClX.CVal K C mc "MOST_COLUMNS" (.int 4) u
abbrev flds (tc tk tf tu : Addr) (r : Bool) : List (Str × V) := [("columns", .ref tc), ("key", .ref tk), ("fixed", .ref tf), ("unique", .ref tu), ("reuse", .bl r)]
/-- what a table tells: columns, key, fixed, unique, reuse -/
structure Tb where
  cs : List Str
  ks : List Str
  fs : List Str
  us : List Str
  r : Bool
/-- a table -/
def Tab (C : Addr) (H : Hp) (x : Addr) (t : Tb) : Prop := ∃ dx tc tk tf tu, H x = some (.ins C dx (flds tc tk tf tu t.r)) ∧ TupF H tc (t.cs.map V.str) ∧ H tk = some (.tup (t.ks.map V.str)) ∧ H tf = some (.tup (t.fs.map V.str)) ∧ H tu = some (.tup (t.us.map V.str))
theorem Tab.up {C : Addr} {H H' : Hp} {x : Addr} {t : Tb} (e : Same H H') (h : Tab C H x t) : Tab C H' x t := by
  obtain ⟨dx, tc, tk, tf, tu, h1, h2, h3, h4, h5⟩ := h
  exact ⟨dx, tc, tk, tf, tu, e _ _ h1, h2.up e, e _ _ h3, e _ _ h4, e _ _ h5⟩
theorem lk_columns {tc tk tf tu : Addr} {r : Bool} : (flds tc tk tf tu r).lookup ("columns" : Str) = some (.ref tc) := by
  simp only [List.lookup, beq_self_eq_true]
theorem lk_key {tc tk tf tu : Addr} {r : Bool} : (flds tc tk tf tu r).lookup ("key" : Str) = some (.ref tk) := by
  simp only [List.lookup, beq_self_eq_true, show (("key" : Str) == "columns") = false from rfl]
theorem lk_fixed {tc tk tf tu : Addr} {r : Bool} : (flds tc tk tf tu r).lookup ("fixed" : Str) = some (.ref tf) := by
  simp only [List.lookup, beq_self_eq_true, show (("fixed" : Str) == "columns") = false from rfl, show (("fixed" : Str) == "key") = false from rfl]
theorem lk_unique {tc tk tf tu : Addr} {r : Bool} : (flds tc tk tf tu r).lookup ("unique" : Str) = some (.ref tu) := by
  simp only [List.lookup, beq_self_eq_true, show (("unique" : Str) == "columns") = false from rfl, show (("unique" : Str) == "key") = false from rfl, show (("unique" : Str) == "fixed") = false from rfl]
theorem lk_reuse {tc tk tf tu : Addr} {r : Bool} : (flds tc tk tf tu r).lookup ("reuse" : Str) = some (.bl r) := by
  simp only [List.lookup, beq_self_eq_true, show (("reuse" : Str) == "columns") = false from rfl, show (("reuse" : Str) == "key") = false from rfl, show (("reuse" : Str) == "fixed") = false from rfl, show (("reuse" : Str) == "unique") = false from rfl]
theorem i_cval {K : PySem.W.Frag} {ta : TE} {f : Str} {σ : L2.St} {H : Hp} {Q : VK} (h : ta σ H fun x H1 => ∃ C mc v u, x = .ref C ∧ ClX.CRead K C mc ∧ ClX.CVal K C mc f v u ∧ Q v H1) : ClX.tCVal K ta f σ H Q := h
theorem i_fld {K : PySem.W.Frag} {ta tv : TE} {f : Str} {D : Ends} {σ : L2.St} {H : Hp} (h : tv σ H fun y H1 => ta σ H1 fun x H2 => ∃ a C dx fs, x = V.ref a ∧ H2 a = some (HO.ins C dx fs) ∧ Cls K C ∧ NoAttr K C f ∧ fs.length < 1000 ∧ D.nx σ (upd H2 a (HO.ins C dx (putF f y fs)))) : sFld K ta tv f D σ H := h
/-- all but x is as it was -/
def Off (x : Addr) (H H' : Hp) : Prop := ∀ b o, b ≠ x → H b = some o → H' b = some o
theorem Off.refl (x : Addr) (H : Hp) : Off x H H := fun _ _ _ h => h
theorem Off.trans {x : Addr} {H H1 H2 : Hp} (a : Off x H H1) (b : Off x H1 H2) : Off x H H2 := fun c o n h => b c o n (a c o n h)
theorem off_of {x : Addr} {H H' : Hp} (e : Same H H') : Off x H H' := fun b o _ h => e b o h
theorem off_upd {x : Addr} {H : Hp} {o : HO} : Off x H (upd H x o) := fun b u n h => by
  rw [upd_ne n]
  exact h
theorem sqt_off {K : PySem.W.Frag} {x C dx a : Addr} {fs : List (Str × V)} {H H' : Hp} {xs : List V} (e : Off x H H') (hx : H x = some (.ins C dx fs)) (h : SqT K H a xs) : SqT K H' a xs := by
  rcases h with (h | ⟨o, h⟩) | h
  · exact .inl (.inl (e a _ (fun z => by rw [z, hx] at h; cases h) h))
  · exact .inl (.inr ⟨o, e a _ (fun z => by rw [z, hx] at h; cases h) h⟩)
  · exact .inr h
theorem tuf_off {x C dx a : Addr} {fs : List (Str × V)} {H H' : Hp} {xs : List V} (e : Off x H H') (hx : H x = some (.ins C dx fs)) (h : TupF H a xs) : TupF H' a xs := by
  obtain ⟨o, h, r⟩ := h
  exact ⟨o, e a _ (fun z => by rw [z, hx] at h; cases h) h, r⟩
/-- the texts among the values -/
def strsOf (xs : List V) : List Str := xs.filterMap fun | .str z => some z | _ => none
theorem strsOf_map (cs : List Str) : strsOf (cs.map V.str) = cs := by
  unfold strsOf
  rw [List.filterMap_map]
  induction cs with
  | nil => rfl
  | cons c cs ih =>
    rw [List.filterMap_cons]
    simp only [Function.comp]
    rw [show List.filterMap ((fun | V.str z => some z | _ => none) ∘ V.str) cs = cs from ih]
abbrev othersOf (cs ks : List Str) : List Str := cs.filter fun c => !decide (c ∈ ks)
/-- what is wrong first -/
def dueT (xs : List V) (js : List Bool) (ks fs us : List Str) : Option Str :=
  if (namesB xs js && decide (xs.length ≤ 4)) = false then some ("columns" : Str) else
  if (chosenB ks (strsOf xs) && (decide (1 ≤ ks.length) && decide (ks.length ≤ 2))) = false then some ("key" : Str) else
  if chosenB fs (othersOf (strsOf xs) ks) = false then some ("fixed" : Str) else
  if chosenB us (othersOf (strsOf xs) ks) = false then some ("unique" : Str) else none
theorem others_snoc {cs ks : List Str} {i : Nat} {c : Str} (h : cs[i]? = some c) : othersOf (cs.take (i + 1)) ks = if c ∈ ks then othersOf (cs.take i) ks else othersOf (cs.take i) ks ++ [c] := by
  unfold othersOf
  rw [take_snoc h, List.filter_append]
  by_cases e : c ∈ ks
  · rw [if_pos e]
    simp [e]
  · rw [if_neg e]
    simp [e]
end Spk

set_option Elab.async false
set_option linter.all false
set_option maxRecDepth 100000
set_option maxHeartbeats 4000000
namespace Spk
open PySem L2
local macro_rules | `(tactic| walk_at "rd") => `(tactic| repeat (first
  | with_reducible refine i_seq ?_ | with_reducible refine i_asg ?_ | with_reducible refine i_ret ?_ | with_reducible refine i_ifS ?_ | with_reducible refine i_if ?_
  | with_reducible refine i_for ?_ | with_reducible refine i_iL ?_ | with_reducible refine i_iT ?_ | with_reducible refine i_ckw ?_ | with_reducible refine i_cm ?_ | with_reducible refine And.intro (rfl : V.ref _ = V.ref _) ?_ | with_reducible refine i_rng1 ?_ | with_reducible refine i_bm ?_ | with_reducible refine i_bm0 ?_
  | with_reducible refine i_drop ?_ | with_reducible refine i_next ?_
  | with_reducible refine i_var rfl ?_ | with_reducible refine i_c ?_ | with_reducible refine i_op ?_ | with_reducible refine i_un ?_ | with_reducible refine i_name ?_
  | with_reducible refine i_rI0 ?_ | with_reducible refine i_rU ?_ | with_reducible refine i_rEq rfl ?_ | with_reducible refine i_rNe rfl ?_
  | with_reducible refine i_test ?_ | with_reducible refine i_tB ?_ | with_reducible refine i_and ?_ | with_reducible refine i_or ?_ | with_reducible refine i_not ?_
  | with_reducible refine i_andV ?_ | with_reducible refine i_orV ?_ | with_reducible refine i_notV ?_
  | with_reducible refine i_cons ?_ | with_reducible refine i_nil ?_ | with_reducible refine i_cb ?_ | with_reducible refine i_call ?_ | with_reducible refine i_bl ?_
  | with_reducible refine i_tup ?_ | with_reducible refine i_lst ?_ | with_reducible refine i_par ?_ | with_reducible refine i_gcons ?_ | with_reducible refine i_gnil ?_
  | with_reducible refine And.intro (rfl : V.non = V.non) ?_ | with_reducible refine i_ixT (by assumption) rfl ?_ | with_reducible refine i_ixL (by assumption) rfl ?_ | with_reducible refine i_gtup (by assumption) rfl ?_
  | with_reducible refine i_gsub ?_
  | with_reducible refine Or.inl (Exists.intro _ (And.intro (rfl : [V.int _] = [V.int _]) ?_)) | with_reducible refine Exists.intro _ (And.intro (rfl : [V.int _] = [V.int _]) ?_)
  | with_reducible refine Or.inr (Exists.intro _ (And.intro (rfl : [V.bl _] = [V.bl _]) ?_))
  | with_reducible refine Exists.intro _ (Exists.intro _ (And.intro (rfl : [V.int _, V.int _] = [V.int _, V.int _]) ?_))
  | with_reducible refine Exists.intro _ (Exists.intro _ (And.intro (rfl : [V.ref _] = [V.ref _]) (And.intro (Or.inl (SqL.of (by assumption))) ?_)))
  | with_reducible refine i_rI (show (0 : Int) < _ by assumption) ?_ | with_reducible refine i_rI (show (0 : Int) < _ by decide) ?_
  | with_reducible refine i_rI (pow_ok (Nat.le_of_ble_eq_true rfl) (Nat.le_of_ble_eq_true rfl)) ?_
  | with_reducible refine i_rI (cmulL rfl) ?_))
section
variable {P : Program} {w : World} {K : PySem.W.Frag} {mg : Str → Option Value} {base : Heap} {C fI p g CI fX : Addr} {mc : Value}
abbrev s_Table__init : Stmt := inClass (top 9) 1
theorem sc_Table__init : FnScope ["self", "key", "fixed", "unique", "reuse", "columns", "others", "column"] ["self", "key", "fixed", "unique", "reuse", "columns"] (defScope s_Table__init) := ⟨rfl, rfl, rfl, by decide +kernel, rfl, by decide +kernel, by decide +kernel⟩
def sp_tinit (K : PySem.W.Frag) (C CI : Addr) : Sp := fun vs H Q E => ∃ x dx tk tf tu p, ∃ xs js, ∃ ks fs us : List Str, ∃ r : Bool, vs = [.ref x, .ref tk, .ref tf, .ref tu, .bl r, .ref p] ∧ H x = some (.ins C dx []) ∧ TupF H p xs ∧ xs.length ≤ 100 ∧ Paired (NmV K H) xs js ∧
  TuS K H tk (ks.map V.str) ∧ TuS K H tf (fs.map V.str) ∧ TuS K H tu (us.map V.str) ∧ ks.length ≤ 100 ∧ fs.length ≤ 100 ∧ us.length ≤ 100 ∧
  (∀ rs, dueT xs js ks fs us = some rs → Told CI H E rs) ∧
  (∀ cs, dueT xs js ks fs us = none → xs = cs.map V.str → ∀ H', Off x H H' → Tab C H' x ⟨cs, among cs ks, among cs fs, among cs us, r⟩ → Q .non H')
theorem told_up {CI : Addr} {H H' : Hp} {E : XK} {r : Str} (s : Same H H') (h : Told CI H E r) : Told CI H' E r := fun d H2 s2 hd => h d H2 (fun b o z => s2 _ _ (s _ _ z)) hd
theorem run_tinit {fA fC fO : Addr} {fdA fdC fdO fdX : FuncData} (T : ClsT K mg C fI mc p g) (XI : XIt K mg CI fX) (B_iinit : Binds K fdX ["self", "reason"] []) (G_iinit : FnOk P w K mg base CX0 1 fX fdX ["self", "reason"] (sp_iinit CI))
    (F_are_names : Fun K "are_names" "are_names" s_are_names fA fdA) (B_are_names : Binds K fdA ["things"] []) (g_are_names : mg "are_names" = some (.ref fA)) (G_are_names : FnOk P w K mg base CX0 2 fA fdA ["things"] (sp_are_names K))
    (F_are_chosen : Fun K "are_chosen" "are_chosen" s_are_chosen fC fdC) (B_are_chosen : Binds K fdC ["names", "columns"] []) (g_are_chosen : mg "are_chosen" = some (.ref fC)) (G_are_chosen : FnOk P w K mg base CX0 1 fC fdC ["names", "columns"] (sp_are_chosen K))
    (F_in_order_of : Fun K "in_order_of" "in_order_of" s_in_order_of fO fdO) (B_in_order_of : Binds K fdO ["columns", "names"] []) (g_in_order_of : mg "in_order_of" = some (.ref fO)) (G_in_order_of : FnOk P w K mg base CX0 1 fO fdO ["columns", "names"] (sp_in_order_of K))
    (z_len : mg "len" = none) {f : Addr} {cdv : Value} {A : Around} {outer : List Env} {s : Shared} {H : Hp} {vs : List V} {Q : VK} {E : XK} (hr : Room 2 (A.deeper (PyProof.Rows.envOfC "Table.__init__" (defScope s_Table__init) s.heap.objs.size f cdv))) (h : sp_tinit K C CI vs H Q E) :
    ∃ t, PSs (cxOf (L2.CX P w) P w K mg base ["self", "key", "fixed", "unique", "reuse", "columns", "others", "column"] "Table.__init__" (defScope s_Table__init) f cdv A outer s H E) (defBody s_Table__init) t ∧ t { nx := fun _ H1 => Q .non H1, rt := Q } (L2.start ["self", "key", "fixed", "unique", "reuse", "columns", "others", "column"] vs) H := by
  have g_C := T.g_C
  obtain ⟨u4, hmost⟩ := T.most
  obtain ⟨x, dx, tk, tf, tu, p, xs, js, ks, fs, us, r, rfl, hx, hp, hz, nm, hk, hf, hu, kz, fz, uz, qe, q⟩ := h
  refine ⟨_, (pss_cons (ps_if (pt_not (PW.pt (pw_and (pt_val (pe_call G_are_names (hr.mono (by decide)) rfl g_are_names F_are_names.kp B_are_names .nil pass0 (pa_cons (pv 5) pa_nil))) (pw_and1 (pt_cmpR op_le (pe_callB call_len_seq (by rfl) z_len PySem.boot_len (pa_cons (pv 5) pa_nil)) (ClX.pe_cval (pe_glob rfl g_C (relR _)) rfl) (nomark _))))))
 (pss_one (ps_raise rfl (takes_of rfl rfl rfl rfl) (pmk_oex XI.o XI.iC XI.tI G_iinit (hr.mono (by decide)) B_iinit .nil pass0 rfl XI.g (pa_cons pe_str pa_nil))))
 pss_nil)
 (pss_cons (ps_if (pt_not (PW.pt (pw_and (pt_val (pe_call G_are_chosen (hr.mono (by decide)) rfl g_are_chosen F_are_chosen.kp B_are_chosen .nil pass0 (pa_cons (pv 1) (pa_cons (pv 5) pa_nil)))) (pw_and1 (pt_chain op_le op_le pe_int (pe_callB call_len_seq (by rfl) z_len PySem.boot_len (pa_cons (pv 1) pa_nil)) pe_int)))))
 (pss_one (ps_raise rfl (takes_of rfl rfl rfl rfl) (pmk_oex XI.o XI.iC XI.tI G_iinit (hr.mono (by decide)) B_iinit .nil pass0 rfl XI.g (pa_cons pe_str pa_nil))))
 pss_nil)
 (pss_cons (ps_setLc (i := 6) (own := [("column", 7)]) (g := gName 7) rfl sc_Table__init.nd rfl rfl (sw_true rfl rfl rfl (by decide +kernel)) (pi_tup (pv 5)) (blkOk_by (own := [("column", 7)]) (N := ["self", "key", "fixed", "unique", "reuse", "columns", "others", "column"]) (sc := defScope s_Table__init) (by decide +kernel)) (fun _ _ _ _ _ => pg_name (i := 7) sc_Table__init.nd rfl (Or.inl rfl)) (fun _ _ _ _ _ => pts_one (pt_cmpR (op_notInK (K := K) rfl) (pv 7) (pv 1) (by rfl))) (fun _ _ _ _ _ => (pv 7)))
 (pss_cons (ps_if (pt_not (pt_val (pe_call G_are_chosen (hr.mono (by decide)) rfl g_are_chosen F_are_chosen.kp B_are_chosen .nil pass0 (pa_cons (pv 2) (pa_cons (pv 6) pa_nil)))))
 (pss_one (ps_raise rfl (takes_of rfl rfl rfl rfl) (pmk_oex XI.o XI.iC XI.tI G_iinit (hr.mono (by decide)) B_iinit .nil pass0 rfl XI.g (pa_cons pe_str pa_nil))))
 pss_nil)
 (pss_cons (ps_if (pt_not (pt_val (pe_call G_are_chosen (hr.mono (by decide)) rfl g_are_chosen F_are_chosen.kp B_are_chosen .nil pass0 (pa_cons (pv 3) (pa_cons (pv 6) pa_nil)))))
 (pss_one (ps_raise rfl (takes_of rfl rfl rfl rfl) (pmk_oex XI.o XI.iC XI.tI G_iinit (hr.mono (by decide)) B_iinit .nil pass0 rfl XI.g (pa_cons pe_str pa_nil))))
 pss_nil)
 (pss_cons (ps_fld (pv 0) (pv 5) rfl)
 (pss_cons (ps_fld (pv 0) (pe_call G_in_order_of (hr.mono (by decide)) rfl g_in_order_of F_in_order_of.kp B_in_order_of .nil pass0 (pa_cons (pv 5) (pa_cons (pv 1) pa_nil))) rfl)
 (pss_cons (ps_fld (pv 0) (pe_call G_in_order_of (hr.mono (by decide)) rfl g_in_order_of F_in_order_of.kp B_in_order_of .nil pass0 (pa_cons (pv 5) (pa_cons (pv 2) pa_nil))) rfl)
 (pss_cons (ps_fld (pv 0) (pe_call G_in_order_of (hr.mono (by decide)) rfl g_in_order_of F_in_order_of.kp B_in_order_of .nil pass0 (pa_cons (pv 5) (pa_cons (pv 3) pa_nil))) rfl)
 (pss_one (ps_fld (pv 0) (pv 4) rfl))))))))))), ?_⟩
  have jl : xs.length = js.length := Paired.length nm
  walk_at "rd"
  refine ⟨p, xs, js, rfl, hp.seq, hz, nm, fun H1 s1 => ⟨_, rfl, ?_⟩⟩
  -- «columns»
  by_cases cc : (namesB xs js && decide (xs.length ≤ 4)) = false
  · have d1 : dueT xs js ks fs us = some ("columns" : Str) := by unfold dueT; rw [if_pos cc]
    have qx := told_up s1 (qe _ d1)
    cases hn : namesB xs js with
    | false =>
      refine iteF ?_
      refine iteT ?_
      exact err_at qx
    | true =>
      rw [hn, Bool.true_and] at cc
      refine iteT ?_
      walk_at "rd"
      refine ⟨p, _, rfl, .inr (SqT.ext hp.seq s1), ?_⟩
      refine i_cval ?_
      walk_at "rd"
      refine ⟨C, mc, .int 4, u4, rfl, T.rd, hmost, ?_⟩
      walk_at "rd"
      rw [decide_eq_false (show ¬ (xs.length : Int) ≤ 4 by have := of_decide_eq_false cc; omega)]
      refine iteT ?_
      exact err_at qx
  have cc' : (namesB xs js && decide (xs.length ≤ 4)) = true := by simpa using cc
  obtain ⟨hn, h4⟩ := Bool.and_eq_true_iff.mp cc'
  have x4 : xs.length ≤ 4 := of_decide_eq_true h4
  rw [hn]
  refine iteT ?_
  walk_at "rd"
  refine ⟨p, _, rfl, .inr (SqT.ext hp.seq s1), ?_⟩
  refine i_cval ?_
  walk_at "rd"
  refine ⟨C, mc, .int 4, u4, rfl, T.rd, hmost, ?_⟩
  walk_at "rd"
  rw [decide_eq_true (show (xs.length : Int) ≤ 4 by omega)]
  refine iteF ?_
  have ha : js.all id = true := by
    unfold namesB at hn
    exact (Bool.and_eq_true_iff.mp (Bool.and_eq_true_iff.mp hn).2).1
  obtain ⟨cs, rfl, _⟩ := names_of nm ha
  have cz : cs.length ≤ 4 := by simpa using x4
  have so := strsOf_map cs
  walk_at "rd"
  refine ⟨tk, p, ks, cs, rfl, hk.up s1, .inr (SqT.ext hp.seq s1), kz, fun H2 s2 => ⟨_, rfl, ?_⟩⟩
  have s02 : Same H H2 := fun b o z => s2 _ _ (s1 _ _ z)
  have sk2 : SqT K H2 tk (ks.map V.str) := SqT.ext hk.1 s02
  -- «key»
  by_cases kk : (chosenB ks cs && (decide (1 ≤ ks.length) && decide (ks.length ≤ 2))) = false
  · have d1 : dueT (cs.map V.str) js ks fs us = some ("key" : Str) := by unfold dueT; rw [if_neg cc, so, if_pos kk]
    have qx := told_up s02 (qe _ d1)
    cases hcb : chosenB ks cs with
    | false =>
      refine iteF ?_
      refine iteT ?_
      exact err_at qx
    | true =>
      rw [hcb, Bool.true_and] at kk
      refine iteT ?_
      walk_at "rd"
      refine i_chain ?_
      walk_at "rd"
      refine ⟨tk, _, rfl, .inr sk2, ?_⟩
      walk_at "rd"
      rw [List.length_map]
      by_cases k1 : 1 ≤ ks.length
      · rw [decide_eq_true (show (1 : Int) ≤ (ks.length : Int) by omega)]
        rw [decide_eq_true k1, Bool.true_and] at kk
        refine iteT ?_
        walk_at "rd"
        rw [decide_eq_false (show ¬ (ks.length : Int) ≤ 2 by have := of_decide_eq_false kk; omega)]
        refine iteT ?_
        exact err_at qx
      · rw [decide_eq_false (show ¬ (1 : Int) ≤ (ks.length : Int) by omega)]
        refine iteF ?_
        refine ⟨false, rfl, iteT ?_⟩
        exact err_at qx
  have kk' : (chosenB ks cs && (decide (1 ≤ ks.length) && decide (ks.length ≤ 2))) = true := by simpa using kk
  obtain ⟨hcb, k12⟩ := Bool.and_eq_true_iff.mp kk'
  obtain ⟨k1, k2⟩ := Bool.and_eq_true_iff.mp k12
  have k1 := of_decide_eq_true k1
  have k2 := of_decide_eq_true k2
  rw [hcb]
  refine iteT ?_
  walk_at "rd"
  refine i_chain ?_
  walk_at "rd"
  refine ⟨tk, _, rfl, .inr sk2, ?_⟩
  walk_at "rd"
  rw [List.length_map, decide_eq_true (show (1 : Int) ≤ (ks.length : Int) by omega)]
  refine iteT ?_
  walk_at "rd"
  rw [decide_eq_true (show (ks.length : Int) ≤ 2 by omega)]
  refine iteF ?_
  walk_at "rd"
  have hx2 : H2 x = some (.ins C dx []) := s02 _ _ hx
  have hp2 : TupF H2 p (cs.map V.str) := hp.up s02
  have hf2 := hf.up s02
  have hu2 := hu.up s02
  unfold tLc
  walk_at "rd"
  refine ⟨p, rfl, ⟨_, hp2.seq⟩, fun D hD => ?_⟩
  obtain ⟨H3, e3, s3, h3⟩ := new_heap (o := .lst []) hD
  refine lc_tup (K := K) (a := p) (xs := cs.map V.str) (fun i H' => Same H2 H' ∧ H' D = some (.lst ((othersOf (cs.take i) ks).map V.str))) ⟨by rw [e3]; exact s3, by rw [e3]; exact h3⟩ ?_ ?_ ?_
  · rintro i H' _ ⟨s4, _⟩
    exact SqT.ext hp2.seq s4
  · rintro i y H4 hy ⟨s4, h4⟩
    obtain ⟨c, hc, rfl⟩ := str_at hy
    have hi : i < cs.length := (List.getElem?_eq_some_iff.mp hc).1
    walk_at "rd"
    refine ⟨rfl, ?_⟩
    walk_at "rd"
    refine notIn_at (.inr (SqT.ext sk2 s4)) ⟨_, rfl, ?_⟩
    refine ite_nd (fun hm => ?_) (fun hm => ?_)
    · walk_at "rd"
      refine ⟨_, h4, size_lt ?_, Same.mut s4 hD, ?_⟩
      · rw [List.length_map]
        refine Nat.le_trans (List.length_filter_le ..) ?_
        rw [List.length_take]
        omega
      · rw [others_snoc hc, if_neg hm, upd_same, List.map_append]
        rfl
    · refine ⟨s4, ?_⟩
      rw [others_snoc hc, if_pos hm]
      exact h4
  · rintro H4 ⟨s4, h4⟩
    rw [List.length_map, List.take_length] at h4
    walk_at "rd"
    have s04 : Same H H4 := fun b o z => s4 _ _ (s02 _ _ z)
    refine ⟨tf, D, fs, othersOf cs ks, rfl, hf2.up s4, .inl (SqL.of h4), fz, fun H5 s5 => ⟨_, rfl, ?_⟩⟩
    have s05 : Same H H5 := fun b o z => s5 _ _ (s04 _ _ z)
    -- «fixed»
    cases ff : chosenB fs (othersOf cs ks) with
    | false =>
      have d1 : dueT (cs.map V.str) js ks fs us = some ("fixed" : Str) := by unfold dueT; rw [if_neg cc, so, if_neg kk, if_pos ff]
      refine iteT ?_
      exact err_at (told_up s05 (qe _ d1))
    | true =>
    refine iteF ?_
    walk_at "rd"
    refine ⟨tu, D, us, othersOf cs ks, rfl, (hu2.up s4).up s5, .inl (SqL.of (s5 _ _ h4)), uz, fun H6 s6 => ⟨_, rfl, ?_⟩⟩
    have s06' : Same H H6 := fun b o z => s6 _ _ (s05 _ _ z)
    -- «unique»
    cases uu : chosenB us (othersOf cs ks) with
    | false =>
      have d1 : dueT (cs.map V.str) js ks fs us = some ("unique" : Str) := by unfold dueT; rw [if_neg cc, so, if_neg kk, if_neg (by rw [ff]; decide), if_pos uu]
      refine iteT ?_
      exact err_at (told_up s06' (qe _ d1))
    | true =>
    have dn : dueT (cs.map V.str) js ks fs us = none := by unfold dueT; rw [if_neg cc, so, if_neg kk, if_neg (by rw [ff]; decide), if_neg (by rw [uu]; decide)]
    have q := q cs dn rfl
    refine iteF ?_
    walk_at "rd"
    have s26 : Same H2 H6 := fun b o z => s6 _ _ (s5 _ _ (s4 _ _ z))
    have hx6 : H6 x = some (.ins C dx []) := s26 _ _ hx2
    have s06 : Same H H6 := fun b o z => s26 _ _ (s02 _ _ z)
    have hp6 := hp2.up s26
    have hk6 : SqT K H6 tk (ks.map V.str) := SqT.ext sk2 s26
    have hf6 := (hf2.up s26).1
    have hu6 := (hu2.up s26).1
    refine i_fld ?_
    walk_at "rd"
    refine ⟨x, C, dx, [], rfl, hx6, T.cl, T.nC, (by show 0 < 1000; decide), ?_⟩
    obtain ⟨H7, e7⟩ : ∃ H7, upd H6 x (.ins C dx (putF "columns" (.ref p) [])) = H7 := ⟨_, rfl⟩
    have o7 : Off x H6 H7 := by rw [← e7]; exact off_upd
    have hx7 : H7 x = some (.ins C dx [("columns", .ref p)]) := by rw [← e7, upd_same]; rfl
    rw [e7]
    walk_at "rd"
    refine i_fld ?_
    walk_at "rd"
    refine ⟨p, tk, cs, ks, rfl, (tuf_off o7 hx6 hp6).seq, sqt_off o7 hx6 hk6, by omega, fun q1 H8 s8 h8 => ?_⟩
    walk_at "rd"
    have hx8 := s8 _ _ hx7
    refine ⟨x, C, dx, _, rfl, hx8, T.cl, T.nK, (by show 1 < 1000; decide), ?_⟩
    obtain ⟨H9, e9⟩ : ∃ H9, upd H8 x (.ins C dx (putF "key" (.ref q1) [("columns", .ref p)])) = H9 := ⟨_, rfl⟩
    have o9 : Off x H8 H9 := by rw [← e9]; exact off_upd
    have hx9 : H9 x = some (.ins C dx [("columns", .ref p), ("key", .ref q1)]) := by rw [← e9, upd_same]; rfl
    rw [e9]
    have o79 : Off x H7 H9 := (off_of s8).trans o9
    have o69 : Off x H6 H9 := o7.trans o79
    have ne1 : q1 ≠ x := fun z => by rw [z, hx8] at h8; cases h8
    have h9 := o9 _ _ ne1 h8
    walk_at "rd"
    refine i_fld ?_
    walk_at "rd"
    refine ⟨p, tf, cs, fs, rfl, (tuf_off o69 hx6 hp6).seq, sqt_off o69 hx6 hf6, by omega, fun q2 H10 s10 h10 => ?_⟩
    walk_at "rd"
    have hx10 := s10 _ _ hx9
    refine ⟨x, C, dx, _, rfl, hx10, T.cl, T.nF, (by show 2 < 1000; decide), ?_⟩
    obtain ⟨H11, e11⟩ : ∃ H11, upd H10 x (.ins C dx (putF "fixed" (.ref q2) [("columns", .ref p), ("key", .ref q1)])) = H11 := ⟨_, rfl⟩
    have o11 : Off x H10 H11 := by rw [← e11]; exact off_upd
    have hx11 : H11 x = some (.ins C dx [("columns", .ref p), ("key", .ref q1), ("fixed", .ref q2)]) := by rw [← e11, upd_same]; rfl
    rw [e11]
    have o911 : Off x H9 H11 := (off_of s10).trans o11
    have o611 : Off x H6 H11 := o69.trans o911
    have ne2 : q2 ≠ x := fun z => by rw [z, hx10] at h10; cases h10
    have h11 := o11 _ _ ne2 h10
    walk_at "rd"
    refine i_fld ?_
    walk_at "rd"
    refine ⟨p, tu, cs, us, rfl, (tuf_off o611 hx6 hp6).seq, sqt_off o611 hx6 hu6, by omega, fun q3 H12 s12 h12 => ?_⟩
    walk_at "rd"
    have hx12 := s12 _ _ hx11
    refine ⟨x, C, dx, _, rfl, hx12, T.cl, T.nU, (by show 3 < 1000; decide), ?_⟩
    obtain ⟨H13, e13⟩ : ∃ H13, upd H12 x (.ins C dx (putF "unique" (.ref q3) [("columns", .ref p), ("key", .ref q1), ("fixed", .ref q2)])) = H13 := ⟨_, rfl⟩
    have o13 : Off x H12 H13 := by rw [← e13]; exact off_upd
    have hx13 : H13 x = some (.ins C dx [("columns", .ref p), ("key", .ref q1), ("fixed", .ref q2), ("unique", .ref q3)]) := by rw [← e13, upd_same]; rfl
    rw [e13]
    have ne3 : q3 ≠ x := fun z => by rw [z, hx12] at h12; cases h12
    have h13 := o13 _ _ ne3 h12
    walk_at "rd"
    dsimp only
    refine i_fld ?_
    walk_at "rd"
    refine ⟨x, C, dx, _, rfl, hx13, T.cl, T.nR, (by show 4 < 1000; decide), ?_⟩
    obtain ⟨H14, e14⟩ : ∃ H14, upd H13 x (.ins C dx (putF "reuse" (.bl r) [("columns", .ref p), ("key", .ref q1), ("fixed", .ref q2), ("unique", .ref q3)])) = H14 := ⟨_, rfl⟩
    have o14 : Off x H13 H14 := by rw [← e14]; exact off_upd
    have hx14 : H14 x = some (.ins C dx (flds p q1 q2 q3 r)) := by rw [← e14, upd_same]; rfl
    rw [e14]
    have o1114 : Off x H11 H14 := ((off_of s12).trans o13).trans o14
    have o914 : Off x H9 H14 := o911.trans o1114
    have o614 : Off x H6 H14 := o69.trans o914
    exact q H14 ((off_of s06).trans o614) ⟨dx, p, q1, q2, q3, hx14, tuf_off o614 hx6 hp6, o914 _ _ ne1 h9, o1114 _ _ ne2 h11, o14 _ _ ne3 h13⟩
end
end Spk

set_option Elab.async false
set_option linter.all false
set_option maxRecDepth 100000
set_option maxHeartbeats 2000000
namespace Spk
open PySem L2
local macro_rules | `(tactic| walk_at "rd") => `(tactic| repeat (first
  | with_reducible refine i_seq ?_ | with_reducible refine i_asg ?_ | with_reducible refine i_ret ?_ | with_reducible refine i_ifS ?_ | with_reducible refine i_if ?_
  | with_reducible refine i_for ?_ | with_reducible refine i_iL ?_ | with_reducible refine i_iT ?_ | with_reducible refine i_ckw ?_ | with_reducible refine i_cm ?_ | with_reducible refine And.intro (rfl : V.ref _ = V.ref _) ?_ | with_reducible refine i_rng1 ?_ | with_reducible refine i_bm ?_ | with_reducible refine i_bm0 ?_
  | with_reducible refine i_drop ?_ | with_reducible refine i_next ?_
  | with_reducible refine i_var rfl ?_ | with_reducible refine i_c ?_ | with_reducible refine i_op ?_ | with_reducible refine i_un ?_ | with_reducible refine i_name ?_
  | with_reducible refine i_rI0 ?_ | with_reducible refine i_rU ?_ | with_reducible refine i_rEq rfl ?_ | with_reducible refine i_rNe rfl ?_
  | with_reducible refine i_test ?_ | with_reducible refine i_tB ?_ | with_reducible refine i_and ?_ | with_reducible refine i_or ?_ | with_reducible refine i_not ?_
  | with_reducible refine i_andV ?_ | with_reducible refine i_orV ?_ | with_reducible refine i_notV ?_
  | with_reducible refine i_cons ?_ | with_reducible refine i_nil ?_ | with_reducible refine i_cb ?_ | with_reducible refine i_call ?_ | with_reducible refine i_bl ?_
  | with_reducible refine i_tup ?_ | with_reducible refine i_lst ?_ | with_reducible refine i_par ?_ | with_reducible refine i_gcons ?_ | with_reducible refine i_gnil ?_
  | with_reducible refine And.intro (rfl : V.non = V.non) ?_ | with_reducible refine i_ixT (by assumption) rfl ?_ | with_reducible refine i_ixL (by assumption) rfl ?_ | with_reducible refine i_gtup (by assumption) rfl ?_
  | with_reducible refine i_gsub ?_
  | with_reducible refine Or.inl (Exists.intro _ (And.intro (rfl : [V.int _] = [V.int _]) ?_)) | with_reducible refine Exists.intro _ (And.intro (rfl : [V.int _] = [V.int _]) ?_)
  | with_reducible refine Or.inr (Exists.intro _ (And.intro (rfl : [V.bl _] = [V.bl _]) ?_))
  | with_reducible refine Exists.intro _ (Exists.intro _ (And.intro (rfl : [V.int _, V.int _] = [V.int _, V.int _]) ?_))
  | with_reducible refine Exists.intro _ (Exists.intro _ (And.intro (rfl : [V.ref _] = [V.ref _]) (And.intro (Or.inl (SqL.of (by assumption))) ?_)))
  | with_reducible refine i_rI (show (0 : Int) < _ by assumption) ?_ | with_reducible refine i_rI (show (0 : Int) < _ by decide) ?_
  | with_reducible refine i_rI (pow_ok (Nat.le_of_ble_eq_true rfl) (Nat.le_of_ble_eq_true rfl)) ?_
  | with_reducible refine i_rI (cmulL rfl) ?_))
section
variable {P : Program} {w : World} {K : PySem.W.Frag} {mg : Str → Option Value} {base : Heap} {C fI p g CI fX : Addr} {mc : Value}
abbrev kwN : List Str := ["key", "fixed", "unique", "reuse"]
theorem bind_tinit {kV doc pm : Value} {an : Option Addr} {cdv ct : Value} : ∀ us rest ws : List Value, us.length = (["self"] : List Str).length → ws.length = kwN.length →
    bindArgs (PySem.W.fnOf "__init__" "Table.__init__" (defArgs s_Table__init) (defBody s_Table__init) (defScope s_Table__init) .none kV doc pm an cdv ct) ⟨us ++ rest, kwN.zip ws⟩ = (newTuple rest >>= fun t => pure (((["self"] : List Str) ++ kwN).zip (us ++ ws) ++ [(("columns" : Str), t)]))
  | [u], [], [a, b, c, d], _, _ => rfl
  | [u], r :: rs, [a, b, c, d], _, _ => rfl
abbrev mK (K : PySem.W.Frag) (C CI : Addr) : List V → List V → Hp → VK → XK → Prop := fun vs zs H Q E => ∃ ws rest, vs = ws ++ rest ∧ ws.length = (["self"] : List Str).length ∧ rest.length ≤ sizeLine ∧ ∀ p o, H p = none → o.cls = .type "tuple" → o.dict = none → sp_tinit K C CI (ws ++ zs ++ [V.ref p]) (upd H p (.frz o (.tup rest))) Q E
theorem ok_tinit {fd fdX : FuncData} {fA fC fO : Addr} {fdA fdC fdO : FuncData} (F : Fun K "__init__" "Table.__init__" s_Table__init fI fd) (T : ClsT K mg C fI mc p g) (XI : XIt K mg CI fX) (B_iinit : Binds K fdX ["self", "reason"] []) (G_iinit : FnOk P w K mg base CX0 1 fX fdX ["self", "reason"] (sp_iinit CI))
    (F_are_names : Fun K "are_names" "are_names" s_are_names fA fdA) (B_are_names : Binds K fdA ["things"] []) (g_are_names : mg "are_names" = some (.ref fA)) (G_are_names : FnOk P w K mg base CX0 2 fA fdA ["things"] (sp_are_names K))
    (F_are_chosen : Fun K "are_chosen" "are_chosen" s_are_chosen fC fdC) (B_are_chosen : Binds K fdC ["names", "columns"] []) (g_are_chosen : mg "are_chosen" = some (.ref fC)) (G_are_chosen : FnOk P w K mg base CX0 1 fC fdC ["names", "columns"] (sp_are_chosen K))
    (F_in_order_of : Fun K "in_order_of" "in_order_of" s_in_order_of fO fdO) (B_in_order_of : Binds K fdO ["columns", "names"] []) (g_in_order_of : mg "in_order_of" = some (.ref fO)) (G_in_order_of : FnOk P w K mg base CX0 1 fO fdO ["columns", "names"] (sp_in_order_of K))
    (z_len : mg "len" = none) : FnK P w K mg base (L2.CX P w) 3 fI kwN (mK K C CI) := by
  obtain ⟨oc, od, kV, doc, pm, an, cdv, ct, osl, rfl, lk, hcd⟩ := F.ex
  refine fn_starK (ps := ["self"]) (ks := kwN) (pv := "columns") lk hcd sc_Table__init StX.cxUp bind_tinit fun A outer s H vs Q E hr h => ?_
  exact run_tinit T XI B_iinit G_iinit F_are_names B_are_names g_are_names G_are_names F_are_chosen B_are_chosen g_are_chosen G_are_chosen F_in_order_of B_in_order_of g_in_order_of G_in_order_of z_len hr h
/-- what is asked of a making: the error, or the table -/
structure Asks (C CI : Addr) (H : Hp) (Q : VK) (E : XK) (xs : List V) (js : List Bool) (ks fs us : List Str) (r : Bool) : Prop where
  no : ∀ rs, dueT xs js ks fs us = some rs → Told CI H E rs
  yes : ∀ cs, dueT xs js ks fs us = none → xs = cs.map V.str → ∀ x H', Same H H' → Tab C H' x ⟨cs, among cs ks, among cs fs, among cs us, r⟩ → Q (.ref x) H'
theorem Asks.up {C CI : Addr} {H H' : Hp} {Q : VK} {E : XK} {xs : List V} {js : List Bool} {ks fs us : List Str} {r : Bool} (s : Same H H') (h : Asks C CI H Q E xs js ks fs us r) : Asks C CI H' Q E xs js ks fs us r :=
  ⟨fun rs d => told_up s (h.no rs d), fun cs d e x H2 s2 t => h.yes cs d e x H2 (fun b o z => s2 _ _ (s _ _ z)) t⟩
/-- what is handed in -/
structure Given (K : PySem.W.Frag) (H : Hp) (xs : List V) (js : List Bool) (tk tf tu : Addr) (ks fs us : List Str) : Prop where
  z : xs.length ≤ 100
  nm : Paired (NmV K H) xs js
  k : TuS K H tk (ks.map V.str)
  f : TuS K H tf (fs.map V.str)
  u : TuS K H tu (us.map V.str)
  kz : ks.length ≤ 100
  fz : fs.length ≤ 100
  uz : us.length ≤ 100
theorem Given.up {K : PySem.W.Frag} {H H' : Hp} {xs : List V} {js : List Bool} {tk tf tu : Addr} {ks fs us : List Str} (s : Same H H') (h : Given K H xs js tk tf tu ks fs us) : Given K H' xs js tk tf tu ks fs us :=
  ⟨h.z, Paired.mapP h.nm fun _ _ q => q.up s, h.k.up s, h.f.up s, h.u.up s, h.kz, h.fz, h.uz⟩
theorem mk_tab {H : Hp} {Q : VK} {E : XK} {xs : List V} {js : List Bool} {tk tf tu : Addr} {ks fs us : List Str} {r : Bool} (gv : Given K H xs js tk tf tu ks fs us) (as : Asks C CI H Q E xs js ks fs us r) :
    ∀ x dx, H x = none → H dx = none → dx ≠ x → mK K C CI (V.ref x :: xs) [.ref tk, .ref tf, .ref tu, .bl r] (upd (upd H dx (.own x)) x (.ins C dx [])) (fun v H3 => v = .non ∧ Q (.ref x) H3) E := by
  intro x dx hx hdx hne
  refine ⟨[.ref x], xs, rfl, rfl, size_of (by have := gv.z; omega), fun p' o hp' oc od => ?_⟩
  have xp : x ≠ p' := fun z => by rw [← z, upd_same] at hp'; cases hp'
  have s2 : Same H (upd (upd (upd H dx (.own x)) x (.ins C dx [])) p' (.frz o (.tup xs))) := fun b u e => by
    have n1 := ne_of_none e hx
    have n2 := ne_of_none e hdx
    have n3 : b ≠ p' := fun z => by
      rw [← z, upd_ne n1, upd_ne n2, e] at hp'
      cases hp'
    rw [upd_ne n3, upd_ne n1, upd_ne n2]
    exact e
  have gv2 := gv.up s2
  refine ⟨x, dx, tk, tf, tu, p', xs, js, ks, fs, us, r, rfl, by rw [upd_ne xp]; exact upd_same, ⟨o, upd_same, oc, od⟩, gv2.z, gv2.nm, gv2.k, gv2.f, gv2.u, gv2.kz, gv2.fz, gv2.uz, fun rs d => told_up s2 (as.no rs d), fun cs d e H' off tb => ⟨rfl, as.yes cs d e x H' (fun b u e1 => ?_) tb⟩⟩
  exact off b u (ne_of_none e1 hx) (s2 _ _ e1)
abbrev s_Table_of : Stmt := inClass (top 9) 2
theorem sc_Table_of : FnScope ["cls", "columns", "key", "fixed", "unique", "reuse", "names"] ["cls", "columns", "key", "fixed", "unique", "reuse"] (defScope s_Table_of) := ⟨rfl, rfl, rfl, by decide +kernel, rfl, by decide +kernel, by decide +kernel⟩
def sp_tof (K : PySem.W.Frag) (C CI : Addr) : Sp := fun vs H Q E => ∃ l tk tf tu, ∃ xs js, ∃ ks fs us : List Str, ∃ r : Bool, vs = [.ref C, .ref l, .ref tk, .ref tf, .ref tu, .bl r] ∧ (H l = some (.lst xs) ∨ H l = some (.tup xs)) ∧ Given K H xs js tk tf tu ks fs us ∧ Asks C CI H Q E xs js ks fs us r
theorem ok_tof {f fS : Addr} {fd fdS : FuncData} (F : Fun K "of" "Table.of" s_Table_of f fd) (T : ClsT K mg C fI mc p g) (FI : FnK P w K mg base (L2.CX P w) 3 fI kwN (mK K C CI))
    (F_sequence_of : Fun K "sequence_of" "sequence_of" s_sequence_of fS fdS) (B_sequence_of : Binds K fdS ["things"] []) (g_sequence_of : mg "sequence_of" = some (.ref fS)) (G_sequence_of : FnOk P w K mg base CX0 1 fS fdS ["things"] (sp_sequence_of K)) :
    FnOk P w K mg base (L2.CX P w) 5 f fd ["cls", "columns", "key", "fixed", "unique", "reuse"] (sp_tof K C CI) := by
  have M := T.M
  have g_C := T.g_C
  refine F.okX sc_Table_of (fun vs H Q E h => ?_) (fun cdv A outer s H vs Q E hr h => ?_)
  · obtain ⟨l, tk, tf, tu, xs, js, ks, fs, us, r, rfl, _⟩ := h
    rfl
  · obtain ⟨l, tk, tf, tu, xs, js, ks, fs, us, r, rfl, hl, gv, as⟩ := h
    refine ⟨_, (pss_cons (ps_set (i := 6) sc_Table_of.nd rfl (Or.inl rfl) (pe_call G_sequence_of (hr.mono (by decide)) rfl g_sequence_of F_sequence_of.kp B_sequence_of .nil pass0 (pa_cons (pv 1) pa_nil)))
 (pss_one (ps_ret (pe_makeSK M FI (hr.mono (by decide)) rfl g_C (passE (takes_of rfl rfl rfl rfl)) (pv 6) (pk_cons (pv 2) (pk_cons (pv 3) (pk_cons (pv 4) (pk_cons (pv 5) pk_nil)))))))), ?_⟩
    walk_at "rd"
    refine ⟨l, _, rfl, hl, fun t H1 s1 h1 => ?_⟩
    walk_at "rd"
    unfold tMakeSK
    walk_at "rd"
    refine ⟨t, xs, rfl, ?_⟩
    walk_at "rd"
    exact ⟨.inl (SqT.of h1), rfl, mk_tab (gv.up s1) (as.up s1)⟩
end
end Spk

set_option Elab.async false
set_option linter.all false
set_option maxRecDepth 100000
set_option maxHeartbeats 2000000
namespace Spk
open PySem L2
local macro_rules | `(tactic| walk_at "rd") => `(tactic| repeat (first
  | with_reducible refine i_seq ?_ | with_reducible refine i_asg ?_ | with_reducible refine i_ret ?_ | with_reducible refine i_ifS ?_ | with_reducible refine i_if ?_
  | with_reducible refine i_for ?_ | with_reducible refine i_iL ?_ | with_reducible refine i_iT ?_ | with_reducible refine i_ckw ?_ | with_reducible refine i_cm ?_ | with_reducible refine And.intro (rfl : V.ref _ = V.ref _) ?_ | with_reducible refine i_rng1 ?_ | with_reducible refine i_bm ?_ | with_reducible refine i_bm0 ?_
  | with_reducible refine i_drop ?_ | with_reducible refine i_next ?_
  | with_reducible refine i_var rfl ?_ | with_reducible refine i_c ?_ | with_reducible refine i_op ?_ | with_reducible refine i_un ?_ | with_reducible refine i_name ?_
  | with_reducible refine i_rI0 ?_ | with_reducible refine i_rU ?_ | with_reducible refine i_rEq rfl ?_ | with_reducible refine i_rNe rfl ?_
  | with_reducible refine i_test ?_ | with_reducible refine i_tB ?_ | with_reducible refine i_and ?_ | with_reducible refine i_or ?_ | with_reducible refine i_not ?_
  | with_reducible refine i_andV ?_ | with_reducible refine i_orV ?_ | with_reducible refine i_notV ?_
  | with_reducible refine i_cons ?_ | with_reducible refine i_nil ?_ | with_reducible refine i_cb ?_ | with_reducible refine i_call ?_ | with_reducible refine i_bl ?_
  | with_reducible refine i_tup ?_ | with_reducible refine i_lst ?_ | with_reducible refine i_par ?_ | with_reducible refine i_gcons ?_ | with_reducible refine i_gnil ?_
  | with_reducible refine And.intro (rfl : V.non = V.non) ?_ | with_reducible refine i_ixT (by assumption) rfl ?_ | with_reducible refine i_ixL (by assumption) rfl ?_ | with_reducible refine i_gtup (by assumption) rfl ?_
  | with_reducible refine i_gsub ?_
  | with_reducible refine Or.inl (Exists.intro _ (And.intro (rfl : [V.int _] = [V.int _]) ?_)) | with_reducible refine Exists.intro _ (And.intro (rfl : [V.int _] = [V.int _]) ?_)
  | with_reducible refine Or.inr (Exists.intro _ (And.intro (rfl : [V.bl _] = [V.bl _]) ?_))
  | with_reducible refine Exists.intro _ (Exists.intro _ (And.intro (rfl : [V.int _, V.int _] = [V.int _, V.int _]) ?_))
  | with_reducible refine Exists.intro _ (Exists.intro _ (And.intro (rfl : [V.ref _] = [V.ref _]) (And.intro (Or.inl (SqL.of (by assumption))) ?_)))
  | with_reducible refine i_rI (show (0 : Int) < _ by assumption) ?_ | with_reducible refine i_rI (show (0 : Int) < _ by decide) ?_
  | with_reducible refine i_rI (pow_ok (Nat.le_of_ble_eq_true rfl) (Nat.le_of_ble_eq_true rfl)) ?_
  | with_reducible refine i_rI (cmulL rfl) ?_))
/-! ### tables compared -/
/-- an operator of two forms -/
theorem op_or2 {X : Cx} {f : Value → Value → Sem Value} {r1 r2 : R2} (h1 : OpR X f r1) (h2 : OpR X f r2) : OpR X f (fun x y H Q => r1 x y H Q ∨ r2 x y H Q) := fun pins s σ H x y v u Q I rx ry h =>
  h.elim (fun z => h1 pins s σ H x y v u Q I rx ry z) fun z => h2 pins s σ H x y v u Q I rx ry z
structure ClsE (K : PySem.W.Frag) (D fQ : Addr) : Prop where
  eq : OwnEq K D fQ
  cls : PySem.W.findIn K (.ref D) "__class__" = some (some (.builtin "object.__class__"))
  get : PySem.W.specialIn K (.builtin "object.__class__") "__get__" = some (some (.builtin "getset_descriptor.__get__"))
  tk : PySem.W.takesIn K (.builtin "object.__class__") = some true
  mro : PySem.W.mroIn K D (.type "object") = some true
  kit : PySem.W.kitOne K (.ref D) (.ref D) = some true
  kn : PySem.W.kitOne K (.type "NoneType") (.ref D) = some false
  kb : PySem.W.kitOne K (.type "bool") (.ref D) = some false
  ki : PySem.W.kitOne K (.type "int") (.ref D) = some false
  ks : PySem.W.kitOne K (.type "str") (.ref D) = some false
  kl : PySem.W.kitOne K (.type "list") (.ref D) = some false
  kt : PySem.W.kitOne K (.type "tuple") (.ref D) = some false
theorem Tab.ty {K : PySem.W.Frag} {mg : Str → Option Value} {C fI p g fQ : Addr} {mc : Value} {H : Hp} {r : Addr} {t : Tb} (T : ClsT K mg C fI mc p g) (U : ClsE K C fQ) (h : Tab C H r t) : TyX K H (.ref r) (.ref C) := by
  obtain ⟨dx, tc, tk, tf, tu, a, _⟩ := h
  exact .base (.ins a T.cl U.cls U.get U.tk U.mro)
theorem ClsE.odd {K : PySem.W.Frag} {D fQ : Addr} {H : Hp} {y : V} {X : String} (U : ClsE K D fQ) (o : Odd H y X) : PySem.W.kitOne K (.type X) (.ref D) = some false := by
  cases o with
  | non => exact U.kn
  | bl b => exact U.kb
  | int i => exact U.ki
  | str x => exact U.ks
  | lst h => exact U.kl
  | tup h => exact U.kt
theorem self_nf {K : PySem.W.Frag} {C : Addr} : PySem.W.notFirst K C (.ref C) = true := by simp [PySem.W.notFirst]
/-- built-in types are no subclasses of the class -/
structure NoSub (K : PySem.W.Frag) (C : Addr) : Prop where
  n : PySem.W.notFirst K C (.type "NoneType") = true
  b : PySem.W.notFirst K C (.type "bool") = true
  i : PySem.W.notFirst K C (.type "int") = true
  s : PySem.W.notFirst K C (.type "str") = true
  l : PySem.W.notFirst K C (.type "list") = true
  t : PySem.W.notFirst K C (.type "tuple") = true
theorem NoSub.odd {K : PySem.W.Frag} {C : Addr} {H : Hp} {y : V} {X : String} (N : NoSub K C) (o : Odd H y X) : PySem.W.notFirst K C (.type X) = true := by
  cases o with
  | non => exact N.n
  | bl b => exact N.b
  | int i => exact N.i
  | str x => exact N.s
  | lst h => exact N.l
  | tup h => exact N.t
def TxsOk (cs : List Str) : Prop := ∀ c, c ∈ cs → PyData.strOk c = true
theorem dps_strs {K : PySem.W.Frag} {H : Hp} : ∀ cs : List Str, DpAll K H (cs.map V.str) (cs.map PyData.str)
  | [] => .nil
  | c :: cs => .cons (.str c) (dps_strs cs)
theorem lay_strs : ∀ {cs : List Str}, TxsOk cs → PyData.canLayAll0 (cs.map PyData.str) = true
  | [], _ => by simp [PyData.canLayAll0]
  | c :: cs, h => by
    have a := h c List.mem_cons_self
    have b := lay_strs (cs := cs) fun d hd => h d (List.mem_cons_of_mem _ hd)
    simp [PyData.canLayAll0, PyData.canLay0, a, b]
theorem dep_strs : ∀ cs : List Str, PyData.depthAll (cs.map PyData.str) = 0
  | [] => by simp [PyData.depthAll]
  | c :: cs => by simp [PyData.depthAll, PyData.depth, dep_strs cs]
theorem shaped_strs {cs : List Str} (h : TxsOk cs) : SeqAt.shaped (.list (cs.map PyData.str)) = true := by
  have a := lay_strs h
  have b := dep_strs cs
  have c : (PyData.list (cs.map PyData.str)).depth ≤ 64 := by
    simp only [PyData.depth, b]
    omega
  unfold SeqAt.shaped
  rw [Bool.and_eq_true, decide_eq_true_eq]
  exact ⟨by simpa only [PyData.canLay0] using a, by omega⟩
theorem shaped_tups {cs : List Str} (h : TxsOk cs) : SeqAt.shaped (.tuple (cs.map PyData.str)) = true := by
  have a := lay_strs h
  have b := dep_strs cs
  have c : (PyData.tuple (cs.map PyData.str)).depth ≤ 64 := by
    simp only [PyData.depth, b]
    omega
  unfold SeqAt.shaped
  rw [Bool.and_eq_true, decide_eq_true_eq]
  exact ⟨by simpa only [PyData.canLay0] using a, by omega⟩
theorem eqvAll_strs : ∀ cs ds : List Str, PyData.eqvAll (cs.map PyData.str) (ds.map PyData.str) = decide (cs = ds)
  | [], [] => by simp [PyData.eqvAll]
  | [], _ :: _ => by simp [PyData.eqvAll]
  | _ :: _, [] => by simp [PyData.eqvAll]
  | c :: cs, d :: ds => by
    simp only [List.map_cons, PyData.eqvAll, PyData.eqv, eqvAll_strs cs ds, List.cons.injEq]
    by_cases e : c = d <;> by_cases f : cs = ds <;> simp [e, f]
theorem eqv_tups (cs ds : List Str) : PyData.eqv (.tuple (cs.map PyData.str)) (.tuple (ds.map PyData.str)) = decide (cs = ds) := by
  simp only [PyData.eqv]
  exact eqvAll_strs cs ds
/-- columns that can be compared -/
structure FitsT (t : Tb) : Prop where
  c : TxsOk t.cs
  k : TxsOk t.ks
  f : TxsOk t.fs
  u : TxsOk t.us
instance : DecidableEq Tb := fun a b => by
  rcases a with ⟨a1, a2, a3, a4, a5⟩
  rcases b with ⟨b1, b2, b3, b4, b5⟩
  rw [Tb.mk.injEq]
  exact inferInstance
theorem eqTup {K : PySem.W.Frag} {H : Hp} {a b : Addr} {cs ds : List Str} {Q : VK} (ha : SqT K H a (cs.map V.str)) (hb : SqT K H b (ds.map V.str)) (ta : TxsOk cs) (tb : TxsOk ds) (q : Q (.bl (decide (cs = ds))) H) : rEqD K (.ref a) (.ref b) H Q := by
  refine ⟨_, _, .tup ha (dps_strs cs), .tup hb (dps_strs ds), shaped_tups ta, shaped_tups tb, ?_⟩
  rw [eqv_tups]
  exact q
section
variable {P : Program} {w : World} {K : PySem.W.Frag} {mg : Str → Option Value} {base : Heap} {C fI p g fQ : Addr} {mc : Value}
abbrev s_Table__eq : Stmt := inClass (top 9) 6
theorem sc_Table__eq : FnScope ["self", "other"] ["self", "other"] (defScope s_Table__eq) := ⟨rfl, rfl, rfl, by decide +kernel, rfl, by decide +kernel, by decide +kernel⟩
def sp_teq (C : Addr) : Sp := fun vs H Q _ => ∃ a y t k, vs = [.ref a, y] ∧ Tab C H a t ∧ FitsT t ∧ ((∃ b u, y = .ref b ∧ Tab C H b u ∧ FitsT u ∧ k = decide (t = u)) ∨ (∃ X, Odd H y X ∧ k = false)) ∧ Q (.bl k) H
theorem ok_teq {fd : FuncData} (F : Fun K "__eq__" "Table.__eq__" s_Table__eq fQ fd) (T : ClsT K mg C fI mc p g) (U : ClsE K C fQ) (z_isinstance : mg "isinstance" = none) : FnOk P w K mg base CX0 1 fQ fd ["self", "other"] (sp_teq C) := by
  refine F.ok sc_Table__eq (fun vs H Q E h => ?_) (fun cdv A outer s H vs Q E hr h => ?_)
  · obtain ⟨a, y, t, k, rfl, _⟩ := h
    rfl
  · obtain ⟨a, y, t, k, rfl, ra, tok, h, q⟩ := h
    refine ⟨_, (pss_one (ps_ret (pe_and (pe_callB call_isi (by rfl) z_isinstance (by decide +kernel) (pa_cons (pv 1) (pa_cons (pe_glob rfl T.g_C (relR _)) pa_nil))) (pe_and (pe_cmpR (op_eqD hr.units) (pe_fld (pv 0) rfl) (pe_fld (pv 1) rfl) (nomark _)) (pe_and (pe_cmpR (op_eqD hr.units) (pe_fld (pv 0) rfl) (pe_fld (pv 1) rfl) (nomark _)) (pe_and (pe_cmpR (op_eqD hr.units) (pe_fld (pv 0) rfl) (pe_fld (pv 1) rfl) (nomark _)) (pe_and (pe_cmpR (op_eqD hr.units) (pe_fld (pv 0) rfl) (pe_fld (pv 1) rfl) (nomark _)) (pe_one (pe_cmpR op_eq (pe_fld (pv 0) rfl) (pe_fld (pv 1) rfl) (nomark _)))))))))), ?_⟩
    walk_at "rd"
    rcases h with ⟨b, u, rfl, rb, uok, rfl⟩ | ⟨X, o, rfl⟩
    · refine ⟨_, _, _, _, true, rfl, .own C, rb.ty T U, U.kit, true, rfl, iteT ?_⟩
      obtain ⟨cs, ks, fs, us, r⟩ := t
      obtain ⟨cs2, ks2, fs2, us2, r2⟩ := u
      obtain ⟨dx, tc, tk, tf, tu, ha, hc, hk, hf, hu⟩ := ra
      obtain ⟨dy, tc2, tk2, tf2, tu2, hb, hc2, hk2, hf2, hu2⟩ := rb
      obtain ⟨oc, ok, ofx, ou⟩ := tok
      obtain ⟨oc2, ok2, ofx2, ou2⟩ := uok
      simp only at hc hk hf hu hc2 hk2 hf2 hu2 oc ok ofx ou oc2 ok2 ofx2 ou2
      walk_at "rd"
      refine ⟨_, rfl, a, C, dx, _, _, rfl, ha, T.cl, T.nC, lk_columns, ?_⟩
      refine ⟨_, rfl, b, C, dy, _, _, rfl, hb, T.cl, T.nC, lk_columns, ?_⟩
      refine eqTup hc.seq hc2.seq oc oc2 ⟨_, rfl, ite_d (fun e1 => ?_) (fun n1 => ?_)⟩
      rotate_left
      · rw [decide_eq_false (fun z => n1 (congrArg Tb.cs z))] at q
        exact q
      walk_at "rd"
      refine ⟨_, rfl, a, C, dx, _, _, rfl, ha, T.cl, T.nK, lk_key, ?_⟩
      refine ⟨_, rfl, b, C, dy, _, _, rfl, hb, T.cl, T.nK, lk_key, ?_⟩
      refine eqTup (SqT.of hk) (SqT.of hk2) ok ok2 ⟨_, rfl, ite_d (fun e2 => ?_) (fun n1 => ?_)⟩
      rotate_left
      · rw [decide_eq_false (fun z => n1 (congrArg Tb.ks z))] at q
        exact q
      walk_at "rd"
      refine ⟨_, rfl, a, C, dx, _, _, rfl, ha, T.cl, T.nF, lk_fixed, ?_⟩
      refine ⟨_, rfl, b, C, dy, _, _, rfl, hb, T.cl, T.nF, lk_fixed, ?_⟩
      refine eqTup (SqT.of hf) (SqT.of hf2) ofx ofx2 ⟨_, rfl, ite_d (fun e3 => ?_) (fun n1 => ?_)⟩
      rotate_left
      · rw [decide_eq_false (fun z => n1 (congrArg Tb.fs z))] at q
        exact q
      walk_at "rd"
      refine ⟨_, rfl, a, C, dx, _, _, rfl, ha, T.cl, T.nU, lk_unique, ?_⟩
      refine ⟨_, rfl, b, C, dy, _, _, rfl, hb, T.cl, T.nU, lk_unique, ?_⟩
      refine eqTup (SqT.of hu) (SqT.of hu2) ou ou2 ⟨_, rfl, ite_d (fun e4 => ?_) (fun n1 => ?_)⟩
      rotate_left
      · rw [decide_eq_false (fun z => n1 (congrArg Tb.us z))] at q
        exact q
      walk_at "rd"
      refine ⟨_, rfl, a, C, dx, _, _, rfl, ha, T.cl, T.nR, lk_reuse, ?_⟩
      refine ⟨_, rfl, b, C, dy, _, _, rfl, hb, T.cl, T.nR, lk_reuse, ?_⟩
      have e5 : decide ((⟨cs, ks, fs, us, r⟩ : Tb) = ⟨cs2, ks2, fs2, us2, r2⟩) = decide (r = r2) := by
        rw [decide_eq_decide, Tb.mk.injEq]
        exact ⟨fun z => z.2.2.2.2, fun z => ⟨e1, e2, e3, e4, z⟩⟩
      rw [e5] at q
      refine ⟨rfl, ?_⟩
      dsimp only
      rw [show decide (V.bl r = V.bl r2) = decide (r = r2) from by rw [decide_eq_decide]; exact ⟨fun z => V.bl.inj z, fun z => by rw [z]⟩]
      exact q
    · exact ⟨_, _, _, _, false, rfl, .own C, o.ty, U.odd o, false, rfl, iteF q⟩
abbrev s_alike : Stmt := top 26
theorem sc_alike : FnScope ["_law_one", "_law_other", "_law_due_here"] ["_law_one", "_law_other", "_law_due_here"] (defScope s_alike) := ⟨rfl, rfl, rfl, by decide +kernel, rfl, by decide +kernel, by decide +kernel⟩
def sp_alike (D : Addr) : Sp := fun vs H Q _ => ∃ a y t k due, vs = [.ref a, y, .bl due] ∧ Tab D H a t ∧ FitsT t ∧ ((∃ b u, y = .ref b ∧ Tab D H b u ∧ FitsT u ∧ k = decide (t = u)) ∨ (∃ T, Odd H y T ∧ k = false)) ∧ ∀ H', Same H H' → Q (.bl (k == due)) H'
theorem eqv_bools (k due : Bool) : PyData.eqv (.list [.bool k, .bool k, .bool !k, .bool !k]) (.list [.bool due, .bool due, .bool !due, .bool !due]) = (k == due) := by
  cases k <;> cases due <;> simp [PyData.eqv, PyData.eqvAll]
theorem shaped_bools (a b c d : Bool) : SeqAt.shaped (.list [.bool a, .bool b, .bool c, .bool d]) = true := by
  simp [SeqAt.shaped, PyData.canLay0, PyData.canLayAll0, PyData.depth, PyData.depthAll]
theorem ok_alike {f : Addr} {fd : FuncData} (F : Fun K "_law_alike" "_law_alike" s_alike f fd) (T : ClsT K mg C fI mc p g) (U : ClsE K C fQ) (N : NoSub K C) (R_teq : FnR P w K mg base CX0 1 fQ (fun vs H Q E => sp_teq C (vs ++ []) H Q E)) : FnOk P w K mg base CX0 4 f fd ["_law_one", "_law_other", "_law_due_here"] (sp_alike C) := by
  have O := U.eq
  refine F.ok sc_alike (fun vs H Q E h => ?_) (fun cdv A outer s H vs Q E hr h => ?_)
  · obtain ⟨a, y, t, k, due, rfl, _⟩ := h
    rfl
  · obtain ⟨a, y, t, k, due, rfl, ra, tok, h, q⟩ := h
    refine ⟨_, (pss_one (ps_ret (pe_cmpR (op_eqD hr.units) (pe_lst (pa_cons (pe_cmpR (op_eqO R_teq (hr.mono (by decide)) O.eq O.fn) (pv 0) (pv 1) (nomark _)) (pa_cons (pe_cmpR (op_or2 (op_eqO R_teq (hr.mono (by decide)) O.eq O.fn) (op_eqR R_teq (hr.mono (by decide)) O)) (pv 1) (pv 0) (nomark _)) (pa_cons (pe_cmpR (op_neO R_teq (hr.mono (by decide)) O) (pv 0) (pv 1) (nomark _)) (pa_cons (pe_cmpR (op_or2 (op_neO R_teq (hr.mono (by decide)) O) (op_neR R_teq (hr.mono (by decide)) O)) (pv 1) (pv 0) (nomark _)) pa_nil))))) (pe_lst (pa_cons (pv 2) (pa_cons (pv 2) (pa_cons (pe_not (pv 2)) (pa_cons (pe_not (pv 2)) pa_nil))))) (nomark _)))), ?_⟩
    obtain ⟨dx, tc, tk, tf, tu, ha, pa⟩ := id ra
    -- the four comparisons
    have fin : tOp (rEqD K) (tLst (tCons (tC (.bl k)) (tCons (tC (.bl k)) (tCons (tC (.bl !k)) (tCons (tC (.bl !k)) tNil))))) (tLst (tCons (tVar 2) (tCons (tVar 2) (tCons (tNotV (tVar 2)) (tCons (tNotV (tVar 2)) tNil))))) [some (.ref a), some y, some (.bl due)] H Q := by
      walk_at "rd"
      refine ⟨size_of (Nat.le_of_ble_eq_true rfl), fun r hr => ?_⟩
      obtain ⟨H1, e1, s1, h1⟩ := new_heap (o := .lst [.bl k, .bl k, .bl !k, .bl !k]) hr
      rw [e1]
      walk_at "rd"
      refine ⟨size_of (Nat.le_of_ble_eq_true rfl), fun r2 hr2 => ?_⟩
      obtain ⟨H2, e2, s2, h2⟩ := new_heap (o := .lst [.bl due, .bl due, .bl !due, .bl !due]) hr2
      rw [e2]
      refine ⟨_, _, .lst (SqL.of (s2 _ _ h1)) (.cons (.bl _) (.cons (.bl _) (.cons (.bl _) (.cons (.bl _) .nil)))), .lst (SqL.of h2) (.cons (.bl _) (.cons (.bl _) (.cons (.bl _) (.cons (.bl _) .nil)))), shaped_bools _ _ _ _, shaped_bools _ _ _ _, ?_⟩
      rw [eqv_bools]
      exact q H2 fun b o z => s2 _ _ (s1 _ _ z)
    walk_at "rd"
    rcases h with ⟨b, u, rfl, rb, uok, rfl⟩ | ⟨X, o, rfl⟩
    · obtain ⟨dy, tc1, tk1, tf1, tu1, hb, pb⟩ := id rb
      have sy : decide (u = t) = decide (t = u) := by
        by_cases e : t = u
        · rw [decide_eq_true e, decide_eq_true e.symm]
        · rw [decide_eq_false e, decide_eq_false (Ne.symm e)]
      refine ⟨a, dx, _, _, rfl, ha, rb.ty T U, self_nf, a, _, t, _, rfl, ra, tok, .inl ⟨b, u, rfl, rb, uok, rfl⟩, _, rfl, ?_⟩
      walk_at "rd"
      refine .inl ⟨b, dy, _, _, rfl, hb, ra.ty T U, self_nf, b, _, u, _, rfl, rb, uok, .inl ⟨a, t, rfl, ra, tok, sy.symm⟩, _, rfl, ?_⟩
      walk_at "rd"
      refine ⟨a, dx, _, _, rfl, ha, rb.ty T U, self_nf, a, _, t, _, rfl, ra, tok, .inl ⟨b, u, rfl, rb, uok, rfl⟩, _, rfl, ?_⟩
      walk_at "rd"
      refine .inl ⟨b, dy, _, _, rfl, hb, ra.ty T U, self_nf, b, _, u, _, rfl, rb, uok, .inl ⟨a, t, rfl, ra, tok, sy.symm⟩, _, rfl, ?_⟩
      exact fin
    · refine ⟨a, dx, _, _, rfl, ha, o.ty, N.odd o, a, _, t, _, rfl, ra, tok, .inr ⟨X, o, rfl⟩, _, rfl, ?_⟩
      walk_at "rd"
      refine .inr ⟨a, dx, _, X, rfl, ha, o, a, _, t, _, rfl, ra, tok, .inr ⟨X, o, rfl⟩, _, rfl, ?_⟩
      walk_at "rd"
      refine ⟨a, dx, _, _, rfl, ha, o.ty, N.odd o, a, _, t, _, rfl, ra, tok, .inr ⟨X, o, rfl⟩, _, rfl, ?_⟩
      walk_at "rd"
      refine .inr ⟨a, dx, _, X, rfl, ha, o, a, _, t, _, rfl, ra, tok, .inr ⟨X, o, rfl⟩, _, rfl, ?_⟩
      exact fin
end
end Spk

set_option Elab.async false
set_option linter.all false
set_option maxRecDepth 100000
set_option maxHeartbeats 2000000
namespace Spk
open PySem L2
local macro_rules | `(tactic| walk_at "rd") => `(tactic| repeat (first
  | with_reducible refine i_seq ?_ | with_reducible refine i_asg ?_ | with_reducible refine i_ret ?_ | with_reducible refine i_ifS ?_ | with_reducible refine i_if ?_
  | with_reducible refine i_for ?_ | with_reducible refine i_iL ?_ | with_reducible refine i_iT ?_ | with_reducible refine i_ckw ?_ | with_reducible refine i_cm ?_ | with_reducible refine And.intro (rfl : V.ref _ = V.ref _) ?_ | with_reducible refine i_rng1 ?_ | with_reducible refine i_bm ?_ | with_reducible refine i_bm0 ?_
  | with_reducible refine i_drop ?_ | with_reducible refine i_next ?_
  | with_reducible refine i_var rfl ?_ | with_reducible refine i_c ?_ | with_reducible refine i_op ?_ | with_reducible refine i_un ?_ | with_reducible refine i_name ?_
  | with_reducible refine i_rI0 ?_ | with_reducible refine i_rU ?_ | with_reducible refine i_rEq rfl ?_ | with_reducible refine i_rNe rfl ?_
  | with_reducible refine i_test ?_ | with_reducible refine i_tB ?_ | with_reducible refine i_and ?_ | with_reducible refine i_or ?_ | with_reducible refine i_not ?_
  | with_reducible refine i_andV ?_ | with_reducible refine i_orV ?_ | with_reducible refine i_notV ?_
  | with_reducible refine i_cons ?_ | with_reducible refine i_nil ?_ | with_reducible refine i_cb ?_ | with_reducible refine i_call ?_ | with_reducible refine i_bl ?_
  | with_reducible refine i_tup ?_ | with_reducible refine i_lst ?_ | with_reducible refine i_par ?_ | with_reducible refine i_gcons ?_ | with_reducible refine i_gnil ?_
  | with_reducible refine And.intro (rfl : V.non = V.non) ?_ | with_reducible refine i_ixT (by assumption) rfl ?_ | with_reducible refine i_ixL (by assumption) rfl ?_ | with_reducible refine i_gtup (by assumption) rfl ?_
  | with_reducible refine i_gsub ?_
  | with_reducible refine Or.inl (Exists.intro _ (And.intro (rfl : [V.int _] = [V.int _]) ?_)) | with_reducible refine Exists.intro _ (And.intro (rfl : [V.int _] = [V.int _]) ?_)
  | with_reducible refine Or.inr (Exists.intro _ (And.intro (rfl : [V.bl _] = [V.bl _]) ?_))
  | with_reducible refine Exists.intro _ (Exists.intro _ (And.intro (rfl : [V.int _, V.int _] = [V.int _, V.int _]) ?_))
  | with_reducible refine Exists.intro _ (Exists.intro _ (And.intro (rfl : [V.ref _] = [V.ref _]) (And.intro (Or.inl (SqL.of (by assumption))) ?_)))
  | with_reducible refine i_rI (show (0 : Int) < _ by assumption) ?_ | with_reducible refine i_rI (show (0 : Int) < _ by decide) ?_
  | with_reducible refine i_rI (pow_ok (Nat.le_of_ble_eq_true rfl) (Nat.le_of_ble_eq_true rfl)) ?_
  | with_reducible refine i_rI (cmulL rfl) ?_))
theorem sl_listK {K : PySem.W.Frag} {X : Cx} (h : X.K = K) : SlR X (rSlL K) := by subst h; exact sl_list
theorem walk_enumT {K : PySem.W.Frag} {a : Addr} {xs : List V} : Walk (IteT K a) xs.length (fun H => SqT K H a xs) (YPair (fun i => some (.int (i : Nat))) (fun i => xs[i]?)) := by
  refine ⟨fun i _ hi q => ⟨xs, xs[i], q, by simp [hi]⟩, fun _ q => ⟨xs, q, rfl⟩, fun i H v H' _ q y => ?_⟩
  obtain ⟨T, x, h1, h2, h3, h4⟩ := y
  exact ⟨T, .int (i : Nat), x, h1, h2, h3, rfl, h4 xs q⟩
theorem cut_to (us : List V) {j : Nat} (h : j ≤ us.length) : cutV us none (some (j : Int)) = us.take j := by
  unfold cutV
  have e1 : HT.sIx us.length us.length (some (j : Int)) = j := by
    simp only [HT.sIx]
    rw [if_neg (by omega)]
    omega
  rw [e1]
  simp only [HT.sIx]
  simp
theorem i_sl {r : V → Option Int → Option Int → Hp → VK → Prop} {te : TE} {tl th : TO} {σ : L2.St} {H : Hp} {Q : VK} (h : te σ H fun x H1 => tl σ H1 fun l H2 => th σ H2 fun u H3 => r x l u H3 Q) : tSl r te tl th σ H Q := h
theorem i_part {te : TE} {σ : L2.St} {H : Hp} {P : Option Int → Hp → Prop} (h : te σ H fun x H1 => ∃ i, x = .int i ∧ P (some i) H1) : tPart te σ H P := h
theorem i_noPart {σ : L2.St} {H : Hp} {P : Option Int → Hp → Prop} (h : P none H) : tNoPart σ H P := h
theorem alpha (c : Nat) : decide (c ∈ ("abcdefghijklmnopqrstuvwxyz" : Str).cps.toList) = okc c := by
  unfold okc
  rw [decide_eq_decide, show ("abcdefghijklmnopqrstuvwxyz" : Str).cps.toList = [97, 98, 99, 100, 101, 102, 103, 104, 105, 106, 107, 108, 109, 110, 111, 112, 113, 114, 115, 116, 117, 118, 119, 120, 121, 122] from rfl]
  simp only [List.mem_cons, List.not_mem_nil, or_false]
  omega
abbrev badCs (z : Str) (i : Nat) : List V := (((z.cps.toList.take i).filter fun c => !okc c).map fun c => V.str ⟨#[c]⟩)
theorem bad_snoc {z : Str} {i c : Nat} (h : z.cps.toList[i]? = some c) : badCs z (i + 1) = if okc c then badCs z i else badCs z i ++ [.str ⟨#[c]⟩] := by
  unfold badCs
  rw [take_snoc h, List.filter_append, List.map_append]
  by_cases e : okc c = true
  · simp [e]
  · simp [e]
theorem bad_all (z : Str) : (badCs z z.cps.size).isEmpty = z.cps.toList.all okc := by
  unfold badCs
  rw [List.take_of_length_le (by simp), Bool.eq_iff_iff, List.isEmpty_iff, List.map_eq_nil_iff, List.filter_eq_nil_iff, List.all_eq_true]
  simp
theorem bad_le (z : Str) (i : Nat) : (badCs z i).length ≤ z.length := by
  unfold badCs
  rw [List.length_map]
  refine Nat.le_trans (List.length_filter_le ..) ?_
  rw [List.length_take]
  have : z.cps.toList.length = z.length := by simp [Str.length]
  omega
section
variable {P : Program} {w : World} {K : PySem.W.Frag} {mg : Str → Option Value} {base : Heap}
abbrev s_Lis_name : Stmt := top 19
theorem sc_Lis_name : FnScope ["_law_thing", "_law_sign"] ["_law_thing"] (defScope s_Lis_name) := ⟨rfl, rfl, rfl, by decide +kernel, rfl, by decide +kernel, by decide +kernel⟩
theorem ok_Lis_name {f : Addr} {fd : FuncData} (F : Fun K "_law_is_name" "_law_is_name" s_Lis_name f fd) (z_isinstance : mg "isinstance" = none) (z_str : mg "str" = none) (z_len : mg "len" = none) : FnOk P w K mg base CX0 1 f fd ["_law_thing"] (sp_is_name K) := by
  refine F.ok sc_Lis_name (fun vs H Q E h => ?_) (fun cdv A outer s H vs Q E hr h => ?_)
  · obtain ⟨y, k, rfl, h⟩ := h
    rfl
  · obtain ⟨y, k, rfl, h, q⟩ := h
    refine ⟨_, (pss_cons (ps_if (PW.pt (pw_or (pt_not (pt_val (pe_callB call_isi (by rfl) z_isinstance (by decide +kernel) (pa_cons (pv 0) (pa_cons (pe_bltn (v := .ty "str") (u := .type "str") (by rfl) z_str (by decide +kernel) rfl) pa_nil))))) (pw_or1 (pt_not (pt_chain op_le op_le pe_int (pe_callB call_len_str (by rfl) z_len PySem.boot_len (pa_cons (pv 0) pa_nil)) pe_int)))))
 (pss_one (ps_ret pe_bl))
 pss_nil)
 (pss_one (ps_ret (pe_cmpR (op_eqNil (roomU hr)) (pe_lc (own := [("_law_sign", 1)]) (g := gName 1) rfl sc_Lis_name.nd (pi_str (pv 0)) (blkOk_by (own := [("_law_sign", 1)]) (N := ["_law_thing", "_law_sign"]) (sc := defScope s_Lis_name) (by decide +kernel)) (fun _ _ _ _ _ => pg_name (i := 1) sc_Lis_name.nd rfl (Or.inl rfl)) (fun _ _ _ _ _ => pts_one (pt_cmpR op_notIn_sign (pv 1) pe_str (by rfl))) (fun _ _ _ _ _ => (pv 1))) (pe_lst pa_nil) (nomark _))))), ?_⟩
    walk_at "rd"
    rcases h with ⟨z, rfl, hz, rfl⟩ | ⟨⟨t, ty, o⟩, rfl⟩
    · refine ⟨_, _, _, _, true, rfl, .ty "str", .base (.str z), kit_ty (by decide +kernel), true, rfl, iteF ?_⟩
      walk_at "rd"
      refine i_chain ?_
      walk_at "rd"
      refine ⟨z, rfl, size_of (by omega), ?_⟩
      walk_at "rd"
      have q' := q
      unfold nameB at q'
      by_cases h1 : 1 ≤ z.length
      · rw [decide_eq_true (show (1 : Int) ≤ (z.length : Int) by omega)]
        rw [decide_eq_true h1, Bool.true_and] at q'
        refine iteT ?_
        walk_at "rd"
        by_cases h8 : z.length ≤ 8
        · rw [decide_eq_true (show (z.length : Int) ≤ 8 by omega)]
          rw [decide_eq_true h8, Bool.true_and] at q'
          refine iteF ?_
          walk_at "rd"
          unfold tLc
          refine i_iS ?_
          walk_at "rd"
          refine ⟨z, rfl, fun D hD => ?_⟩
          obtain ⟨H1, e1, s1, hd⟩ := new_heap (o := .lst []) hD
          refine lc_it walk_str (fun i H' => Same H H' ∧ H' D = some (.lst (badCs z i))) ⟨by rw [e1]; exact s1, by rw [e1]; exact hd⟩ (fun _ _ _ _ => trivial) ?_ ?_
          · rintro i x H2 H' hi ⟨s2, h2⟩ ⟨rfl, c, hc', rfl⟩
            have hm : z.cps.toList[i]? = some c := by rw [Array.getElem?_toList]; exact hc'
            have sn := bad_snoc hm
            walk_at "rd"
            refine ⟨rfl, ?_⟩
            walk_at "rd"
            refine ⟨c, _, rfl, rfl, ?_⟩
            rw [alpha]
            cases ek : okc c with
            | false =>
              rw [ek] at sn
              refine ⟨true, rfl, iteT ?_⟩
              walk_at "rd"
              refine ⟨_, h2, size_lt (by have := bad_le z i; omega), Same.mut s2 hD, ?_⟩
              rw [upd_same, sn]
              rfl
            | true =>
              rw [ek] at sn
              refine ⟨false, rfl, iteF ?_⟩
              exact ⟨s2, by rw [sn]; exact h2⟩
          · rintro H' ⟨s2, h2⟩
            walk_at "rd"
            refine ⟨Nat.zero_le _, fun y hy => ?_⟩
            obtain ⟨H5, e5, s5, h5⟩ := new_heap (o := .lst []) hy
            rw [e5]
            refine ⟨D, y, _, rfl, rfl, s5 _ _ h2, h5, ?_⟩
            rw [bad_all]
            exact q' H5 fun b o z => s5 _ _ (s2 _ _ z)
        · rw [decide_eq_false (show ¬ (z.length : Int) ≤ 8 by omega)]
          rw [decide_eq_false h8, Bool.false_and] at q'
          refine iteT ?_
          walk_at "rd"
          exact q' H (Same.refl H)
      · rw [decide_eq_false (show ¬ (1 : Int) ≤ (z.length : Int) by omega)]
        rw [decide_eq_false h1, Bool.false_and] at q'
        refine iteF ?_
        refine ⟨false, rfl, iteT ?_⟩
        walk_at "rd"
        exact q' H (Same.refl H)
    · refine ⟨_, _, _, _, false, rfl, .ty "str", ty, o, false, rfl, iteT ?_⟩
      walk_at "rd"
      exact q H (Same.refl H)
abbrev s_once : Stmt := top 20
theorem sc_once : FnScope ["_law_some_here", "_law_at", "_law_one"] ["_law_some_here"] (defScope s_once) := ⟨rfl, rfl, rfl, by decide +kernel, rfl, by decide +kernel, by decide +kernel⟩
/-- the places of what stood before -/
def twice (cs : List Str) (i : Nat) : List Nat := (List.range i).filter fun j => match cs[j]? with | some c => decide (c ∈ cs.take j) | none => false
theorem twice_snoc {cs : List Str} {i : Nat} {c : Str} (h : cs[i]? = some c) : twice cs (i + 1) = if c ∈ cs.take i then twice cs i ++ [i] else twice cs i := by
  unfold twice
  rw [List.range_succ, List.filter_append]
  by_cases e : c ∈ cs.take i
  · rw [if_pos e]
    simp [h, e]
  · rw [if_neg e]
    simp [h, e]
theorem twice_le (cs : List Str) (i : Nat) : (twice cs i).length ≤ i := by
  unfold twice
  refine Nat.le_trans (List.length_filter_le ..) ?_
  rw [List.length_range]
  exact Nat.le_refl _
theorem twice_nil (cs : List Str) : (twice cs cs.length).isEmpty = decide cs.Nodup := by
  rw [Bool.eq_iff_iff, List.isEmpty_iff, decide_eq_true_eq]
  unfold twice
  rw [List.filter_eq_nil_iff]
  unfold List.Nodup
  rw [List.pairwise_iff_getElem]
  constructor
  · intro h i j hi hj hij e
    have := h j (List.mem_range.mpr hj)
    rw [List.getElem?_eq_getElem hj] at this
    simp only [decide_eq_true_eq] at this
    refine this ?_
    rw [List.mem_take_iff_getElem]
    exact ⟨i, by omega, e⟩
  · intro h j hj
    have hj := List.mem_range.mp hj
    rw [List.getElem?_eq_getElem hj]
    simp only [decide_eq_true_eq]
    intro hm
    rw [List.mem_take_iff_getElem] at hm
    obtain ⟨i, hi, e⟩ := hm
    exact h i j (by omega) hj (by omega) e
def sp_once (K : PySem.W.Frag) : Sp := fun vs H Q _ => ∃ a, ∃ cs : List Str, vs = [.ref a] ∧ (SqL K H a (cs.map V.str) ∨ SqT K H a (cs.map V.str)) ∧ cs.length ≤ 100 ∧ ∀ H', Same H H' → Q (.bl (decide cs.Nodup)) H'
theorem ok_once {f : Addr} {fd : FuncData} (F : Fun K "_law_once" "_law_once" s_once f fd) (z_enumerate : mg "enumerate" = none) : FnOk P w K mg base CX0 1 f fd ["_law_some_here"] (sp_once K) := by
  refine F.ok sc_once (fun vs H Q E h => ?_) (fun cdv A outer s H vs Q E hr h => ?_)
  · obtain ⟨a, cs, rfl, h⟩ := h
    rfl
  · obtain ⟨a, cs, rfl, ha, hz, q⟩ := h
    rcases ha with ha | ha
    · refine ⟨_, (pss_one (ps_ret (pe_cmpR (op_eqNil (roomU hr)) (pe_lc (own := [("_law_at", 1), ("_law_one", 2)]) (g := gTup K 2 (gCons (gName 1) (gCons (gName 2) gNil))) rfl sc_once.nd (pi_enum (by rfl) z_enumerate (pa_cons (pv 0) pa_nil)) (blkOk_by (own := [("_law_at", 1), ("_law_one", 2)]) (N := ["_law_some_here", "_law_at", "_law_one"]) (sc := defScope s_once) (by decide +kernel)) (fun _ _ _ _ _ => pg_tup (by rfl) (pgs_cons (pg_name (i := 1) sc_once.nd rfl (Or.inl rfl)) (pgs_cons (pg_name (i := 2) sc_once.nd rfl (Or.inl rfl)) pgs_nil))) (fun _ _ _ _ _ => pts_one (pt_cmpR (op_inK (K := K) rfl) (pv 2) (pe_slice (sl_listK (K := K) rfl) (pv 0) po_none (po_some (pv 1))) (by rfl))) (fun _ _ _ _ _ => (pv 1))) (pe_lst pa_nil) (nomark _)))), ?_⟩
      walk_at "rd"
      refine i_iE ?_
      walk_at "rd"
      refine ⟨a, _, rfl, ha, fun D hD => ?_⟩
      obtain ⟨H1, e1, s1, h1⟩ := new_heap (o := .lst []) hD
      refine lc_it (walk_enum (K := K) (a := a) (xs := cs.map V.str)) (fun m H' => Same H H' ∧ H' D = some (.lst ((twice cs m).map fun q : Nat => V.int (q : Int)))) ⟨by rw [e1]; exact s1, by rw [e1]; exact h1⟩ ?_ ?_ ?_
      · rintro m H' _ ⟨s2, _⟩
        exact SqL.ext ha s2
      · rintro m y H2 _ hm ⟨s2, h2⟩ ⟨t2, c', v, rfl, ht2, rfl, ec, ev⟩
        obtain ⟨c, ev2, rfl⟩ := str_at ev
        have ec' := Option.some.inj ec
        subst ec'
        have hm' : m < cs.length := by simpa using hm
        have sn := twice_snoc ev2
        obtain ⟨H3, e3, s3, h3⟩ := new_heap (o := .tup [.int (m : Int), .str c]) ht2
        rw [e3]
        refine i_gtup h3 rfl (i_gcons ?_)
        walk_at "rd"
        refine ⟨rfl, ?_⟩
        walk_at "rd"
        refine i_sl ?_
        walk_at "rd"
        refine i_noPart (i_part ?_)
        walk_at "rd"
        refine ⟨(m : Int), rfl, a, _, rfl, SqL.ext (SqL.ext ha s2) s3, fun p hp => ?_⟩
        obtain ⟨H4, e4, s4, h4⟩ := new_heap (o := .lst ((cs.take m).map V.str)) hp
        have ec : cutV (cs.map V.str) none (some (m : Int)) = (cs.take m).map V.str := by rw [cut_to _ (by rw [List.length_map]; omega), List.map_take]
        rw [ec, e4]
        have s24 : Same H2 H4 := fun b o z => s4 _ _ (s3 _ _ z)
        have s04 : Same H H4 := fun b o z => s24 _ _ (s2 _ _ z)
        refine in_at (.inl (SqL.of h4)) ⟨_, rfl, ?_⟩
        refine ite_d (fun hk => ?_) (fun hk => ?_)
        · walk_at "rd"
          rw [if_pos hk] at sn
          refine ⟨_, s24 _ _ h2, size_lt (by rw [List.length_map]; have := twice_le cs m; omega), Same.mut s04 hD, ?_⟩
          rw [upd_same, sn, List.map_append]
          rfl
        · rw [if_neg hk] at sn
          exact ⟨s04, by rw [sn]; exact s24 _ _ h2⟩
      · rintro H' ⟨s2, h2⟩
        rw [List.length_map] at h2
        walk_at "rd"
        refine ⟨Nat.zero_le _, fun y hy => ?_⟩
        obtain ⟨H5, e5, s5, h5⟩ := new_heap (o := .lst []) hy
        rw [e5]
        refine ⟨D, y, _, rfl, rfl, s5 _ _ h2, h5, ?_⟩
        rw [show (List.map (fun q : Nat => V.int (q : Int)) (twice cs cs.length)).isEmpty = (twice cs cs.length).isEmpty from by cases twice cs cs.length <;> rfl, twice_nil]
        exact q H5 fun b o z => s5 _ _ (s2 _ _ z)
    · refine ⟨_, (pss_one (ps_ret (pe_cmpR (op_eqNil (roomU hr)) (pe_lc (own := [("_law_at", 1), ("_law_one", 2)]) (g := gTup K 2 (gCons (gName 1) (gCons (gName 2) gNil))) rfl sc_once.nd (pi_enumT (by rfl) z_enumerate (pa_cons (pv 0) pa_nil)) (blkOk_by (own := [("_law_at", 1), ("_law_one", 2)]) (N := ["_law_some_here", "_law_at", "_law_one"]) (sc := defScope s_once) (by decide +kernel)) (fun _ _ _ _ _ => pg_tup (by rfl) (pgs_cons (pg_name (i := 1) sc_once.nd rfl (Or.inl rfl)) (pgs_cons (pg_name (i := 2) sc_once.nd rfl (Or.inl rfl)) pgs_nil))) (fun _ _ _ _ _ => pts_one (pt_cmpR (op_inK (K := K) rfl) (pv 2) (pe_slice (sl_tupK (K := K) rfl) (pv 0) po_none (po_some (pv 1))) (by rfl))) (fun _ _ _ _ _ => (pv 1))) (pe_lst pa_nil) (nomark _)))), ?_⟩
      walk_at "rd"
      refine i_iET ?_
      walk_at "rd"
      refine ⟨a, _, rfl, ha, fun D hD => ?_⟩
      obtain ⟨H1, e1, s1, h1⟩ := new_heap (o := .lst []) hD
      refine lc_it (walk_enumT (K := K) (a := a) (xs := cs.map V.str)) (fun m H' => Same H H' ∧ H' D = some (.lst ((twice cs m).map fun q : Nat => V.int (q : Int)))) ⟨by rw [e1]; exact s1, by rw [e1]; exact h1⟩ ?_ ?_ ?_
      · rintro m H' _ ⟨s2, _⟩
        exact SqT.ext ha s2
      · rintro m y H2 _ hm ⟨s2, h2⟩ ⟨t2, c', v, rfl, ht2, rfl, ec, ev⟩
        obtain ⟨c, ev2, rfl⟩ := str_at ev
        have ec' := Option.some.inj ec
        subst ec'
        have hm' : m < cs.length := by simpa using hm
        have sn := twice_snoc ev2
        obtain ⟨H3, e3, s3, h3⟩ := new_heap (o := .tup [.int (m : Int), .str c]) ht2
        rw [e3]
        refine i_gtup h3 rfl (i_gcons ?_)
        walk_at "rd"
        refine ⟨rfl, ?_⟩
        walk_at "rd"
        refine i_sl ?_
        walk_at "rd"
        refine i_noPart (i_part ?_)
        walk_at "rd"
        refine ⟨(m : Int), rfl, a, _, rfl, SqT.ext (SqT.ext ha s2) s3, fun ⟨_, z⟩ => ?_, fun p hp => ?_⟩
        · simp only [HT.sIx] at z
          rw [if_neg (by omega), List.length_map] at z
          omega
        obtain ⟨H4, e4, s4, h4⟩ := new_heap (o := .tup ((cs.take m).map V.str)) hp
        have ec : cutV (cs.map V.str) none (some (m : Int)) = (cs.take m).map V.str := by rw [cut_to _ (by rw [List.length_map]; omega), List.map_take]
        rw [ec, e4]
        have s24 : Same H2 H4 := fun b o z => s4 _ _ (s3 _ _ z)
        have s04 : Same H H4 := fun b o z => s24 _ _ (s2 _ _ z)
        refine in_at (.inr (SqT.of h4)) ⟨_, rfl, ?_⟩
        refine ite_d (fun hk => ?_) (fun hk => ?_)
        · walk_at "rd"
          rw [if_pos hk] at sn
          refine ⟨_, s24 _ _ h2, size_lt (by rw [List.length_map]; have := twice_le cs m; omega), Same.mut s04 hD, ?_⟩
          rw [upd_same, sn, List.map_append]
          rfl
        · rw [if_neg hk] at sn
          exact ⟨s04, by rw [sn]; exact s24 _ _ h2⟩
      · rintro H' ⟨s2, h2⟩
        rw [List.length_map] at h2
        walk_at "rd"
        refine ⟨Nat.zero_le _, fun y hy => ?_⟩
        obtain ⟨H5, e5, s5, h5⟩ := new_heap (o := .lst []) hy
        rw [e5]
        refine ⟨D, y, _, rfl, rfl, s5 _ _ h2, h5, ?_⟩
        rw [show (List.map (fun q : Nat => V.int (q : Int)) (twice cs cs.length)).isEmpty = (twice cs cs.length).isEmpty from by cases twice cs cs.length <;> rfl, twice_nil]
        exact q H5 fun b o z => s5 _ _ (s2 _ _ z)
end
end Spk

set_option Elab.async false
set_option linter.all false
set_option maxRecDepth 100000
set_option maxHeartbeats 2000000
namespace Spk
open PySem L2
local macro_rules | `(tactic| walk_at "rd") => `(tactic| repeat (first
  | with_reducible refine i_seq ?_ | with_reducible refine i_asg ?_ | with_reducible refine i_ret ?_ | with_reducible refine i_ifS ?_ | with_reducible refine i_if ?_
  | with_reducible refine i_for ?_ | with_reducible refine i_iL ?_ | with_reducible refine i_iT ?_ | with_reducible refine i_ckw ?_ | with_reducible refine i_cm ?_ | with_reducible refine And.intro (rfl : V.ref _ = V.ref _) ?_ | with_reducible refine i_rng1 ?_ | with_reducible refine i_bm ?_ | with_reducible refine i_bm0 ?_
  | with_reducible refine i_drop ?_ | with_reducible refine i_next ?_
  | with_reducible refine i_var rfl ?_ | with_reducible refine i_c ?_ | with_reducible refine i_op ?_ | with_reducible refine i_un ?_ | with_reducible refine i_name ?_
  | with_reducible refine i_rI0 ?_ | with_reducible refine i_rU ?_ | with_reducible refine i_rEq rfl ?_ | with_reducible refine i_rNe rfl ?_
  | with_reducible refine i_test ?_ | with_reducible refine i_tB ?_ | with_reducible refine i_and ?_ | with_reducible refine i_or ?_ | with_reducible refine i_not ?_
  | with_reducible refine i_andV ?_ | with_reducible refine i_orV ?_ | with_reducible refine i_notV ?_
  | with_reducible refine i_cons ?_ | with_reducible refine i_nil ?_ | with_reducible refine i_cb ?_ | with_reducible refine i_call ?_ | with_reducible refine i_bl ?_
  | with_reducible refine i_tup ?_ | with_reducible refine i_lst ?_ | with_reducible refine i_par ?_ | with_reducible refine i_gcons ?_ | with_reducible refine i_gnil ?_
  | with_reducible refine And.intro (rfl : V.non = V.non) ?_ | with_reducible refine i_ixT (by assumption) rfl ?_ | with_reducible refine i_ixL (by assumption) rfl ?_ | with_reducible refine i_gtup (by assumption) rfl ?_
  | with_reducible refine i_gsub ?_
  | with_reducible refine Or.inl (Exists.intro _ (And.intro (rfl : [V.int _] = [V.int _]) ?_)) | with_reducible refine Exists.intro _ (And.intro (rfl : [V.int _] = [V.int _]) ?_)
  | with_reducible refine Or.inr (Exists.intro _ (And.intro (rfl : [V.bl _] = [V.bl _]) ?_))
  | with_reducible refine Exists.intro _ (Exists.intro _ (And.intro (rfl : [V.int _, V.int _] = [V.int _, V.int _]) ?_))
  | with_reducible refine Exists.intro _ (Exists.intro _ (And.intro (rfl : [V.ref _] = [V.ref _]) (And.intro (Or.inl (SqL.of (by assumption))) ?_)))
  | with_reducible refine i_rI (show (0 : Int) < _ by assumption) ?_ | with_reducible refine i_rI (show (0 : Int) < _ by decide) ?_
  | with_reducible refine i_rI (pow_ok (Nat.le_of_ble_eq_true rfl) (Nat.le_of_ble_eq_true rfl)) ?_
  | with_reducible refine i_rI (cmulL rfl) ?_))
/-! ### what the law draws -/
theorem eqv_nil (cs : List Str) : PyData.eqv (.list (cs.map PyData.str)) (.list (([] : List Str).map PyData.str)) = decide (cs = []) := by
  cases cs <;> simp [PyData.eqv, PyData.eqvAll]
theorem penny_strs (cs : List Str) : penny (.lst (cs.map V.str)) = false := by
  cases cs <;> rfl
theorem Keep.mut {H0 H : Hp} {d : Addr} {o : HO} (e : Keep H0 H) (h : H0 d = none) : Keep H0 (upd H d o) := fun b u pn hb => by
  rw [upd_ne (ne_of_none hb h)]
  exact e b u pn hb
theorem pen_off {H : Hp} {p L d : Addr} {n : Nat} {o : HO} (h : Pen H p L n) (n1 : p ≠ d) (n2 : L ≠ d) : Pen (upd H d o) p L n := by
  obtain ⟨ns, a, l, h1, h2, r⟩ := h
  exact ⟨ns, a, l, by rw [upd_ne n1]; exact h1, by rw [upd_ne n2]; exact h2, r⟩
theorem pen_ne {H : Hp} {p L d : Addr} {n : Nat} (h : Pen H p L n) (hd : H d = none) : p ≠ d ∧ L ≠ d := by
  obtain ⟨ns, a, l, h1, h2, r⟩ := h
  exact ⟨ne_of_none h1 hd, ne_of_none h2 hd⟩
theorem seq_ix {n : Nat} {d : Int} (h0 : 0 ≤ d) (h1 : d < n) : seqIndex? d n = some d.toNat := by
  refine (ixN_seq (j := d.toNat) ?_).1
  unfold ixN
  rw [if_pos h0, if_pos h1]
theorem map_erase {α β : Type} (f : α → β) (xs : List α) (k : Nat) : (xs.map f).eraseIdx k = (xs.eraseIdx k).map f := by
  induction xs generalizing k with
  | nil => rfl
  | cons x xs ih =>
    cases k with
    | zero => rfl
    | succ k => simp [ih]
theorem perm_erase {α : Type} : ∀ {xs : List α} {k : Nat} (h : k < xs.length), (xs[k] :: xs.eraseIdx k).Perm xs
  | x :: xs, 0, _ => List.Perm.refl _
  | x :: xs, k + 1, h => ((List.Perm.swap x _ _).trans (List.Perm.cons x (perm_erase (xs := xs) (k := k) (by simpa using h))))
section
variable {P : Program} {w : World} {K : PySem.W.Frag} {mg : Str → Option Value} {base : Heap}
abbrev s_some : Stmt := top 16
theorem sc_some : FnScope ["_law_pen_here", "_law_names", "_law_most", "_law_left", "_law_found", "_law_turn"] ["_law_pen_here", "_law_names", "_law_most"] (defScope s_some) := ⟨rfl, rfl, rfl, by decide +kernel, rfl, by decide +kernel, by decide +kernel⟩
def sp_some : Sp := fun vs H Q _ => ∃ p L n l, ∃ cs : List Str, ∃ m : Int, vs = [.ref p, .ref l, .int m] ∧ Pen H p L n ∧ n ≤ 9900 ∧ H l = some (.lst (cs.map V.str)) ∧ cs.length ≤ 8 ∧ TxsOk cs ∧ 0 < m ∧ m ≤ 8 ∧
  ∀ t H' (ks : List Str), Keep H H' → Pen H' p L (n + 1 + m.toNat) → H' t = some (.tup (ks.map V.str)) → (∀ c, c ∈ ks → c ∈ cs) → ks.length ≤ m.toNat → Q (.ref t) H'
structure SoInv (H0 : Hp) (p L l a b : Addr) (n : Nat) (m : Int) (cs : List Str) (i : Nat) (σ : L2.St) (H : Hp) : Prop where
  ex : ∃ (ls ks : List Str) (x : Option V), σ = [some (.ref p), some (.ref l), some (.int m), some (.ref a), some (.ref b), x] ∧ Keep H0 H ∧ Pen H p L (n + 1 + i) ∧ H a = some (.lst (ls.map V.str)) ∧ H b = some (.lst (ks.map V.str)) ∧
    (∀ c, c ∈ ks ++ ls → c ∈ cs) ∧ ks.length ≤ i ∧ ls.length ≤ 8
theorem ok_some {f fD : Addr} {fd fdD : FuncData} (F : Fun K "_law_some" "_law_some" s_some f fd)
    (F_draw : Fun K "_law_draw" "_law_draw" s_draw fD fdD) (B_draw : Binds K fdD ["_law_pen_here", "_law_many"] []) (g_draw : mg "_law_draw" = some (.ref fD)) (G_draw : FnOk P w K mg base CX0 1 fD fdD ["_law_pen_here", "_law_many"] sp_draw)
    (z_list : mg "list" = none) (z_len : mg "len" = none) (z_range : mg "range" = none) (z_tuple : mg "tuple" = none) : FnOk P w K mg base CX0 2 f fd ["_law_pen_here", "_law_names", "_law_most"] sp_some := by
  refine F.ok sc_some (fun vs H Q E h => ?_) (fun cdv A outer s H vs Q E hr h => ?_)
  · obtain ⟨p, L, n, l, cs, m, rfl, _⟩ := h
    rfl
  · obtain ⟨p, L, n, l, cs, m, rfl, hp, hn, hl, hz, tx, m0, m8, q⟩ := h
    refine ⟨_, (pss_cons (ps_set (i := 3) sc_some.nd rfl (Or.inl rfl) (pe_callTy call_list_of (by rfl) z_list (by decide +kernel) (pa_cons (pv 1) pa_nil)))
 (pss_cons (ps_set (i := 4) sc_some.nd rfl (Or.inl rfl) (pe_lst pa_nil))
 (pss_cons (ps_for PassesOwn.never rfl (pi_range1 (by rfl) z_range (pa_cons (pe_op op_add pe_int (pe_call G_draw (hr.mono (by decide)) rfl g_draw F_draw.kp B_draw .nil pass0 (pa_cons (pv 0) (pa_cons (pv 2) pa_nil)))) pa_nil)) (pg_name (i := 5) sc_some.nd rfl (Or.inl rfl))
 (pss_one (ps_if (pt_cmpR (op_neD hr.units) (pv 3) (pe_lst pa_nil) (nomark _))
 (pss_one (ps_expr (pe_bm PySem.F.plainAttrs_list PySem.F.slot_list_append PySem.F.type_list_append mt_append (pv 4) (pa_cons (pe_bm PySem.F.plainAttrs_list PySem.F.slot_list_pop PySem.F.type_list_pop mt_popAt (pv 3) (pa_cons (pe_call G_draw (hr.mono (by decide)) rfl g_draw F_draw.kp B_draw .nil pass0 (pa_cons (pv 0) (pa_cons (pe_callB call_len_seq (by rfl) z_len PySem.boot_len (pa_cons (pv 3) pa_nil)) pa_nil))) pa_nil)) pa_nil))))
 pss_nil)))
 (pss_one (ps_ret (pe_callTy call_tuple_of (by rfl) z_tuple (by decide +kernel) (pa_cons (pv 4) pa_nil))))))), ?_⟩
    walk_at "rd"
    intro a ha
    obtain ⟨H1, e1, s1, h1⟩ := new_heap (o := .lst (cs.map V.str)) ha
    rw [e1]
    walk_at "rd"
    refine ⟨Nat.zero_le _, fun b hb => ?_⟩
    obtain ⟨H2, e2, s2, h2⟩ := new_heap (o := .lst []) hb
    rw [e2]
    walk_at "rd"
    have hp1 := hp.up s1
    have p2 := hp1.up s2
    have ab : a ≠ b := ne_of_none h1 hb
    obtain ⟨pa, La⟩ := pen_ne hp ha
    obtain ⟨pb, Lb⟩ := pen_ne hp1 hb
    have hb0 : H b = none := by
      cases hh : H b with
      | none => rfl
      | some o => exact absurd (s1 _ _ hh) (by rw [hb]; exact fun z => nomatch z)
    refine ⟨p, L, n, m, rfl, p2, by omega, m0, by omega, fun d H3 d0 d1 k3 p3 => ?_⟩
    walk_at "rd"
    have k03 : Keep H H3 := (Same.keep (fun c o z => s2 _ _ (s1 _ _ z))).trans k3
    refine ⟨by omega, by omega, for_range (lo := 0) (n := (1 + d).toNat) (SoInv H p L l a b n m cs) ⟨cs, [], _, rfl, k03, p3.mono (by omega), k3 _ _ (penny_strs cs) (s2 _ _ h1), k3 _ _ rfl h2, fun c hc => by simpa using hc, Nat.le_refl _, hz⟩ ?_ ?_⟩
    · rintro i σ H4 hi ⟨ls, ks, x5, rfl, k4, p4, ha4, hb4, sub4, kz4, lz⟩
      have im : (i : Int) < m := by omega
      have lsub : ∀ c, c ∈ ls → c ∈ cs := fun c hc => sub4 c (List.mem_append_right _ hc)
      walk_at "rd"
      refine ⟨Nat.zero_le _, fun y hy => ?_⟩
      obtain ⟨H5, e5, s5, h5⟩ := new_heap (o := .lst []) hy
      rw [e5]
      have ha5 := s5 _ _ ha4
      have hb5 := s5 _ _ hb4
      have p5 := p4.up s5
      have k5 : Keep H H5 := k4.trans (Same.keep s5)
      refine ⟨.list (ls.map PyData.str), .list (([] : List Str).map PyData.str), .lst (SqL.of ha5) (dps_strs ls), .lst (SqL.of h5) .nil, shaped_strs (fun c hc => tx c (lsub c hc)), shaped_strs (fun c hc => absurd hc List.not_mem_nil), ?_⟩
      rw [eqv_nil]
      refine ⟨_, rfl, ite_nd (fun hne => ?_) (fun he => ?_)⟩
      · have lpos : 0 < ls.length := List.length_pos_iff.mpr hne
        walk_at "rd"
        refine i_tyL hb5 ?_
        walk_at "rd"
        refine i_tyL ha5 ?_
        walk_at "rd"
        rw [List.length_map]
        refine ⟨p, L, _, _, rfl, p5, by omega, by omega, by omega, fun g H6 g0 g1 k6 p6 => ?_⟩
        walk_at "rd"
        have ha6 := k6 _ _ (penny_strs _) ha5
        have hb6 := k6 _ _ (penny_strs _) hb5
        have gl : g.toNat < ls.length := by omega
        refine ⟨a, _, g, g.toNat, .str ls[g.toNat], rfl, rfl, ha6, by omega, by omega, seq_ix g0 (by rw [List.length_map]; omega), by rw [List.getElem?_map, List.getElem?_eq_getElem gl]; rfl, ?_⟩
        rw [map_erase]
        have hb7 : upd H6 a (.lst ((ls.eraseIdx g.toNat).map V.str)) b = some (.lst (ks.map V.str)) := by rw [upd_ne ab.symm]; exact hb6
        walk_at "rd"
        refine i_app hb7 (by rw [List.length_map]; omega) ?_
        have pm := perm_erase gl
        have pm2 : ((ks ++ [ls[g.toNat]]) ++ ls.eraseIdx g.toNat).Perm (ks ++ ls) := by
          rw [List.append_assoc]
          exact List.Perm.append_left ks pm
        refine ⟨ls.eraseIdx g.toNat, ks ++ [ls[g.toNat]], _, rfl, (((k5.trans k6).mut ha).mut hb0), (pen_off (pen_off p6 pa La) pb Lb).mono (by omega), ?_, ?_, fun c hc => sub4 c (pm2.mem_iff.mp hc), by rw [List.length_append]; simp; omega, by rw [List.length_eraseIdx, if_pos gl]; omega⟩
        · rw [upd_ne ab, upd_same]
        · rw [upd_same, List.map_append]
          rfl
      · refine ⟨ls, ks, _, rfl, k5, p5.mono (by omega), ha5, hb5, sub4, by omega, lz⟩
    · rintro σ H4 ⟨ls, ks, x5, rfl, k4, p4, ha4, hb4, sub4, kz4, lz⟩
      walk_at "rd"
      refine ⟨b, _, rfl, .inl ⟨SqL.of hb4, fun t ht => ?_⟩⟩
      obtain ⟨H5, e5, s5, h5⟩ := new_heap (o := .tup (ks.map V.str)) ht
      rw [e5]
      exact q t H5 ks (k4.trans (Same.keep s5)) ((p4.up s5).mono (by omega)) h5 (fun c hc => sub4 c (List.mem_append_left _ hc)) (by omega)
theorem cut_one (us : List V) : cutV us none (some (1 : Int)) = us.take 1 := by
  unfold cutV
  have e1 : HT.sIx us.length us.length (some (1 : Int)) = min 1 us.length := by
    simp only [HT.sIx]
    rw [if_neg (by omega)]
    omega
  rw [e1]
  simp only [HT.sIx]
  cases us <;> simp
theorem catA_at {K : PySem.W.Frag} {H : Hp} {a b : Addr} {xs ys : List V} {Q : VK} (ha : H a = some (.tup xs)) (hb : H b = some (.tup ys)) (hz : xs.length + ys.length ≤ 100000) (q : ∀ p H', Same H H' → H' p = some (.tup (xs ++ ys)) → Q (.ref p) H') : rCatA K (.ref a) (.ref b) H Q := by
  refine ⟨a, b, xs, ys, rfl, rfl, SqT.of ha, SqT.of hb, size_of hz, fun e => ?_, fun _ e => ?_, fun _ _ p hp => ?_⟩
  · subst e
    exact q b H (Same.refl H) hb
  · subst e
    exact q a H (Same.refl H) (by rw [List.append_nil]; exact ha)
  · obtain ⟨H1, e1, s1, h1⟩ := new_heap (o := .tup (xs ++ ys)) hp
    rw [e1]
    exact q p H1 s1 h1
abbrev s_part : Stmt := top 21
theorem sc_part : FnScope ["_law_pen_here", "_law_names", "_law_most", "_law_found", "_law_pick"] ["_law_pen_here", "_law_names", "_law_most"] (defScope s_part) := ⟨rfl, rfl, rfl, by decide +kernel, rfl, by decide +kernel, by decide +kernel⟩
def sp_part : Sp := fun vs H Q _ => ∃ p L n l, ∃ cs : List Str, ∃ m : Int, vs = [.ref p, .ref l, .int m] ∧ Pen H p L n ∧ n ≤ 9800 ∧ H l = some (.lst (cs.map V.str)) ∧ cs.length ≤ 8 ∧ TxsOk cs ∧ 0 < m ∧ m ≤ 8 ∧
  ∀ t H' (ks : List Str), Keep H H' → Pen H' p L (n + 2 + m.toNat) → H' t = some (.tup (ks.map V.str)) → TxsOk ks → ks.length ≤ 10 → Q (.ref t) H'
theorem ok_part {f fD fS : Addr} {fd fdD fdS : FuncData} (F : Fun K "_law_part" "_law_part" s_part f fd)
    (F_draw : Fun K "_law_draw" "_law_draw" s_draw fD fdD) (B_draw : Binds K fdD ["_law_pen_here", "_law_many"] []) (g_draw : mg "_law_draw" = some (.ref fD)) (G_draw : FnOk P w K mg base CX0 1 fD fdD ["_law_pen_here", "_law_many"] sp_draw)
    (F_some : Fun K "_law_some" "_law_some" s_some fS fdS) (B_some : Binds K fdS ["_law_pen_here", "_law_names", "_law_most"] []) (g_some : mg "_law_some" = some (.ref fS)) (G_some : FnOk P w K mg base CX0 2 fS fdS ["_law_pen_here", "_law_names", "_law_most"] sp_some) : FnOk P w K mg base CX0 3 f fd ["_law_pen_here", "_law_names", "_law_most"] sp_part := by
  refine F.ok sc_part (fun vs H Q E h => ?_) (fun cdv A outer s H vs Q E hr h => ?_)
  · obtain ⟨p, L, n, l, cs, m, rfl, _⟩ := h
    rfl
  · obtain ⟨p, L, n, l, cs, m, rfl, hp, hn, hl, hz, tx, m0, m8, q⟩ := h
    refine ⟨_, (pss_cons (ps_set (i := 3) sc_part.nd rfl (Or.inl rfl) (pe_call G_some (hr.mono (by decide)) rfl g_some F_some.kp B_some .nil pass0 (pa_cons (pv 0) (pa_cons (pv 1) (pa_cons (pv 2) pa_nil)))))
 (pss_cons (ps_set (i := 4) sc_part.nd rfl (Or.inl rfl) (pe_call G_draw (hr.mono (by decide)) rfl g_draw F_draw.kp B_draw .nil pass0 (pa_cons (pv 0) (pa_cons pe_int pa_nil))))
 (pss_cons (ps_if (pt_cmpR op_eq (pv 4) pe_int (nomark _))
 (pss_one (ps_ret (pe_op op_catA (pv 3) (pe_slice sl_tupA (pv 3) po_none (po_some pe_int)))))
 pss_nil)
 (pss_cons (ps_if (pt_cmpR op_eq (pv 4) pe_int (nomark _))
 (pss_one (ps_ret (pe_op op_catA (pv 3) (pe_tup (pa_cons pe_str pa_nil)))))
 pss_nil)
 (pss_one (ps_ret (pe_ifExp (pt_cmpR op_lt (pv 4) pe_int (nomark _)) (pv 3) (pe_tup pa_nil)))))))), ?_⟩
    walk_at "rd"
    refine ⟨p, L, n, l, cs, m, rfl, hp, by omega, hl, hz, tx, m0, m8, fun t H1 ks k1 p1 ht sub kz => ?_⟩
    have txk : TxsOk ks := fun c hc => tx c (sub c hc)
    walk_at "rd"
    refine ⟨p, L, _, 9, rfl, p1, by omega, by decide, by decide, fun d H2 d0 d1 k2 p2 => ?_⟩
    have ht2 := k2 _ _ rfl ht
    have k02 := k1.trans k2
    have p3 : Pen H2 p L (n + 2 + m.toNat) := p2.mono (by omega)
    clear p2 k2 p1 ht
    walk_at "rd"
    refine ite_d (fun h0 => ?_) (fun h0 => ?_)
    · have cat : ∀ u H3, Same H2 H3 → H3 u = some (.tup ((ks.take 1).map V.str)) → rCatA K (.ref t) (.ref u) H3 Q := fun u H3 s3 h3 => catA_at (s3 _ _ ht2) h3 (by simp; omega) fun v H4 s4 h4 =>
        q v H4 (ks ++ ks.take 1) (k02.trans (Same.keep fun b o z => s4 _ _ (s3 _ _ z))) (p3.up fun b o z => s4 _ _ (s3 _ _ z)) (by rw [h4, List.map_append]) (fun c hc => (List.mem_append.mp hc).elim (fun z => txk c z) fun z => txk c (List.mem_of_mem_take z)) (by rw [List.length_append, List.length_take]; omega)
      walk_at "rd"
      refine i_sl ?_
      walk_at "rd"
      refine i_noPart (i_part ?_)
      walk_at "rd"
      refine ⟨1, rfl, t, _, rfl, SqT.of ht2, fun ⟨_, z⟩ => ?_, fun _ u hu => ?_⟩
      · simp only [HT.sIx] at z
        rw [if_neg (by omega)] at z
        refine cat t H2 (Same.refl _) ?_
        rw [ht2, List.take_of_length_le (by rw [List.length_map] at z; omega)]
      · obtain ⟨H3, e3, s3, h3⟩ := new_heap (o := .tup ((ks.take 1).map V.str)) hu
        rw [cut_one, ← List.map_take, e3]
        exact cat u H3 s3 h3
    · walk_at "rd"
      refine ite_d (fun h1 => ?_) (fun h1 => ?_)
      · walk_at "rd"
        refine ⟨size_of (Nat.le_of_ble_eq_true rfl), fun u hu => ?_⟩
        obtain ⟨H3, e3, s3, h3⟩ := new_heap (o := .tup [.str "nobody"]) hu
        rw [e3]
        refine catA_at (s3 _ _ ht2) h3 (by simp; omega) fun v H4 s4 h4 => ?_
        refine q v H4 (ks ++ [("nobody" : Str)]) (k02.trans (Same.keep fun b o z => s4 _ _ (s3 _ _ z))) (p3.up fun b o z => s4 _ _ (s3 _ _ z)) (by rw [h4, List.map_append]; rfl) (fun c hc => (List.mem_append.mp hc).elim (fun z => txk c z) fun z => ?_) (by rw [List.length_append]; simp; omega)
        rw [List.mem_singleton.mp z]
        all_goals decide +kernel
      · walk_at "rd"
        refine ite_d (fun h2 => ?_) (fun h2 => ?_)
        · walk_at "rd"
          exact q t H2 ks k02 p3 ht2 txk (by omega)
        · walk_at "rd"
          refine ⟨Nat.zero_le _, fun u hu => ?_⟩
          obtain ⟨H3, e3, s3, h3⟩ := new_heap (o := .tup []) hu
          rw [e3]
          exact q u H3 [] (k02.trans (Same.keep s3)) (p3.up s3) h3 (fun c hc => absurd hc List.not_mem_nil) (Nat.zero_le _)
end
end Spk

set_option Elab.async false
set_option linter.all false
set_option maxRecDepth 100000
set_option maxHeartbeats 4000000
namespace Spk
open PySem L2
local macro_rules | `(tactic| walk_at "rd") => `(tactic| repeat (first
  | with_reducible refine i_seq ?_ | with_reducible refine i_asg ?_ | with_reducible refine i_ret ?_ | with_reducible refine i_ifS ?_ | with_reducible refine i_if ?_
  | with_reducible refine i_for ?_ | with_reducible refine i_iL ?_ | with_reducible refine i_iT ?_ | with_reducible refine i_ckw ?_ | with_reducible refine i_cm ?_ | with_reducible refine And.intro (rfl : V.ref _ = V.ref _) ?_ | with_reducible refine i_rng1 ?_ | with_reducible refine i_bm ?_ | with_reducible refine i_bm0 ?_
  | with_reducible refine i_drop ?_ | with_reducible refine i_next ?_
  | with_reducible refine i_var rfl ?_ | with_reducible refine i_c ?_ | with_reducible refine i_op ?_ | with_reducible refine i_un ?_ | with_reducible refine i_name ?_
  | with_reducible refine i_rI0 ?_ | with_reducible refine i_rU ?_ | with_reducible refine i_rEq rfl ?_ | with_reducible refine i_rNe rfl ?_
  | with_reducible refine i_test ?_ | with_reducible refine i_tB ?_ | with_reducible refine i_and ?_ | with_reducible refine i_or ?_ | with_reducible refine i_not ?_
  | with_reducible refine i_andV ?_ | with_reducible refine i_orV ?_ | with_reducible refine i_notV ?_
  | with_reducible refine i_cons ?_ | with_reducible refine i_nil ?_ | with_reducible refine i_cb ?_ | with_reducible refine i_call ?_ | with_reducible refine i_bl ?_
  | with_reducible refine i_tup ?_ | with_reducible refine i_lst ?_ | with_reducible refine i_par ?_ | with_reducible refine i_gcons ?_ | with_reducible refine i_gnil ?_
  | with_reducible refine And.intro (rfl : V.non = V.non) ?_ | with_reducible refine i_ixT (by assumption) rfl ?_ | with_reducible refine i_ixL (by assumption) rfl ?_ | with_reducible refine i_gtup (by assumption) rfl ?_
  | with_reducible refine i_gsub ?_
  | with_reducible refine Or.inl (Exists.intro _ (And.intro (rfl : [V.int _] = [V.int _]) ?_)) | with_reducible refine Exists.intro _ (And.intro (rfl : [V.int _] = [V.int _]) ?_)
  | with_reducible refine Or.inr (Exists.intro _ (And.intro (rfl : [V.bl _] = [V.bl _]) ?_))
  | with_reducible refine Exists.intro _ (Exists.intro _ (And.intro (rfl : [V.int _, V.int _] = [V.int _, V.int _]) ?_))
  | with_reducible refine Exists.intro _ (Exists.intro _ (And.intro (rfl : [V.ref _] = [V.ref _]) (And.intro (Or.inl (SqL.of (by assumption))) ?_)))
  | with_reducible refine i_rI (show (0 : Int) < _ by assumption) ?_ | with_reducible refine i_rI (show (0 : Int) < _ by decide) ?_
  | with_reducible refine i_rI (pow_ok (Nat.le_of_ble_eq_true rfl) (Nat.le_of_ble_eq_true rfl)) ?_
  | with_reducible refine i_rI (cmulL rfl) ?_))
/-! ### columns, wrong ones among them -/
theorem item_at {K : PySem.W.Frag} {H : Hp} {l : Addr} {xs : List V} {d : Int} {Q : VK} (h : H l = some (.lst xs)) (h0 : 0 ≤ d) (h1 : d < xs.length) (q : ∀ v, v ∈ xs → Q v H) : rIxL K (.ref l) (.int d) H Q := by
  obtain ⟨j, rfl⟩ : ∃ j : Nat, d = (j : Int) := ⟨d.toNat, by omega⟩
  have hj : j < xs.length := by omega
  exact i_ixL h (atI_nat (List.getElem?_eq_getElem hj)) (q _ (List.getElem_mem hj))
/-- no text that stands among the columns -/
def OddT (H : Hp) (y : V) : Prop := y = .non ∨ (∃ i, y = .int i) ∨ (∃ b, y = .bl b) ∨ (∃ a xs, y = .ref a ∧ H a = some (.tup xs)) ∨ (∃ a c, y = .ref a ∧ H a = some (.lst [.str c])) ∨ (∃ a, y = .ref a ∧ H a = some (.dK []))
/-- what stands among the columns -/
def Col (H : Hp) (y : V) : Prop := (∃ z, y = .str z ∧ z.length ≤ 100 ∧ PyData.strOk z = true) ∨ OddT H y
theorem Col.keep {H H' : Hp} {y : V} (k : Keep H H') (h : Col H y) : Col H' y := by
  rcases h with h | h | h | h | ⟨a, xs, h, e⟩ | ⟨a, c, h, e⟩ | ⟨a, h, e⟩
  · exact .inl h
  · exact .inr (.inl h)
  · exact .inr (.inr (.inl h))
  · exact .inr (.inr (.inr (.inl h)))
  · exact .inr (.inr (.inr (.inr (.inl ⟨a, xs, h, k _ _ rfl e⟩))))
  · exact .inr (.inr (.inr (.inr (.inr (.inl ⟨a, c, h, k _ _ rfl e⟩)))))
  · exact .inr (.inr (.inr (.inr (.inr (.inr ⟨a, h, k _ _ rfl e⟩)))))
theorem Col.upd_ne {H : Hp} {D : Addr} {o : HO} {xs : List V} {y : V} (h : Col H y) (hD : H D = some (.lst xs)) (n : y ≠ .ref D) : Col (upd H D o) y := by
  rcases h with h | h | h | h | ⟨a, xs, h, e⟩ | ⟨a, c, h, e⟩ | ⟨a, h, e⟩
  · exact .inl h
  · exact .inr (.inl h)
  · exact .inr (.inr (.inl h))
  · exact .inr (.inr (.inr (.inl h)))
  all_goals
    have na : a ≠ D := fun z => n (by rw [h, z])
  · exact .inr (.inr (.inr (.inr (.inl ⟨a, xs, h, by rw [L2.upd_ne na]; exact e⟩))))
  · exact .inr (.inr (.inr (.inr (.inr (.inl ⟨a, c, h, by rw [L2.upd_ne na]; exact e⟩)))))
  · exact .inr (.inr (.inr (.inr (.inr (.inr ⟨a, h, by rw [L2.upd_ne na]; exact e⟩)))))
def colB : V → Bool
  | .str z => nameB z
  | _ => false
theorem Col.nm {K : PySem.W.Frag} {H : Hp} {y : V} (h : Col H y) : NmV K H y (colB y) := by
  rcases h with ⟨z, rfl, hz, _⟩ | rfl | ⟨i, rfl⟩ | ⟨b, rfl⟩ | ⟨a, xs, rfl, e⟩ | ⟨a, c, rfl, e⟩ | ⟨a, rfl, e⟩
  · exact .inl ⟨z, rfl, hz, rfl⟩
  · exact .inr ⟨⟨_, .base .non, kit_ty (by decide +kernel)⟩, rfl⟩
  · exact .inr ⟨⟨_, .base (.int i), kit_ty (by decide +kernel)⟩, rfl⟩
  · exact .inr ⟨⟨_, .base (.bl b), kit_ty (by decide +kernel)⟩, rfl⟩
  · exact .inr ⟨⟨_, .base (.tup e), kit_ty (by decide +kernel)⟩, rfl⟩
  · exact .inr ⟨⟨_, .base (.lst e), kit_ty (by decide +kernel)⟩, rfl⟩
  · exact .inr ⟨⟨_, .base (.dK e), kit_ty (by decide +kernel)⟩, rfl⟩
theorem cols_nm {K : PySem.W.Frag} {H : Hp} : ∀ {xs : List V}, (∀ y, y ∈ xs → Col H y) → Paired (NmV K H) xs (xs.map colB)
  | [], _ => .nil
  | y :: ys, h => .cons (h y List.mem_cons_self).nm (cols_nm fun u hu => h u (List.mem_cons_of_mem _ hu))
/-- columns as they are drawn -/
structure Cols (H : Hp) (l : Addr) (xs : List V) : Prop where
  at_ : H l = some (.lst xs)
  pn : penny (.lst xs) = false
  z : xs.length ≤ 5
  col : ∀ y, y ∈ xs → Col H y
theorem Cols.keep {H H' : Hp} {l : Addr} {xs : List V} (k : Keep H H') (h : Cols H l xs) : Cols H' l xs := ⟨k _ _ h.pn h.at_, h.pn, h.z, fun y hy => (h.col y hy).keep k⟩
theorem col_str {H : Hp} {cs : List Str} (sh : ∀ c, c ∈ cs → c.length ≤ 100) (tx : TxsOk cs) : ∀ y, y ∈ cs.map V.str → Col H y := fun y hy => by
  rw [List.mem_map] at hy
  obtain ⟨c, hc, rfl⟩ := hy
  exact .inl ⟨c, rfl, sh c hc, tx c hc⟩
theorem pn_set {cs : List Str} {g : Nat} {y : V} : penny (.lst ((cs.map V.str).set g y)) = false := by
  match cs, g with
  | [], _ => rfl
  | [a], 0 => cases y <;> rfl
  | [a], g + 1 => rfl
  | a :: b :: cs, 0 => cases y <;> rfl
  | a :: b :: cs, g + 1 => rfl
section
variable {P : Program} {w : World} {K : PySem.W.Frag} {mg : Str → Option Value} {base : Heap}
abbrev s_columns : Stmt := top 18
theorem sc_columns : FnScope ["_law_pen_here", "_law_left", "_law_found", "_law_pick", "_law_odd", "_law_turn"] ["_law_pen_here"] (defScope s_columns) := ⟨rfl, rfl, rfl, by decide +kernel, rfl, by decide +kernel, by decide +kernel⟩
def sp_columns : Sp := fun vs H Q _ => ∃ p L n, vs = [.ref p] ∧ Pen H p L n ∧ n ≤ 9800 ∧ ∀ l H' xs, Keep H H' → Pen H' p L (n + 9) → Cols H' l xs → Q (.ref l) H'
structure CoInv (H0 : Hp) (p L a D : Addr) (n : Nat) (i : Nat) (H : Hp) : Prop where
  ex : ∃ ls cs : List Str, (∀ b o, b ≠ a → penny o = false → H0 b = some o → H b = some o) ∧ Pen H p L (n + 1 + i) ∧ H a = some (.lst (ls.map V.str)) ∧ H D = some (.lst (cs.map V.str)) ∧ ls.length + i = 10 ∧ cs.length = i ∧ (∀ c, c ∈ ls ++ cs → c.length ≤ 100) ∧ TxsOk (ls ++ cs)
theorem ok_columns {f fD : Addr} {fd fdD : FuncData} (F : Fun K "_law_columns" "_law_columns" s_columns f fd)
    (F_draw : Fun K "_law_draw" "_law_draw" s_draw fD fdD) (B_draw : Binds K fdD ["_law_pen_here", "_law_many"] []) (g_draw : mg "_law_draw" = some (.ref fD)) (G_draw : FnOk P w K mg base CX0 1 fD fdD ["_law_pen_here", "_law_many"] sp_draw)
    (z_range : mg "range" = none) (z_len : mg "len" = none) : FnOk P w K mg base CX0 2 f fd ["_law_pen_here"] sp_columns := by
  refine F.ok sc_columns (fun vs H Q E h => ?_) (fun cdv A outer s H vs Q E hr h => ?_)
  · obtain ⟨p, L, n, rfl, _⟩ := h
    rfl
  · obtain ⟨p, L, n, rfl, hp, hn, q⟩ := h
    refine ⟨_, (pss_cons (ps_set (i := 1) sc_columns.nd rfl (Or.inr rfl) (pe_lst (pa_cons pe_str (pa_cons pe_str (pa_cons pe_str (pa_cons pe_str (pa_cons pe_str (pa_cons pe_str (pa_cons pe_str (pa_cons pe_str (pa_cons pe_str (pa_cons pe_str pa_nil))))))))))))
 (pss_cons (ps_setLc (i := 2) (own := [("_law_turn", 5)]) (g := gName 5) (tt := tYes) rfl sc_columns.nd rfl rfl (sw_true rfl rfl rfl (by decide +kernel)) (pi_range1 (by rfl) z_range (pa_cons (pe_ix ix_list (pe_lst (pa_cons pe_int (pa_cons pe_int (pa_cons pe_int (pa_cons pe_int (pa_cons pe_int (pa_cons pe_int (pa_cons pe_int (pa_cons pe_int (pa_cons pe_int pa_nil)))))))))) (pe_call G_draw (hr.mono (by decide)) rfl g_draw F_draw.kp B_draw .nil pass0 (pa_cons (pv 0) (pa_cons pe_int pa_nil))) (fun _ _ => rfl)) pa_nil)) (blkOk_by (own := [("_law_turn", 5)]) (N := ["_law_pen_here", "_law_left", "_law_found", "_law_pick", "_law_odd", "_law_turn"]) (sc := defScope s_columns) (by decide +kernel)) (fun _ _ _ _ _ => pg_name (i := 5) sc_columns.nd rfl (Or.inl rfl)) (fun _ _ _ _ _ => pts_nil) (fun _ _ _ _ _ => (pe_bmK (K := K) rfl PySem.F.plainAttrs_list PySem.F.slot_list_pop PySem.F.type_list_pop mt_popAt (pv 1) (pa_cons (pe_call G_draw (hr.mono (by decide)) rfl g_draw F_draw.kp B_draw .nil pass0 (pa_cons (pv 0) (pa_cons (pe_callB (call_len_seqK (K := K) rfl) (by rfl) z_len PySem.boot_len (pa_cons (pv 1) pa_nil)) pa_nil))) pa_nil))))
 (pss_cons (ps_set (i := 3) sc_columns.nd rfl (Or.inl rfl) (pe_call G_draw (hr.mono (by decide)) rfl g_draw F_draw.kp B_draw .nil pass0 (pa_cons (pv 0) (pa_cons pe_int pa_nil))))
 (pss_cons (ps_if (PW.pt (pw_and (pt_cmpR (op_neNil (roomU hr)) (pv 2) (pe_lst pa_nil) (nomark _)) (pw_and1 (pt_cmpR op_eq (pv 3) pe_int (nomark _)))))
 (pss_cons (ps_set (i := 4) sc_columns.nd rfl (Or.inl rfl) (pe_ix ix_list (pe_lst (pa_cons pe_str (pa_cons pe_str (pa_cons pe_str (pa_cons pe_non (pa_cons pe_int (pa_cons pe_bl (pa_cons (pe_tup (pa_cons pe_str pa_nil)) (pa_cons (pe_lst (pa_cons pe_str pa_nil)) (pa_cons pe_str (pa_cons pe_str (pa_cons pe_dnewK (pa_cons pe_str pa_nil))))))))))))) (pe_call G_draw (hr.mono (by decide)) rfl g_draw F_draw.kp B_draw .nil pass0 (pa_cons (pv 0) (pa_cons pe_int pa_nil))) (fun _ _ => rfl)))
 (pss_one (ps_asg (pv 4) (pg_sub (pv 2) (pe_call G_draw (hr.mono (by decide)) rfl g_draw F_draw.kp B_draw .nil pass0 (pa_cons (pv 0) (pa_cons (pe_callB call_len_seq (by rfl) z_len PySem.boot_len (pa_cons (pv 2) pa_nil)) pa_nil))) set_list))))
 pss_nil)
 (pss_cons (ps_if (PW.pt (pw_and (pt_cmpR op_gt (pe_callB call_len_seq (by rfl) z_len PySem.boot_len (pa_cons (pv 2) pa_nil)) pe_int (nomark _)) (pw_and1 (pt_cmpR op_eq (pv 3) pe_int (nomark _)))))
 (pss_one (ps_asg (pe_ix ix_list (pv 2) pe_int (fun _ _ => rfl)) (pg_sub (pv 2) (pe_un un_neg pe_int) set_list)))
 pss_nil)
 (pss_one (ps_ret (pv 2)))))))), ?_⟩
    walk_at "rd"
    refine ⟨size_of (Nat.le_of_ble_eq_true rfl), fun a ha => ?_⟩
    obtain ⟨N10, en⟩ : ∃ N : List Str, N = (["k", "r", "u", "key", "fixed", "unique", "once", "zzzzzzzz", "a", "none"] : List Str) := ⟨_, rfl⟩
    have ev : ([.str "k", .str "r", .str "u", .str "key", .str "fixed", .str "unique", .str "once", .str "zzzzzzzz", .str "a", .str "none"] : List V) = N10.map V.str := by rw [en]; rfl
    have n10 : N10.length = 10 := by rw [en]; rfl
    have nsh : ∀ c, c ∈ N10 → c.length ≤ 100 := by rw [en]; decide +kernel
    have ntx : TxsOk N10 := by
      unfold TxsOk
      rw [en]
      decide +kernel
    rw [ev]
    clear ev en
    obtain ⟨H1, e1, s1, h1⟩ := new_heap (o := .lst (N10.map V.str)) ha
    rw [e1]
    walk_at "rd"
    unfold tLc
    walk_at "rd"
    refine ⟨size_of (Nat.le_of_ble_eq_true rfl), fun b hb => ?_⟩
    obtain ⟨H2, e2, s2, h2⟩ := new_heap (o := .lst [.int 1, .int 2, .int 3, .int 4, .int 2, .int 3, .int 4, .int 0, .int 5]) hb
    rw [e2]
    walk_at "rd"
    refine ⟨p, L, n, 9, rfl, (hp.up s1).up s2, by omega, by decide, by decide, fun d H3 d0 d1 k3 p3 => ?_⟩
    refine item_at (k3 _ _ rfl h2) d0 (by simpa using d1) fun v hv => ?_
    obtain ⟨m, rfl, m5⟩ : ∃ m : Nat, v = .int m ∧ m ≤ 5 := by
      simp only [List.mem_cons, List.not_mem_nil, or_false] at hv
      rcases hv with rfl | rfl | rfl | rfl | rfl | rfl | rfl | rfl | rfl
      · exact ⟨1, rfl, by decide⟩
      · exact ⟨2, rfl, by decide⟩
      · exact ⟨3, rfl, by decide⟩
      · exact ⟨4, rfl, by decide⟩
      · exact ⟨2, rfl, by decide⟩
      · exact ⟨3, rfl, by decide⟩
      · exact ⟨4, rfl, by decide⟩
      · exact ⟨0, rfl, by decide⟩
      · exact ⟨5, rfl, by decide⟩
    have h3 := k3 _ _ (penny_strs N10) (s2 _ _ h1)
    have k03 : Keep H H3 := (Same.keep s1).trans ((Same.keep s2).trans k3)
    have p3 : Pen H3 p L (n + 1) := p3.mono (by omega)
    clear hv h2 e2 s2 h1 e1 s1 k3 hb d0 d1
    walk_at "rd"
    refine ⟨by omega, by omega, fun D hD => ?_⟩
    have aD : a ≠ D := ne_of_none h3 hD
    obtain ⟨pD, LD⟩ := pen_ne p3 hD
    refine lc_range (lo := 0) (n := (m : Int).toNat) (CoInv H3 p L a D n) ⟨N10, [], fun b o _ _ z => by rw [upd_ne (ne_of_none z hD)]; exact z, pen_off p3 pD LD, by rw [upd_ne aD]; exact h3, upd_same, by omega, rfl, by simpa using nsh, by simpa using ntx⟩ ?_ ?_
    · rintro j H4 hj ⟨ls, cs, k4, p4, ha4, hD4, lz, cz, sh, tx⟩
      walk_at "rd"
      refine ⟨rfl, i_yes (iteT ?_)⟩
      walk_at "rd"
      refine i_tyL ha4 ?_
      walk_at "rd"
      rw [List.length_map]
      refine ⟨p, L, _, ls.length, rfl, p4, by omega, by omega, by omega, fun d2 H5 g0 g1 k5 p5 => ?_⟩
      have ha5 := k5 _ _ (penny_strs ls) ha4
      have hD5 := k5 _ _ (penny_strs cs) hD4
      walk_at "rd"
      have gl : d2.toNat < ls.length := by omega
      refine ⟨a, _, d2, d2.toNat, .str ls[d2.toNat], rfl, rfl, ha5, by omega, by omega, seq_ix g0 (by rw [List.length_map]; omega), by rw [List.getElem?_map, List.getElem?_eq_getElem gl]; rfl, ?_⟩
      rw [map_erase]
      have pm := perm_erase gl
      have pm2 : (ls.eraseIdx d2.toNat ++ (cs ++ [ls[d2.toNat]])).Perm (ls ++ cs) := by
        refine List.perm_append_comm.trans ?_
        rw [List.append_assoc]
        exact (List.Perm.append_left cs pm).trans List.perm_append_comm
      obtain ⟨pa, La⟩ : p ≠ a ∧ L ≠ a := pen_ne hp ha
      refine ⟨cs.map V.str, by rw [upd_ne aD.symm]; exact hD5, size_lt (by rw [List.length_map]; omega), ls.eraseIdx d2.toNat, cs ++ [ls[d2.toNat]], fun b o nb pn z => by rw [upd_ne (ne_of_none z hD), upd_ne nb]; exact k5 _ _ pn (k4 b o nb pn z), (pen_off (pen_off p5 pa La) pD LD).mono (by omega), ?_, ?_, by rw [List.length_eraseIdx, if_pos gl]; omega, by rw [List.length_append, cz]; rfl, fun c hc => sh c (pm2.mem_iff.mp hc), fun c hc => tx c (pm2.mem_iff.mp hc)⟩
      · rw [upd_ne aD, upd_same]
      · rw [upd_same, List.map_append]
        rfl
    · rintro H4 ⟨ls, cs, k4, p4, ha4, hD4, lz, cz, sh, tx⟩
      have em : (m : Int).toNat = m := by omega
      rw [em] at p4 lz cz
      have shc : ∀ c, c ∈ cs → c.length ≤ 100 := fun c hc => sh c (List.mem_append_right _ hc)
      have txc : TxsOk cs := fun c hc => tx c (List.mem_append_right _ hc)
      clear sh tx ha4 lz
      walk_at "rd"
      refine ⟨p, L, _, 6, rfl, p4, by omega, by decide, by decide, fun pick H5 c0 c1 k5 p5 => ?_⟩
      have hD5 := k5 _ _ (penny_strs cs) hD4
      have k05 : Keep H H5 := fun b o pn z => k5 _ _ pn (k4 b o (ne_of_none z ha) pn (k03 _ _ pn z))
      have p5 : Pen H5 p L (n + 7) := p5.mono (by omega)
      clear k5 k4 p4 hD4
      walk_at "rd"
      have last : ∀ (x4 x5 : Option V) (H' : Hp) (xs : List V) (pk : Int), Keep H H' → Pen H' p L (n + 9) → Cols H' D xs → (pk ≠ 1 ∨ xs = cs.map V.str) →
          tSeq (tIfS (tAnd (tTest (tOp (rI0 fun i j => V.bl (decide (j < i))) (tCB (fun xs H Q => ∃ p ys, xs = [V.ref p] ∧ (SqL K H p ys ∨ SqT K H p ys) ∧ Q (V.int ((ys.length : Nat) : Int)) H) (tCons (tVar 2) tNil)) (tC (V.int 1)))) (tTest (tOp rEq (tVar 3) (tC (V.int 1)))))
            (tAsg (tOp (rIxL K) (tVar 2) (tC (V.int 0))) (gSub (tVar 2) (tUn (rU fun i => V.int (-i)) (tC (V.int 1))) rSetL)) tNext) (tRet (tVar 2)) { nx := fun _ H1 => Q .non H1, rt := Q } [some (.ref p), some (.ref a), some (.ref D), some (.int pk), x4, x5] H' := by
        intro x4 x5 H' xs pk k' p' co dj
        have hD' := co.at_
        walk_at "rd"
        refine ite_d (fun h1 => ?_) (fun h1 => ?_)
        · walk_at "rd"
          refine ite_d (fun h2 => ?_) (fun h2 => ?_)
          · walk_at "rd"
            rcases dj with dj | rfl
            · first
              | exact absurd h2 dj
              | exact absurd (V.int.inj h2) dj
            obtain ⟨c0, cr, rfl⟩ : ∃ c0 cr, cs = c0 :: cr := by
              cases cs with
              | nil => simp at h1
              | cons u v => exact ⟨u, v, rfl⟩
            refine i_ixL hD' (show atI _ ((0 : Nat) : Int) = some (V.str c0) from atI_nat rfl) ?_
            walk_at "rd"
            refine ⟨D, _, -1, cr.length, rfl, rfl, hD', ?_, ?_⟩
            · unfold ixN
              rw [if_neg (by decide), List.length_map, List.length_cons]
              rw [if_pos (by omega)]
              exact congrArg some (by omega)
            walk_at "rd"
            have ex : ((c0 :: cr).map V.str).set cr.length (.str c0) = ((c0 :: cr).set cr.length c0).map V.str := by rw [List.map_set]
            have sub : ∀ c, c ∈ (c0 :: cr).set cr.length c0 → c ∈ c0 :: cr := fun c hc => by
              rcases List.mem_or_eq_of_mem_set hc with z | z
              · exact z
              · rw [z]
                exact List.mem_cons_self
            rw [ex]
            refine q D _ _ (fun b o pn z => ?_) (pen_off p' pD LD) ⟨upd_same, penny_strs _, by rw [List.length_map, List.length_set]; omega, col_str (fun c hc => shc c (sub c hc)) fun c hc => txc c (sub c hc)⟩
            rw [upd_ne (ne_of_none (k03 _ _ pn z) hD)]
            exact k' _ _ pn z
          · walk_at "rd"
            exact q D H' xs k' p' co
        · refine iteF ?_
          walk_at "rd"
          exact q D H' xs k' p' co
      refine ⟨Nat.zero_le _, fun y hy => ?_⟩
      obtain ⟨H6, e6, s6, h6⟩ := new_heap (o := .lst []) hy
      rw [e6]
      refine ⟨D, y, _, rfl, rfl, s6 _ _ hD5, h6, ?_⟩
      have kb : ∀ b : Bool, b = decide (cs ≠ []) → True := fun _ _ => trivial
      have hD6 := s6 _ _ hD5
      have k06 : Keep H H6 := k05.trans (Same.keep s6)
      have p6 : Pen H6 p L (n + 7) := p5.up s6
      by_cases c0' : cs = []
      · subst c0'
        refine ⟨false, rfl, iteF ?_⟩
        walk_at "rd"
        exact last _ _ H6 [] pick k06 (p6.mono (by omega)) ⟨hD6, rfl, Nat.zero_le _, fun y hy => absurd hy List.not_mem_nil⟩ (.inr rfl)
      · refine ⟨true, by cases cs with | nil => exact absurd rfl c0' | cons _ _ => rfl, iteT ?_⟩
        walk_at "rd"
        refine ite_d (fun h2 => ?_) (fun h2 => ?_)
        · walk_at "rd"
          refine ⟨size_of (Nat.le_of_ble_eq_true rfl), fun t1 ht1 => ?_⟩
          obtain ⟨H7, e7, s7, h7⟩ := new_heap (o := .tup [.str "k"]) ht1
          rw [e7]
          walk_at "rd"
          refine ⟨size_of (Nat.le_of_ble_eq_true rfl), fun t2 ht2 => ?_⟩
          obtain ⟨H8, e8, s8, h8⟩ := new_heap (o := .lst [.str "k"]) ht2
          rw [e8]
          walk_at "rd"
          intro t3 ht3
          obtain ⟨H9, e9, s9, h9⟩ := new_heap (o := .dK []) ht3
          rw [e9]
          walk_at "rd"
          refine ⟨size_of (Nat.le_of_ble_eq_true rfl), fun t4 ht4 => ?_⟩
          obtain ⟨H10, e10, s10, h10⟩ := new_heap (o := .lst [.str "", .str "A", .str "aaaaaaaaa", .non, .int 1, .bl true, .ref t1, .ref t2, .str "a b", .str "a1", .ref t3, .str "-"]) ht4
          rw [e10]
          have s610 : Same H6 H10 := fun b o z => s10 _ _ (s9 _ _ (s8 _ _ (s7 _ _ z)))
          walk_at "rd"
          refine ⟨p, L, _, 12, rfl, p6.up s610, by omega, by decide, by decide, fun d H11 g0 g1 k11 p11 => ?_⟩
          refine item_at (k11 _ _ rfl h10) g0 (by simpa using g1) fun odd ho => ?_
          have n1 : V.ref t1 ≠ V.ref D := fun z => ne_of_none hD6 ht1 (V.ref.inj z).symm
          have n2 : V.ref t2 ≠ V.ref D := fun z => ne_of_none (s7 _ _ hD6) ht2 (V.ref.inj z).symm
          have n3 : V.ref t3 ≠ V.ref D := fun z => ne_of_none (s8 _ _ (s7 _ _ hD6)) ht3 (V.ref.inj z).symm
          have oc : Col H11 odd ∧ odd ≠ .ref D := by
            have b1 := k11 _ _ rfl (s10 _ _ (s9 _ _ (s8 _ _ h7)))
            have b2 := k11 _ _ rfl (s10 _ _ (s9 _ _ h8))
            have b3 := k11 _ _ rfl (s10 _ _ h9)
            simp only [List.mem_cons, List.not_mem_nil, or_false] at ho
            rcases ho with rfl | rfl | rfl | rfl | rfl | rfl | rfl | rfl | rfl | rfl | rfl | rfl
            · exact ⟨.inl ⟨_, rfl, by decide +kernel, by decide +kernel⟩, fun z => nomatch z⟩
            · exact ⟨.inl ⟨_, rfl, by decide +kernel, by decide +kernel⟩, fun z => nomatch z⟩
            · exact ⟨.inl ⟨_, rfl, by decide +kernel, by decide +kernel⟩, fun z => nomatch z⟩
            · exact ⟨.inr (.inl rfl), fun z => nomatch z⟩
            · exact ⟨.inr (.inr (.inl ⟨_, rfl⟩)), fun z => nomatch z⟩
            · exact ⟨.inr (.inr (.inr (.inl ⟨_, rfl⟩))), fun z => nomatch z⟩
            · exact ⟨.inr (.inr (.inr (.inr (.inl ⟨_, _, rfl, b1⟩)))), n1⟩
            · exact ⟨.inr (.inr (.inr (.inr (.inr (.inl ⟨_, _, rfl, b2⟩))))), n2⟩
            · exact ⟨.inl ⟨_, rfl, by decide +kernel, by decide +kernel⟩, fun z => nomatch z⟩
            · exact ⟨.inl ⟨_, rfl, by decide +kernel, by decide +kernel⟩, fun z => nomatch z⟩
            · exact ⟨.inr (.inr (.inr (.inr (.inr (.inr ⟨_, rfl, b3⟩))))), n3⟩
            · exact ⟨.inl ⟨_, rfl, by decide +kernel, by decide +kernel⟩, fun z => nomatch z⟩
          have hD11 := k11 _ _ (penny_strs cs) (s610 _ _ hD6)
          have k0b : Keep H H11 := (k06.trans (Same.keep s610)).trans k11
          clear ho h10 h9 h8 h7 e7 e8 e9 e10 ht1 ht2 ht3 ht4 k11 s7 s8 s9 s10 s610
          walk_at "rd"
          rw [List.length_map]
          have cpos : 0 < cs.length := List.length_pos_iff.mpr c0'
          refine ⟨p, L, _, cs.length, rfl, p11, by omega, by omega, by omega, fun g H12 f0 f1 k12 p12 => ?_⟩
          have hD12 := k12 _ _ (penny_strs cs) hD11
          refine ⟨D, _, g, g.toNat, rfl, rfl, hD12, ?_, ?_⟩
          · unfold ixN
            rw [if_pos f0, List.length_map, if_pos f1]
          refine last _ _ _ ((cs.map V.str).set g.toNat odd) pick (fun b o pn z => ?_) (pen_off (p12.mono (by omega)) pD LD) ⟨upd_same, pn_set, by rw [List.length_set, List.length_map]; omega, fun y hy => ?_⟩ (.inl ?_)
          · rw [upd_ne (ne_of_none (k03 _ _ pn z) hD)]
            exact k12 _ _ pn (k0b _ _ pn z)
          · rcases List.mem_or_eq_of_mem_set hy with z | z
            · exact col_str shc txc y z
            · rw [z]
              exact (oc.1.keep k12).upd_ne hD12 oc.2
          · intro z
            rw [z] at h2
            first
              | omega
              | cases h2
        · exact i_next <| last _ _ H6 _ pick k06 (p6.mono (by omega)) ⟨hD6, penny_strs cs, by rw [List.length_map]; omega, col_str shc txc⟩ (.inr rfl)
end
end Spk

set_option Elab.async false
set_option linter.all false
set_option maxRecDepth 100000
set_option maxHeartbeats 4000000
namespace Spk
open PySem L2
local macro_rules | `(tactic| walk_at "rd") => `(tactic| repeat (first
  | with_reducible refine i_seq ?_ | with_reducible refine i_asg ?_ | with_reducible refine i_ret ?_ | with_reducible refine i_ifS ?_ | with_reducible refine i_if ?_
  | with_reducible refine i_for ?_ | with_reducible refine i_iL ?_ | with_reducible refine i_iT ?_ | with_reducible refine i_ckw ?_ | with_reducible refine i_cm ?_ | with_reducible refine And.intro (rfl : V.ref _ = V.ref _) ?_ | with_reducible refine i_rng1 ?_ | with_reducible refine i_bm ?_ | with_reducible refine i_bm0 ?_
  | with_reducible refine i_drop ?_ | with_reducible refine i_next ?_
  | with_reducible refine i_var rfl ?_ | with_reducible refine i_c ?_ | with_reducible refine i_op ?_ | with_reducible refine i_un ?_ | with_reducible refine i_name ?_
  | with_reducible refine i_rI0 ?_ | with_reducible refine i_rU ?_ | with_reducible refine i_rEq rfl ?_ | with_reducible refine i_rNe rfl ?_
  | with_reducible refine i_test ?_ | with_reducible refine i_tB ?_ | with_reducible refine i_and ?_ | with_reducible refine i_or ?_ | with_reducible refine i_not ?_
  | with_reducible refine i_andV ?_ | with_reducible refine i_orV ?_ | with_reducible refine i_notV ?_
  | with_reducible refine i_cons ?_ | with_reducible refine i_nil ?_ | with_reducible refine i_cb ?_ | with_reducible refine i_call ?_ | with_reducible refine i_bl ?_
  | with_reducible refine i_tup ?_ | with_reducible refine i_lst ?_ | with_reducible refine i_par ?_ | with_reducible refine i_gcons ?_ | with_reducible refine i_gnil ?_
  | with_reducible refine And.intro (rfl : V.non = V.non) ?_ | with_reducible refine i_ixT (by assumption) rfl ?_ | with_reducible refine i_ixL (by assumption) rfl ?_ | with_reducible refine i_gtup (by assumption) rfl ?_
  | with_reducible refine i_gsub ?_
  | with_reducible refine Or.inl (Exists.intro _ (And.intro (rfl : [V.int _] = [V.int _]) ?_)) | with_reducible refine Exists.intro _ (And.intro (rfl : [V.int _] = [V.int _]) ?_)
  | with_reducible refine Or.inr (Exists.intro _ (And.intro (rfl : [V.bl _] = [V.bl _]) ?_))
  | with_reducible refine Exists.intro _ (Exists.intro _ (And.intro (rfl : [V.int _, V.int _] = [V.int _, V.int _]) ?_))
  | with_reducible refine Exists.intro _ (Exists.intro _ (And.intro (rfl : [V.ref _] = [V.ref _]) (And.intro (Or.inl (SqL.of (by assumption))) ?_)))
  | with_reducible refine i_rI (show (0 : Int) < _ by assumption) ?_ | with_reducible refine i_rI (show (0 : Int) < _ by decide) ?_
  | with_reducible refine i_rI (pow_ok (Nat.le_of_ble_eq_true rfl) (Nat.le_of_ble_eq_true rfl)) ?_
  | with_reducible refine i_rI (cmulL rfl) ?_))
/-! ### what is due -/
def dueV : Option Str → V
  | some r => .str r
  | none => .non
/-- what is drawn for a table -/
structure Drawn (H : Hp) (l tk tf tu : Addr) (xs : List V) (ks fs us : List Str) : Prop where
  co : Cols H l xs
  k : H tk = some (.tup (ks.map V.str))
  f : H tf = some (.tup (fs.map V.str))
  u : H tu = some (.tup (us.map V.str))
  kz : ks.length ≤ 10
  fz : fs.length ≤ 10
  uz : us.length ≤ 10
  kx : TxsOk ks
  fx : TxsOk fs
  ux : TxsOk us
theorem Drawn.keep {H H' : Hp} {l tk tf tu : Addr} {xs : List V} {ks fs us : List Str} (e : Keep H H') (h : Drawn H l tk tf tu xs ks fs us) : Drawn H' l tk tf tu xs ks fs us :=
  { h with co := h.co.keep e, k := e _ _ rfl h.k, f := e _ _ rfl h.f, u := e _ _ rfl h.u }
theorem Drawn.up {H H' : Hp} {l tk tf tu : Addr} {xs : List V} {ks fs us : List Str} (e : Same H H') (h : Drawn H l tk tf tu xs ks fs us) : Drawn H' l tk tf tu xs ks fs us := h.keep (Same.keep e)
abbrev dueC (xs : List V) (ks fs us : List Str) : Option Str := dueT xs (xs.map colB) ks fs us
abbrev wrongs (xs : List V) : List V := xs.filter fun y => !colB y
theorem wrongs_snoc {xs : List V} {i : Nat} {y : V} (h : xs[i]? = some y) : wrongs (xs.take (i + 1)) = if colB y then wrongs (xs.take i) else wrongs (xs.take i) ++ [y] := by
  unfold wrongs
  rw [take_snoc h, List.filter_append]
  by_cases e : colB y = true
  · simp [e]
  · simp [e]
theorem wrongs_nil (xs : List V) : (wrongs xs).isEmpty = (xs.map colB).all id := by
  rw [Bool.eq_iff_iff, List.isEmpty_iff, List.all_map, List.all_eq_true]
  unfold wrongs
  rw [List.filter_eq_nil_iff]
  simp
abbrev outs (cs ks : List Str) : List Str := ks.filter fun c => !decide (c ∈ cs)
theorem outs_snoc {cs ks : List Str} {i : Nat} {c : Str} (h : ks[i]? = some c) : outs cs (ks.take (i + 1)) = if c ∈ cs then outs cs (ks.take i) else outs cs (ks.take i) ++ [c] := by
  unfold outs
  rw [take_snoc h, List.filter_append]
  by_cases e : c ∈ cs
  · simp [e]
  · simp [e]
theorem outs_nil (cs ks : List Str) : (outs cs ks).isEmpty = (ks.map fun c => decide (c ∈ cs)).all id := by
  rw [Bool.eq_iff_iff, List.isEmpty_iff, List.all_map, List.all_eq_true]
  unfold outs
  rw [List.filter_eq_nil_iff]
  simp
abbrev odds (cs ks zs : List Str) : List Str := zs.filter fun c => (!decide (c ∈ cs) || decide (c ∈ ks))
theorem odds_snoc {cs ks zs : List Str} {i : Nat} {c : Str} (h : zs[i]? = some c) : odds cs ks (zs.take (i + 1)) = if c ∉ cs ∨ c ∈ ks then odds cs ks (zs.take i) ++ [c] else odds cs ks (zs.take i) := by
  unfold odds
  rw [take_snoc h, List.filter_append]
  by_cases e : c ∈ cs <;> by_cases f : c ∈ ks <;> simp [e, f]
theorem odds_nil (cs ks zs : List Str) : (odds cs ks zs).isEmpty = (zs.map fun c => decide (c ∈ othersOf cs ks)).all id := by
  rw [Bool.eq_iff_iff, List.isEmpty_iff, List.all_map, List.all_eq_true]
  unfold odds
  rw [List.filter_eq_nil_iff]
  simp [othersOf]
theorem strs_nil (cs : List Str) : (cs.map V.str).isEmpty = cs.isEmpty := by cases cs <;> rfl
section
variable {P : Program} {w : World} {K : PySem.W.Frag} {mg : Str → Option Value} {base : Heap}
abbrev s_due : Stmt := top 22
theorem sc_due : FnScope ["_law_columns_here", "_law_keyed", "_law_firm", "_law_lone", "_law_wrong_so", "_law_odd_so", "_law_word", "_law_some_here", "_law_one"] ["_law_columns_here", "_law_keyed", "_law_firm", "_law_lone"] (defScope s_due) := ⟨rfl, rfl, rfl, by decide +kernel, rfl, by decide +kernel, by decide +kernel⟩
def sp_due : Sp := fun vs H Q _ => ∃ l tk tf tu xs, ∃ ks fs us : List Str, vs = [.ref l, .ref tk, .ref tf, .ref tu] ∧ Drawn H l tk tf tu xs ks fs us ∧ ∀ H', Same H H' → Q (dueV (dueC xs ks fs us)) H'
theorem ok_due {f fN fO : Addr} {fd fdN fdO : FuncData} (F : Fun K "_law_due" "_law_due" s_due f fd)
    (F_Lis_name : Fun K "_law_is_name" "_law_is_name" s_Lis_name fN fdN) (B_Lis_name : Binds K fdN ["_law_thing"] []) (g_Lis_name : mg "_law_is_name" = some (.ref fN)) (G_Lis_name : FnOk P w K mg base CX0 1 fN fdN ["_law_thing"] (sp_is_name K))
    (F_once : Fun K "_law_once" "_law_once" s_once fO fdO) (B_once : Binds K fdO ["_law_some_here"] []) (g_once : mg "_law_once" = some (.ref fO)) (G_once : FnOk P w K mg base CX0 1 fO fdO ["_law_some_here"] (sp_once K))
    (z_len : mg "len" = none) : FnOk P w K mg base CX0 2 f fd ["_law_columns_here", "_law_keyed", "_law_firm", "_law_lone"] sp_due := by
  refine F.ok sc_due (fun vs H Q E h => ?_) (fun cdv A outer s H vs Q E hr h => ?_)
  · obtain ⟨l, tk, tf, tu, xs, ks, fs, us, rfl, _⟩ := h
    rfl
  · obtain ⟨l, tk, tf, tu, xs, ks, fs, us, rfl, dr, q⟩ := h
    refine ⟨_, (pss_cons (ps_setLc (i := 4) (own := [("_law_one", 8)]) (g := gName 8) rfl sc_due.nd rfl rfl (sw_true rfl rfl rfl (by decide +kernel)) (pi_list (pv 0)) (blkOk_by (own := [("_law_one", 8)]) (N := ["_law_columns_here", "_law_keyed", "_law_firm", "_law_lone", "_law_wrong_so", "_law_odd_so", "_law_word", "_law_some_here", "_law_one"]) (sc := defScope s_due) (by decide +kernel)) (fun _ _ _ _ _ => pg_name (i := 8) sc_due.nd rfl (Or.inl rfl)) (fun _ _ _ _ _ => pts_one (pt_not (pt_val (pe_call G_Lis_name (hr.mono (by decide)) rfl g_Lis_name F_Lis_name.kp B_Lis_name .nil pass0 (pa_cons (pv 8) pa_nil))))) (fun _ _ _ _ _ => (pv 8)))
 (pss_cons (ps_if (PW.pt (pw_or (pt_not (pt_chain op_le op_le pe_int (pe_callB call_len_seq (by rfl) z_len PySem.boot_len (pa_cons (pv 0) pa_nil)) pe_int)) (pw_or (pt_cmpR (op_neNil (roomU hr)) (pv 4) (pe_lst pa_nil) (nomark _)) (pw_or1 (pt_not (pt_val (pe_call G_once (hr.mono (by decide)) rfl g_once F_once.kp B_once .nil pass0 (pa_cons (pv 0) pa_nil))))))))
 (pss_one (ps_ret pe_str))
 pss_nil)
 (pss_cons (ps_setLc (i := 5) (own := [("_law_one", 8)]) (g := gName 8) rfl sc_due.nd rfl rfl (sw_true rfl rfl rfl (by decide +kernel)) (pi_tup (pv 1)) (blkOk_by (own := [("_law_one", 8)]) (N := ["_law_columns_here", "_law_keyed", "_law_firm", "_law_lone", "_law_wrong_so", "_law_odd_so", "_law_word", "_law_some_here", "_law_one"]) (sc := defScope s_due) (by decide +kernel)) (fun _ _ _ _ _ => pg_name (i := 8) sc_due.nd rfl (Or.inl rfl)) (fun _ _ _ _ _ => pts_one (pt_cmpR (op_notInK (K := K) rfl) (pv 8) (pv 0) (by rfl))) (fun _ _ _ _ _ => (pv 8)))
 (pss_cons (ps_if (PW.pt (pw_or (pt_not (pt_chain op_le op_le pe_int (pe_callB call_len_seq (by rfl) z_len PySem.boot_len (pa_cons (pv 1) pa_nil)) pe_int)) (pw_or (pt_not (pt_val (pe_call G_once (hr.mono (by decide)) rfl g_once F_once.kp B_once .nil pass0 (pa_cons (pv 1) pa_nil)))) (pw_or1 (pt_cmpR (op_neNil (roomU hr)) (pv 5) (pe_lst pa_nil) (nomark _))))))
 (pss_one (ps_ret pe_str))
 pss_nil)
 (pss_cons (ps_for PassesOwn.never rfl (pi_list (pe_lst (pa_cons (pe_tup (pa_cons pe_str (pa_cons (pv 2) pa_nil))) (pa_cons (pe_tup (pa_cons pe_str (pa_cons (pv 3) pa_nil))) pa_nil)))) (pg_tup (by rfl) (pgs_cons (pg_name (i := 6) sc_due.nd rfl (Or.inl rfl)) (pgs_cons (pg_name (i := 7) sc_due.nd rfl (Or.inl rfl)) pgs_nil)))
 (pss_cons (ps_setLc (i := 5) (own := [("_law_one", 8)]) (g := gName 8) rfl sc_due.nd rfl rfl (sw_true rfl rfl rfl (by decide +kernel)) (pi_tup (pv 7)) (blkOk_by (own := [("_law_one", 8)]) (N := ["_law_columns_here", "_law_keyed", "_law_firm", "_law_lone", "_law_wrong_so", "_law_odd_so", "_law_word", "_law_some_here", "_law_one"]) (sc := defScope s_due) (by decide +kernel)) (fun _ _ _ _ _ => pg_name (i := 8) sc_due.nd rfl (Or.inl rfl)) (fun _ _ _ _ _ => pts_one (PW.pt (pw_or (pt_cmpR (op_notInK (K := K) rfl) (pv 8) (pv 0) (by rfl)) (pw_or1 (pt_cmpR (op_inK (K := K) rfl) (pv 8) (pv 1) (by rfl)))))) (fun _ _ _ _ _ => (pv 8)))
 (pss_one (ps_if (PW.pt (pw_or (pt_not (pt_val (pe_call G_once (hr.mono (by decide)) rfl g_once F_once.kp B_once .nil pass0 (pa_cons (pv 7) pa_nil)))) (pw_or1 (pt_cmpR (op_neNil (roomU hr)) (pv 5) (pe_lst pa_nil) (nomark _)))))
 (pss_one (ps_ret (pv 6)))
 pss_nil))))
 (pss_one (ps_ret pe_non))))))), ?_⟩
    walk_at "rd"
    unfold tLc
    walk_at "rd"
    refine ⟨l, rfl, ⟨_, SqL.of dr.co.at_⟩, fun D hD => ?_⟩
    obtain ⟨H1, e1, s1, h1⟩ := new_heap (o := .lst []) hD
    have xz := dr.co.z
    refine lc_list (K := K) (a := l) (xs := xs) (fun i H' => Same H H' ∧ H' D = some (.lst (wrongs (xs.take i)))) ⟨by rw [e1]; exact s1, by rw [e1]; exact h1⟩ ?_ ?_ ?_
    · rintro i H' _ ⟨s2, _⟩
      exact SqL.of (s2 _ _ dr.co.at_)
    · rintro i y H2 hy ⟨s2, h2⟩
      have sn := wrongs_snoc hy
      have cy := ((dr.co.col y (List.mem_of_getElem? hy)).keep (Same.keep s2)).nm (K := K)
      walk_at "rd"
      refine ⟨rfl, ?_⟩
      walk_at "rd"
      refine ⟨y, _, rfl, cy, fun H3 s3 => ?_⟩
      have s03 : Same H H3 := fun b o z => s3 _ _ (s2 _ _ z)
      walk_at "rd"
      cases hb : colB y with
      | true =>
        rw [hb] at sn
        exact ⟨s03, by rw [sn]; exact s3 _ _ h2⟩
      | false =>
        rw [hb] at sn
        refine iteT ?_
        walk_at "rd"
        refine ⟨_, s3 _ _ h2, size_lt (Nat.le_trans (List.length_filter_le ..) (by rw [List.length_take]; omega)), Same.mut s03 hD, ?_⟩
        rw [upd_same, sn]
        rfl
    · rintro H2 ⟨s2, h2⟩
      rw [List.take_length] at h2
      have dr2 := dr.up s2
      have q2 : ∀ H', Same H2 H' → Q (dueV (dueC xs ks fs us)) H' := fun H' s => q H' fun b o z => s _ _ (s2 _ _ z)
      clear q dr h1 e1 s1
      -- «columns»
      have no : ∀ (σ : L2.St) (H' : Hp), Same H2 H' → dueC xs ks fs us = some ("columns" : Str) → tRet (tC (.str "columns")) { nx := fun _ H1 => Q .non H1, rt := Q } σ H' := fun σ H' s e => by
        refine i_ret (i_c ?_)
        have := q2 H' s
        rw [e] at this
        exact this
      have cc : (namesB xs (xs.map colB) && decide (xs.length ≤ 4)) = (decide (1 ≤ xs.length) && decide (xs.length ≤ 4) && (wrongs xs).isEmpty && decide xs.Nodup) := by
        unfold namesB
        rw [wrongs_nil]
        have : (!xs.isEmpty) = decide (1 ≤ xs.length) := by cases xs <;> simp
        rw [this]
        cases decide (1 ≤ xs.length) <;> cases decide (xs.length ≤ 4) <;> cases (xs.map colB).all id <;> cases decide xs.Nodup <;> rfl
      have bad : (decide (1 ≤ xs.length) && decide (xs.length ≤ 4) && (wrongs xs).isEmpty && decide xs.Nodup) = false → dueC xs ks fs us = some ("columns" : Str) := fun z => by
        unfold dueC dueT
        rw [cc, if_pos z]
      walk_at "rd"
      refine i_chain ?_
      walk_at "rd"
      refine ⟨l, _, rfl, .inl (SqL.of dr2.co.at_), ?_⟩
      walk_at "rd"
      by_cases a1 : 1 ≤ xs.length
      rotate_left
      · rw [decide_eq_false (show ¬ (1 : Int) ≤ ((xs.length : Nat) : Int) by omega)]
        refine iteF ?_
        refine ⟨false, rfl, iteT ?_⟩
        exact no _ _ (Same.refl _) (bad (by rw [decide_eq_false a1]; rfl))
      rw [decide_eq_true (show (1 : Int) ≤ ((xs.length : Nat) : Int) by omega)]
      refine iteT ?_
      walk_at "rd"
      by_cases a4 : xs.length ≤ 4
      rotate_left
      · rw [decide_eq_false (show ¬ ((xs.length : Nat) : Int) ≤ 4 by omega)]
        refine iteT (iteT ?_)
        exact no _ _ (Same.refl _) (bad (by rw [decide_eq_false a4]; simp))
      rw [decide_eq_true (show ((xs.length : Nat) : Int) ≤ 4 by omega)]
      refine iteF ?_
      walk_at "rd"
      refine ⟨Nat.zero_le _, fun y hy => ?_⟩
      obtain ⟨H3, e3, s3, h3⟩ := new_heap (o := .lst []) hy
      rw [e3]
      refine ⟨D, y, _, rfl, rfl, s3 _ _ h2, h3, ?_⟩
      cases hw : (wrongs xs).isEmpty with
      | false =>
        refine ⟨true, rfl, iteT (iteT ?_)⟩
        exact no _ _ s3 (bad (by rw [hw]; simp))
      | true =>
      refine ⟨false, rfl, iteF ?_⟩
      rw [wrongs_nil] at hw
      obtain ⟨cs, rfl, csn⟩ := names_of (cols_nm (K := K) dr2.co.col) hw
      rw [List.length_map] at xz a1 a4
      walk_at "rd"
      have dr3 := dr2.up s3
      refine ⟨l, cs, rfl, .inl (SqL.of dr3.co.at_), by omega, fun H4 s4 => ?_⟩
      have s24 : Same H2 H4 := fun b o z => s4 _ _ (s3 _ _ z)
      have dr4 := dr3.up s4
      walk_at "rd"
      by_cases nd : cs.Nodup
      rotate_left
      · rw [decide_eq_false nd]
        first
          | refine ⟨false, rfl, iteT ?_⟩
          | refine iteT ?_
          | skip
        exact no _ _ s24 (bad (by rw [decide_eq_false (fun z => nd (nodup_strs.mp z))]; simp))
      rw [decide_eq_true nd]
      refine iteF ?_
      have cgood : ¬ (namesB (cs.map V.str) ((cs.map V.str).map colB) && decide ((cs.map V.str).length ≤ 4)) = false := by
        rw [cc, List.length_map, decide_eq_true a1, decide_eq_true a4, wrongs_nil, hw, decide_eq_true (nodup_strs.mpr nd)]
        decide
      have so := strsOf_map cs
      have q4 : ∀ H', Same H4 H' → Q (dueV (dueC (cs.map V.str) ks fs us)) H' := fun H' s => q2 H' fun b o z => s _ _ (s24 _ _ z)
      clear bad cc no q2 h3 e3 s3 h2
      have czk := dr4.kz
      walk_at "rd"
      refine ⟨tk, rfl, ⟨_, SqT.of dr4.k⟩, fun D2 hD2 => ?_⟩
      obtain ⟨H5, e5, s5, h5⟩ := new_heap (o := .lst []) hD2
      refine lc_tup (K := K) (a := tk) (xs := ks.map V.str) (fun i H' => Same H4 H' ∧ H' D2 = some (.lst ((outs cs (ks.take i)).map V.str))) ⟨by rw [e5]; exact s5, by rw [e5]; exact h5⟩ ?_ ?_ ?_
      · rintro i H' _ ⟨s6, _⟩
        exact SqT.of (s6 _ _ dr4.k)
      · rintro i y H6 hy ⟨s6, h6⟩
        obtain ⟨c, hc, rfl⟩ := str_at hy
        have sn := outs_snoc (cs := cs) hc
        walk_at "rd"
        refine ⟨rfl, ?_⟩
        walk_at "rd"
        refine notIn_at (.inl (SqL.of (s6 _ _ dr4.co.at_))) ⟨_, rfl, ?_⟩
        refine ite_nd (fun hm => ?_) (fun hm => ?_)
        · rw [if_neg hm] at sn
          refine i_var rfl ?_
          refine ⟨_, h6, size_lt (by rw [List.length_map]; refine Nat.le_trans (List.length_filter_le ..) ?_; rw [List.length_take]; omega), Same.mut s6 hD2, ?_⟩
          rw [upd_same, sn, List.map_append]
          rfl
        · rw [if_pos hm] at sn
          exact ⟨s6, by rw [sn]; exact h6⟩
      rintro H6 ⟨s6, h6⟩
      rw [List.length_map, List.take_length] at h6
      have dr6 := dr4.up s6
      have q6 : ∀ H', Same H6 H' → Q (dueV (dueC (cs.map V.str) ks fs us)) H' := fun H' s => q4 H' fun b o z => s _ _ (s6 _ _ z)
      clear q4 h5 e5 s5 s6
      -- «key»
      have no : ∀ (σ : L2.St) (H' : Hp), Same H6 H' → dueC (cs.map V.str) ks fs us = some ("key" : Str) → tRet (tC (.str "key")) { nx := fun _ H1 => Q .non H1, rt := Q } σ H' := fun σ H' s e => by
        refine i_ret (i_c ?_)
        have := q6 H' s
        rw [e] at this
        exact this
      have cc : (chosenB ks cs && (decide (1 ≤ ks.length) && decide (ks.length ≤ 2))) = (decide (1 ≤ ks.length) && decide (ks.length ≤ 2) && decide ks.Nodup && (outs cs ks).isEmpty) := by
        unfold chosenB
        rw [outs_nil]
        cases decide (1 ≤ ks.length) <;> cases decide (ks.length ≤ 2) <;> cases (ks.map fun c => decide (c ∈ cs)).all id <;> cases decide ks.Nodup <;> rfl
      have bad : (decide (1 ≤ ks.length) && decide (ks.length ≤ 2) && decide ks.Nodup && (outs cs ks).isEmpty) = false → dueC (cs.map V.str) ks fs us = some ("key" : Str) := fun z => by
        unfold dueC dueT
        rw [if_neg cgood, so, cc, if_pos z]
      walk_at "rd"
      refine i_chain ?_
      walk_at "rd"
      refine ⟨tk, _, rfl, .inr (SqT.of dr6.k), ?_⟩
      walk_at "rd"
      rw [List.length_map]
      by_cases a1 : 1 ≤ ks.length
      rotate_left
      · rw [decide_eq_false (show ¬ (1 : Int) ≤ ((ks.length : Nat) : Int) by omega)]
        refine iteF ?_
        refine ⟨false, rfl, iteT ?_⟩
        exact no _ _ (Same.refl _) (bad (by rw [decide_eq_false a1]; rfl))
      rw [decide_eq_true (show (1 : Int) ≤ ((ks.length : Nat) : Int) by omega)]
      refine iteT ?_
      walk_at "rd"
      by_cases a4 : ks.length ≤ 2
      rotate_left
      · rw [decide_eq_false (show ¬ ((ks.length : Nat) : Int) ≤ 2 by omega)]
        refine iteT (iteT ?_)
        exact no _ _ (Same.refl _) (bad (by rw [decide_eq_false a4]; simp))
      rw [decide_eq_true (show ((ks.length : Nat) : Int) ≤ 2 by omega)]
      refine iteF ?_
      walk_at "rd"
      refine ⟨tk, ks, rfl, .inr (SqT.of dr6.k), by omega, fun H7 s7 => ?_⟩
      have dr7 := dr6.up s7
      walk_at "rd"
      by_cases nk : ks.Nodup
      rotate_left
      · rw [decide_eq_false nk]
        refine iteT (iteT ?_)
        exact no _ _ s7 (bad (by rw [decide_eq_false nk]; simp))
      rw [decide_eq_true nk]
      refine iteF ?_
      walk_at "rd"
      refine ⟨Nat.zero_le _, fun y hy => ?_⟩
      obtain ⟨H8, e8, s8, h8⟩ := new_heap (o := .lst []) hy
      rw [e8]
      refine ⟨D2, y, _, rfl, rfl, s8 _ _ (s7 _ _ h6), h8, ?_⟩
      rw [strs_nil]
      have s68 : Same H6 H8 := fun b o z => s8 _ _ (s7 _ _ z)
      cases ho : (outs cs ks).isEmpty with
      | false =>
        refine ⟨true, rfl, iteT ?_⟩
        exact no _ _ s68 (bad (by rw [ho]; simp))
      | true =>
      refine ⟨false, rfl, iteF ?_⟩
      have kgood : ¬ (chosenB ks cs && (decide (1 ≤ ks.length) && decide (ks.length ≤ 2))) = false := by
        rw [cc, decide_eq_true a1, decide_eq_true a4, decide_eq_true nk, ho]
        decide
      have dr8 := dr7.up s8
      have q8 : ∀ H', Same H8 H' → Q (dueV (dueC (cs.map V.str) ks fs us)) H' := fun H' s => q6 H' fun b o z => s _ _ (s68 _ _ z)
      clear bad cc no q6 h8 e8 s8 s7 h6 s68 dr7 dr6 dr4
      -- «fixed», «unique»
      walk_at "rd"
      refine ⟨size_of (Nat.le_of_ble_eq_true rfl), fun t1 ht1 => ?_⟩
      obtain ⟨H9, e9, s9, h9⟩ := new_heap (o := .tup [.str "fixed", .ref tf]) ht1
      rw [e9]
      walk_at "rd"
      refine ⟨size_of (Nat.le_of_ble_eq_true rfl), fun t2 ht2 => ?_⟩
      obtain ⟨H10, e10, s10, h10⟩ := new_heap (o := .tup [.str "unique", .ref tu]) ht2
      rw [e10]
      walk_at "rd"
      refine ⟨size_of (Nat.le_of_ble_eq_true rfl), fun t3 ht3 => ?_⟩
      obtain ⟨H11, e11, s11, h11⟩ := new_heap (o := .lst [.ref t1, .ref t2]) ht3
      rw [e11]
      have s811 : Same H8 H11 := fun b o z => s11 _ _ (s10 _ _ (s9 _ _ z))
      have dr11 := dr8.up s811
      have q11 : ∀ H', Same H11 H' → Q (dueV (dueC (cs.map V.str) ks fs us)) H' := fun H' s => q8 H' fun b o z => s _ _ (s811 _ _ z)
      have h9 := s11 _ _ (s10 _ _ h9)
      have h10 := s11 _ _ h10
      clear q8 e9 e10 e11 s9 s10 s11 s811 dr8 ht1 ht2 ht3
      refine ⟨t3, rfl, ⟨_, SqL.of h11⟩, for_list (K := K) (a := t3) (xs := [.ref t1, .ref t2]) (fun i σ H' => ∃ y5 y6 y7 y8 : Option V, σ = [some (.ref l), some (.ref tk), some (.ref tf), some (.ref tu), some (.ref D), y5, y6, y7, y8] ∧ Same H11 H' ∧ (1 ≤ i → chosenB fs (othersOf cs ks) = true) ∧ (2 ≤ i → chosenB us (othersOf cs ks) = true)) ⟨_, _, _, _, rfl, Same.refl _, fun z => absurd z (by decide), fun z => absurd z (by decide)⟩ ?_ ?_ ?_⟩
      · rintro i σ H' _ ⟨_, _, _, _, _, s, _⟩
        exact SqL.of (s _ _ h11)
      · rintro i y σ H12 hy ⟨y5, y6, y7, y8, rfl, s12, c1, c2⟩
        obtain ⟨w', t, zs, T, rfl, hT, ht, zz, dno, dyes⟩ : ∃ (w' : Str) (t : Addr) (zs : List Str) (T : Addr), y = .ref T ∧ H12 T = some (.tup [.str w', .ref t]) ∧ H12 t = some (.tup (zs.map V.str)) ∧ zs.length ≤ 10 ∧ (chosenB zs (othersOf cs ks) = false → dueC (cs.map V.str) ks fs us = some w') ∧
            (chosenB zs (othersOf cs ks) = true → (1 ≤ i + 1 → chosenB fs (othersOf cs ks) = true) ∧ (2 ≤ i + 1 → chosenB us (othersOf cs ks) = true)) := by
          match i, hy with
          | 0, hy =>
            cases hy
            refine ⟨"fixed", tf, fs, t1, rfl, s12 _ _ h9, s12 _ _ dr11.f, dr11.fz, fun z => ?_, fun z => ⟨fun _ => z, fun z => absurd z (by decide)⟩⟩
            unfold dueC dueT
            rw [if_neg cgood, so, if_neg kgood, if_pos z]
          | 1, hy =>
            cases hy
            refine ⟨"unique", tu, us, t2, rfl, s12 _ _ h10, s12 _ _ dr11.u, dr11.uz, fun z => ?_, fun z => ⟨fun _ => c1 (Nat.le_refl _), fun _ => z⟩⟩
            unfold dueC dueT
            rw [if_neg cgood, so, if_neg kgood, if_neg (by rw [c1 (Nat.le_refl _)]; decide), if_pos z]
        have dr12 := dr11.up s12
        refine i_gtup hT rfl (i_gcons ?_)
        walk_at "rd"
        refine ⟨t, rfl, ⟨_, SqT.of ht⟩, fun D3 hD3 => ?_⟩
        obtain ⟨H13, e13, s13, h13⟩ := new_heap (o := .lst []) hD3
        refine lc_tup (K := K) (a := t) (xs := zs.map V.str) (fun j H' => Same H12 H' ∧ H' D3 = some (.lst ((odds cs ks (zs.take j)).map V.str))) ⟨by rw [e13]; exact s13, by rw [e13]; exact h13⟩ ?_ ?_ ?_
        · rintro j H' _ ⟨s14, _⟩
          exact SqT.of (s14 _ _ ht)
        · rintro j y H14 hy ⟨s14, h14⟩
          obtain ⟨c, hc, rfl⟩ := str_at hy
          have sn := odds_snoc (cs := cs) (ks := ks) hc
          have yes : (c ∉ cs ∨ c ∈ ks) → ∃ acc, H14 D3 = some (HO.lst acc) ∧ acc.length < sizeLine ∧ Same H12 (upd H14 D3 (HO.lst (acc ++ [V.str c]))) ∧ upd H14 D3 (HO.lst (acc ++ [V.str c])) D3 = some (.lst ((odds cs ks (zs.take (j + 1))).map V.str)) := fun hm => by
            rw [if_pos hm] at sn
            refine ⟨_, h14, size_lt (by rw [List.length_map]; refine Nat.le_trans (List.length_filter_le ..) ?_; rw [List.length_take]; omega), Same.mut s14 hD3, ?_⟩
            rw [upd_same, sn, List.map_append]
            rfl
          walk_at "rd"
          refine ⟨rfl, ?_⟩
          walk_at "rd"
          refine notIn_at (.inl (SqL.of (s14 _ _ dr12.co.at_))) ⟨_, rfl, ?_⟩
          refine ite_nd (fun hm => ?_) (fun hm => ?_)
          · refine iteT ?_
            walk_at "rd"
            exact yes (.inl hm)
          · walk_at "rd"
            refine in_at (.inr (SqT.of (s14 _ _ dr12.k))) ⟨_, rfl, ?_⟩
            refine ite_d (fun hk => ?_) (fun hk => ?_)
            · walk_at "rd"
              exact yes (.inr hk)
            · rw [if_neg (fun z => z.elim (fun z => z hm) hk)] at sn
              exact ⟨s14, by rw [sn]; exact h14⟩
        rintro H14 ⟨s14, h14⟩
        rw [List.length_map, List.take_length] at h14
        walk_at "rd"
        refine ⟨t, zs, rfl, .inr (SqT.of (s14 _ _ ht)), by omega, fun H15 s15 => ?_⟩
        walk_at "rd"
        have cc : chosenB zs (othersOf cs ks) = (decide zs.Nodup && (odds cs ks zs).isEmpty) := by
          unfold chosenB
          rw [odds_nil]
          cases decide zs.Nodup <;> cases (zs.map fun c => decide (c ∈ othersOf cs ks)).all id <;> rfl
        have no : ∀ (H' : Hp), Same H12 H' → chosenB zs (othersOf cs ks) = false → Q (.str w') H' := fun H' s z => by
          have := q11 H' fun b o u => s _ _ (s12 _ _ u)
          rw [dno z] at this
          exact this
        have s1215 : Same H12 H15 := fun b o z => s15 _ _ (s14 _ _ z)
        by_cases nz : zs.Nodup
        rotate_left
        · rw [decide_eq_false nz]
          refine iteT (iteT ?_)
          walk_at "rd"
          exact no _ s1215 (by rw [cc, decide_eq_false nz]; rfl)
        rw [decide_eq_true nz]
        refine iteF ?_
        walk_at "rd"
        refine ⟨Nat.zero_le _, fun y hy => ?_⟩
        obtain ⟨H16, e16, s16, h16⟩ := new_heap (o := .lst []) hy
        rw [e16]
        refine ⟨D3, y, _, rfl, rfl, s16 _ _ (s15 _ _ h14), h16, ?_⟩
        rw [strs_nil]
        have s1216 : Same H12 H16 := fun b o z => s16 _ _ (s1215 _ _ z)
        cases ho : (odds cs ks zs).isEmpty with
        | false =>
          refine ⟨true, rfl, iteT ?_⟩
          walk_at "rd"
          exact no _ s1216 (by rw [cc, ho]; simp)
        | true =>
        refine ⟨false, rfl, iteF ?_⟩
        obtain ⟨g1, g2⟩ := dyes (by rw [cc, ho, decide_eq_true nz]; rfl)
        exact i_next ⟨_, _, _, _, rfl, fun b o z => s1216 _ _ (s12 _ _ z), g1, g2⟩
      · rintro σ H12 ⟨y5, y6, y7, y8, rfl, s12, c1, c2⟩
        walk_at "rd"
        have e : dueC (cs.map V.str) ks fs us = none := by
          unfold dueC dueT
          rw [if_neg cgood, so, if_neg kgood, if_neg (by rw [c1 (by show 1 ≤ 2; decide)]; decide), if_neg (by rw [c2 (by show 2 ≤ 2; decide)]; decide)]
        have := q11 H12 s12
        rw [e] at this
        exact this
end
end Spk

set_option Elab.async false
set_option linter.all false
set_option maxRecDepth 100000
set_option maxHeartbeats 4000000
namespace Spk
open PySem L2
local macro_rules | `(tactic| walk_at "rd") => `(tactic| repeat (first
  | with_reducible refine i_seq ?_ | with_reducible refine i_asg ?_ | with_reducible refine i_ret ?_ | with_reducible refine i_ifS ?_ | with_reducible refine i_if ?_
  | with_reducible refine i_for ?_ | with_reducible refine i_iL ?_ | with_reducible refine i_iT ?_ | with_reducible refine i_ckw ?_ | with_reducible refine i_cm ?_ | with_reducible refine And.intro (rfl : V.ref _ = V.ref _) ?_ | with_reducible refine i_rng1 ?_ | with_reducible refine i_bm ?_ | with_reducible refine i_bm0 ?_
  | with_reducible refine i_drop ?_ | with_reducible refine i_next ?_
  | with_reducible refine i_var rfl ?_ | with_reducible refine i_c ?_ | with_reducible refine i_op ?_ | with_reducible refine i_un ?_ | with_reducible refine i_name ?_
  | with_reducible refine i_rI0 ?_ | with_reducible refine i_rU ?_ | with_reducible refine i_rEq rfl ?_ | with_reducible refine i_rNe rfl ?_
  | with_reducible refine i_test ?_ | with_reducible refine i_tB ?_ | with_reducible refine i_and ?_ | with_reducible refine i_or ?_ | with_reducible refine i_not ?_
  | with_reducible refine i_andV ?_ | with_reducible refine i_orV ?_ | with_reducible refine i_notV ?_
  | with_reducible refine i_cons ?_ | with_reducible refine i_nil ?_ | with_reducible refine i_cb ?_ | with_reducible refine i_call ?_ | with_reducible refine i_bl ?_
  | with_reducible refine i_tup ?_ | with_reducible refine i_lst ?_ | with_reducible refine i_par ?_ | with_reducible refine i_gcons ?_ | with_reducible refine i_gnil ?_
  | with_reducible refine And.intro (rfl : V.non = V.non) ?_ | with_reducible refine i_ixT (by assumption) rfl ?_ | with_reducible refine i_ixL (by assumption) rfl ?_ | with_reducible refine i_gtup (by assumption) rfl ?_
  | with_reducible refine i_gsub ?_
  | with_reducible refine Or.inl (Exists.intro _ (And.intro (rfl : [V.int _] = [V.int _]) ?_)) | with_reducible refine Exists.intro _ (And.intro (rfl : [V.int _] = [V.int _]) ?_)
  | with_reducible refine Or.inr (Exists.intro _ (And.intro (rfl : [V.bl _] = [V.bl _]) ?_))
  | with_reducible refine Exists.intro _ (Exists.intro _ (And.intro (rfl : [V.int _, V.int _] = [V.int _, V.int _]) ?_))
  | with_reducible refine Exists.intro _ (Exists.intro _ (And.intro (rfl : [V.ref _] = [V.ref _]) (And.intro (Or.inl (SqL.of (by assumption))) ?_)))
  | with_reducible refine i_rI (show (0 : Int) < _ by assumption) ?_ | with_reducible refine i_rI (show (0 : Int) < _ by decide) ?_
  | with_reducible refine i_rI (pow_ok (Nat.le_of_ble_eq_true rfl) (Nat.le_of_ble_eq_true rfl)) ?_
  | with_reducible refine i_rI (cmulL rfl) ?_))
/-! ### what a table tells -/
abbrev TupsAt (H : Hp) (vs : List V) (zs : List (List Str)) : Prop := Paired (fun v (z : List Str) => ∃ a, v = V.ref a ∧ H a = some (.tup (z.map V.str))) vs zs
theorem TupsAt.up {H H' : Hp} {vs : List V} {zs : List (List Str)} (e : Same H H') (h : TupsAt H vs zs) : TupsAt H' vs zs := Paired.mapP h fun _ _ ⟨a, e1, e2⟩ => ⟨a, e1, e _ _ e2⟩
theorem TupsAt.mut {H : Hp} {D : Addr} {o : HO} {xs : List V} {vs : List V} {zs : List (List Str)} (hD : H D = some (.lst xs)) (h : TupsAt H vs zs) : TupsAt (upd H D o) vs zs := Paired.mapP h fun _ _ ⟨a, e1, e2⟩ => ⟨a, e1, by rw [upd_ne (ne_of e2 hD (fun z => nomatch z))]; exact e2⟩
theorem paired_snoc {α β : Type} {R : α → β → Prop} {x : α} {y : β} (r : R x y) : ∀ {xs : List α} {ys : List β}, Paired R xs ys → Paired R (xs ++ [x]) (ys ++ [y])
  | _, _, .nil => .cons r .nil
  | _, _, .cons q t => .cons q (paired_snoc r t)
/-- the list that tells a table -/
def TellsAt (H : Hp) (o : Addr) (t : Tb) : Prop := ∃ vs, H o = some (.lst (vs ++ [.bl t.r])) ∧ TupsAt H vs [t.cs, t.ks, t.fs, t.us]
section
variable {P : Program} {w : World} {K : PySem.W.Frag} {mg : Str → Option Value} {base : Heap}
abbrev s_told : Stmt := top 25
theorem sc_told : FnScope ["_law_columns_here", "_law_keyed", "_law_firm", "_law_lone", "_law_anew", "_law_found", "_law_some_here", "_law_column"] ["_law_columns_here", "_law_keyed", "_law_firm", "_law_lone", "_law_anew"] (defScope s_told) := ⟨rfl, rfl, rfl, by decide +kernel, rfl, by decide +kernel, by decide +kernel⟩
abbrev made (cs ks fs us : List Str) (r : Bool) : Tb := ⟨cs, among cs ks, among cs fs, among cs us, r⟩
def sp_told : Sp := fun vs H Q _ => ∃ l tk tf tu, ∃ cs ks fs us : List Str, ∃ r : Bool, vs = [.ref l, .ref tk, .ref tf, .ref tu, .bl r] ∧ Drawn H l tk tf tu (cs.map V.str) ks fs us ∧ ∀ o H', Same H H' → TellsAt H' o (made cs ks fs us r) → Q (.ref o) H'
theorem ok_told {f : Addr} {fd : FuncData} (F : Fun K "_law_told" "_law_told" s_told f fd) (z_tuple : mg "tuple" = none) : FnOk P w K mg base CX0 1 f fd ["_law_columns_here", "_law_keyed", "_law_firm", "_law_lone", "_law_anew"] sp_told := by
  refine F.ok sc_told (fun vs H Q E h => ?_) (fun cdv A outer s H vs Q E hr h => ?_)
  · obtain ⟨l, tk, tf, tu, cs, ks, fs, us, r, rfl, _⟩ := h
    rfl
  · obtain ⟨l, tk, tf, tu, cs, ks, fs, us, r, rfl, dr, q⟩ := h
    refine ⟨_, (pss_cons (ps_set (i := 5) sc_told.nd rfl (Or.inl rfl) (pe_lst (pa_cons (pe_callTy call_tuple_of (by rfl) z_tuple (by decide +kernel) (pa_cons (pv 0) pa_nil)) pa_nil)))
 (pss_cons (ps_for PassesOwn.never rfl (pi_tup (pe_tup (pa_cons (pv 1) (pa_cons (pv 2) (pa_cons (pv 3) pa_nil))))) (pg_name (i := 6) sc_told.nd rfl (Or.inr rfl))
 (pss_one (ps_expr (pe_bm PySem.F.plainAttrs_list PySem.F.slot_list_append PySem.F.type_list_append mt_append (pv 5) (pa_cons (pe_callTy call_tuple_of (by rfl) z_tuple (by decide +kernel) (pa_cons (pe_lc (own := [("_law_column", 7)]) (g := gName 7) rfl sc_told.nd (pi_list (pv 0)) (blkOk_by (own := [("_law_column", 7)]) (N := ["_law_columns_here", "_law_keyed", "_law_firm", "_law_lone", "_law_anew", "_law_found", "_law_some_here", "_law_column"]) (sc := defScope s_told) (by decide +kernel)) (fun _ _ _ _ _ => pg_name (i := 7) sc_told.nd rfl (Or.inl rfl)) (fun _ _ _ _ _ => pts_one (pt_cmpR (op_inK (K := K) rfl) (pv 7) (pv 6) (by rfl))) (fun _ _ _ _ _ => (pv 7))) pa_nil)) pa_nil)))))
 (pss_one (ps_ret (pe_op op_cat (pv 5) (pe_lst (pa_cons (pv 4) pa_nil))))))), ?_⟩
    have cz := dr.co.z
    rw [List.length_map] at cz
    walk_at "rd"
    refine ⟨l, _, rfl, .inl ⟨SqL.of dr.co.at_, fun t0 ht0 => ?_⟩⟩
    obtain ⟨H1, e1, s1, h1⟩ := new_heap (o := .tup (cs.map V.str)) ht0
    rw [e1]
    walk_at "rd"
    refine ⟨size_of (Nat.le_of_ble_eq_true rfl), fun D hD => ?_⟩
    obtain ⟨H2, e2, s2, h2⟩ := new_heap (o := .lst [.ref t0]) hD
    rw [e2]
    walk_at "rd"
    refine ⟨size_of (Nat.le_of_ble_eq_true rfl), fun t3 ht3 => ?_⟩
    obtain ⟨H3, e3, s3, h3⟩ := new_heap (o := .tup [.ref tk, .ref tf, .ref tu]) ht3
    rw [e3]
    have s13 : Same H1 H3 := fun b o z => s3 _ _ (s2 _ _ z)
    have s03 : Same H H3 := fun b o z => s13 _ _ (s1 _ _ z)
    have dr3 := dr.up s03
    have hD3 := s3 _ _ h2
    have h13 := s13 _ _ h1
    have nt : ∀ b o, H b = some o → b ≠ D := fun b o z => ne_of_none (s1 _ _ z) hD
    refine ⟨t3, rfl, ⟨_, SqT.of h3⟩, for_tup (K := K) (a := t3) (xs := [.ref tk, .ref tf, .ref tu]) (fun i σ H' => ∃ (y6 y7 : Option V) (vs : List V), σ = [some (.ref l), some (.ref tk), some (.ref tf), some (.ref tu), some (.bl r), some (.ref D), y6, y7] ∧ Same H H' ∧ H' t3 = some (.tup [.ref tk, .ref tf, .ref tu]) ∧ H' D = some (.lst vs) ∧
      TupsAt H' vs (([cs, among cs ks, among cs fs, among cs us] : List (List Str)).take (i + 1)) ∧ i ≤ 3) ⟨_, _, [.ref t0], rfl, s03, h3, hD3, .cons ⟨t0, rfl, h13⟩ .nil, by decide⟩ ?_ ?_ ?_⟩
    · rintro i σ H' _ ⟨_, _, _, _, _, z, _⟩
      exact SqT.of z
    · rintro i y σ H4 hy ⟨y6, y7, vs, rfl, s4, h34, hD4, tu4, i3⟩
      obtain ⟨t, zs, rfl, ht, zz, ew⟩ : ∃ t zs, y = .ref t ∧ H4 t = some (.tup (zs.map V.str)) ∧ zs.length ≤ 10 ∧ ([cs, among cs ks, among cs fs, among cs us] : List (List Str)).take (i + 1 + 1) = ([cs, among cs ks, among cs fs, among cs us] : List (List Str)).take (i + 1) ++ [among cs zs] := by
        match i, hy with
        | 0, hy => cases hy; exact ⟨tk, ks, rfl, s4 _ _ dr.k, dr.kz, rfl⟩
        | 1, hy => cases hy; exact ⟨tf, fs, rfl, s4 _ _ dr.f, dr.fz, rfl⟩
        | 2, hy => cases hy; exact ⟨tu, us, rfl, s4 _ _ dr.u, dr.uz, rfl⟩
      have i2 : i < 3 := by
        have := (List.getElem?_eq_some_iff.mp hy).1
        simpa using this
      have dr4 := dr.up s4
      walk_at "rd"
      refine i_tyL hD4 ?_
      walk_at "rd"
      unfold tLc
      walk_at "rd"
      refine ⟨l, rfl, ⟨_, SqL.of dr4.co.at_⟩, fun G hG => ?_⟩
      obtain ⟨H5, e5, s5, h5⟩ := new_heap (o := .lst []) hG
      have DG : D ≠ G := ne_of_none hD4 hG
      refine lc_list (K := K) (a := l) (xs := cs.map V.str) (fun j H' => Same H4 H' ∧ H' G = some (.lst ((among (cs.take j) zs).map V.str))) ⟨by rw [e5]; exact s5, by rw [e5]; exact h5⟩ ?_ ?_ ?_
      · rintro j H' _ ⟨s6, _⟩
        exact SqL.of (s6 _ _ dr4.co.at_)
      · rintro j y H6 hy ⟨s6, h6⟩
        obtain ⟨c, hc, rfl⟩ := str_at hy
        have sn := among_snoc (ks := zs) hc
        walk_at "rd"
        refine ⟨rfl, ?_⟩
        walk_at "rd"
        refine in_at (.inr (SqT.of (s6 _ _ ht))) ⟨_, rfl, ?_⟩
        refine ite_d (fun hm => ?_) (fun hm => ?_)
        · walk_at "rd"
          rw [if_pos hm] at sn
          refine ⟨_, h6, size_lt (by rw [List.length_map]; refine Nat.le_trans (List.length_filter_le ..) ?_; rw [List.length_take]; omega), Same.mut s6 hG, ?_⟩
          rw [upd_same, sn, List.map_append]
          rfl
        · rw [if_neg hm] at sn
          exact ⟨s6, by rw [sn]; exact h6⟩
      rintro H6 ⟨s6, h6⟩
      rw [List.length_map, List.take_length] at h6
      walk_at "rd"
      refine ⟨G, _, rfl, .inl ⟨SqL.of h6, fun u hu => ?_⟩⟩
      obtain ⟨H7, e7, s7, h7⟩ := new_heap (o := .tup ((among cs zs).map V.str)) hu
      rw [e7]
      walk_at "rd"
      have hD7 := s7 _ _ (s6 _ _ hD4)
      have s47 : Same H4 H7 := fun b o z => s7 _ _ (s6 _ _ z)
      have vl : vs.length ≤ 4 := by
        have := Paired.length tu4
        rw [this, List.length_take]
        simp
        omega
      refine i_app hD7 (by omega) ?_
      refine ⟨_, _, vs ++ [.ref u], rfl, fun b o z => ?_, ?_, upd_same, ?_, by omega⟩
      · rw [upd_ne (nt b o z)]
        exact s47 _ _ (s4 _ _ z)
      · rw [upd_ne (ne_of (s47 _ _ h34) hD7 (fun z => nomatch z))]
        exact s47 _ _ h34
      · rw [ew]
        exact paired_snoc ⟨u, rfl, by rw [upd_ne (ne_of h7 hD7 (fun z => nomatch z))]; exact h7⟩ ((tu4.up s47).mut hD7)
    · rintro σ H4 ⟨y6, y7, vs, rfl, s4, h34, hD4, tu4, i3⟩
      walk_at "rd"
      refine ⟨size_of (Nat.le_of_ble_eq_true rfl), fun D2 hD2 => ?_⟩
      obtain ⟨H5, e5, s5, h5⟩ := new_heap (o := .lst [.bl r]) hD2
      rw [e5]
      have vz : vs.length = 4 := Paired.length tu4
      refine ⟨D, D2, _, _, rfl, rfl, s5 _ _ hD4, h5, size_of (by rw [vz]; show 4 + 1 ≤ 100000; decide), fun o ho => ?_⟩
      obtain ⟨H6, e6, s6, h6⟩ := new_heap (o := .lst (vs ++ [.bl r])) ho
      rw [e6]
      exact q o H6 (fun b u z => s6 _ _ (s5 _ _ (s4 _ _ z))) ⟨vs, h6, (tu4.up s5).up s6⟩
end
end Spk

set_option Elab.async false
set_option linter.all false
set_option maxRecDepth 100000
set_option maxHeartbeats 4000000
namespace Spk
open PySem L2
local macro_rules | `(tactic| walk_at "rd") => `(tactic| repeat (first
  | with_reducible refine i_seq ?_ | with_reducible refine i_asg ?_ | with_reducible refine i_ret ?_ | with_reducible refine i_ifS ?_ | with_reducible refine i_if ?_
  | with_reducible refine i_for ?_ | with_reducible refine i_iL ?_ | with_reducible refine i_iT ?_ | with_reducible refine i_ckw ?_ | with_reducible refine i_cm ?_ | with_reducible refine And.intro (rfl : V.ref _ = V.ref _) ?_ | with_reducible refine i_rng1 ?_ | with_reducible refine i_bm ?_ | with_reducible refine i_bm0 ?_
  | with_reducible refine i_drop ?_ | with_reducible refine i_next ?_
  | with_reducible refine i_var rfl ?_ | with_reducible refine i_c ?_ | with_reducible refine i_op ?_ | with_reducible refine i_un ?_ | with_reducible refine i_name ?_
  | with_reducible refine i_rI0 ?_ | with_reducible refine i_rU ?_ | with_reducible refine i_rEq rfl ?_ | with_reducible refine i_rNe rfl ?_
  | with_reducible refine i_test ?_ | with_reducible refine i_tB ?_ | with_reducible refine i_and ?_ | with_reducible refine i_or ?_ | with_reducible refine i_not ?_
  | with_reducible refine i_andV ?_ | with_reducible refine i_orV ?_ | with_reducible refine i_notV ?_
  | with_reducible refine i_cons ?_ | with_reducible refine i_nil ?_ | with_reducible refine i_cb ?_ | with_reducible refine i_call ?_ | with_reducible refine i_bl ?_
  | with_reducible refine i_tup ?_ | with_reducible refine i_lst ?_ | with_reducible refine i_par ?_ | with_reducible refine i_gcons ?_ | with_reducible refine i_gnil ?_
  | with_reducible refine And.intro (rfl : V.non = V.non) ?_ | with_reducible refine i_ixT (by assumption) rfl ?_ | with_reducible refine i_ixL (by assumption) rfl ?_ | with_reducible refine i_gtup (by assumption) rfl ?_
  | with_reducible refine i_gsub ?_
  | with_reducible refine Or.inl (Exists.intro _ (And.intro (rfl : [V.int _] = [V.int _]) ?_)) | with_reducible refine Exists.intro _ (And.intro (rfl : [V.int _] = [V.int _]) ?_)
  | with_reducible refine Or.inr (Exists.intro _ (And.intro (rfl : [V.bl _] = [V.bl _]) ?_))
  | with_reducible refine Exists.intro _ (Exists.intro _ (And.intro (rfl : [V.int _, V.int _] = [V.int _, V.int _]) ?_))
  | with_reducible refine Exists.intro _ (Exists.intro _ (And.intro (rfl : [V.ref _] = [V.ref _]) (And.intro (Or.inl (SqL.of (by assumption))) ?_)))
  | with_reducible refine i_rI (show (0 : Int) < _ by assumption) ?_ | with_reducible refine i_rI (show (0 : Int) < _ by decide) ?_
  | with_reducible refine i_rI (pow_ok (Nat.le_of_ble_eq_true rfl) (Nat.le_of_ble_eq_true rfl)) ?_
  | with_reducible refine i_rI (cmulL rfl) ?_))
/-! ### tables of none to five columns -/
theorem ixc {K : PySem.W.Frag} {H : Hp} {l : Addr} {xs : List V} {i : Int} {j : Nat} {v : V} {Q : VK} (h : H l = some (.lst xs)) (e : i = (j : Int)) (x : xs[j]? = some v) (q : Q v H) : rIxL K (.ref l) (.int i) H Q := by
  subst e
  exact i_ixL h (atI_nat x) q
theorem len1 : ∀ {xs : List V}, xs.length = 1 → ∃ a, xs = [a]
  | [a], _ => ⟨a, rfl⟩
theorem len2 : ∀ {xs : List V}, xs.length = 2 → ∃ a b, xs = [a, b]
  | [a, b], _ => ⟨a, b, rfl⟩
theorem len3 : ∀ {xs : List V}, xs.length = 3 → ∃ a b c, xs = [a, b, c]
  | [a, b, c], _ => ⟨a, b, c, rfl⟩
theorem len4 : ∀ {xs : List V}, xs.length = 4 → ∃ a b c d, xs = [a, b, c, d]
  | [a, b, c, d], _ => ⟨a, b, c, d, rfl⟩
theorem len5 : ∀ {xs : List V}, xs.length = 5 → ∃ a b c d e, xs = [a, b, c, d, e]
  | [a, b, c, d, e], _ => ⟨a, b, c, d, e, rfl⟩
section
variable {P : Program} {w : World} {K : PySem.W.Frag} {mg : Str → Option Value} {base : Heap} {C fI p g CI fX : Addr} {mc : Value}
abbrev s_table : Stmt := top 15
theorem sc_table : FnScope ["_law_c", "_law_keyed", "_law_firm", "_law_lone", "_law_anew"] ["_law_c", "_law_keyed", "_law_firm", "_law_lone", "_law_anew"] (defScope s_table) := ⟨rfl, rfl, rfl, by decide +kernel, rfl, by decide +kernel, by decide +kernel⟩
def sp_table (K : PySem.W.Frag) (C CI : Addr) : Sp := fun vs H Q E => ∃ l tk tf tu, ∃ xs js, ∃ ks fs us : List Str, ∃ r : Bool, vs = [.ref l, .ref tk, .ref tf, .ref tu, .bl r] ∧ H l = some (.lst xs) ∧ 1 ≤ xs.length ∧ xs.length ≤ 4 ∧ Given K H xs js tk tf tu ks fs us ∧ Asks C CI H Q E xs js ks fs us r
theorem ok_table {f : Addr} {fd : FuncData} (F : Fun K "_law_table" "_law_table" s_table f fd) (T : ClsT K mg C fI mc p g) (FI : FnK P w K mg base (L2.CX P w) 3 fI kwN (mK K C CI)) (z_len : mg "len" = none) :
    FnOk P w K mg base (L2.CX P w) 5 f fd ["_law_c", "_law_keyed", "_law_firm", "_law_lone", "_law_anew"] (sp_table K C CI) := by
  have M := T.M
  have g_C := T.g_C
  refine F.okX sc_table (fun vs H Q E h => ?_) (fun cdv A outer s H vs Q E hr h => ?_)
  · obtain ⟨l, tk, tf, tu, xs, js, ks, fs, us, r, rfl, _⟩ := h
    rfl
  · obtain ⟨l, tk, tf, tu, xs, js, ks, fs, us, r, rfl, hl, z1, z4, gv, as⟩ := h
    refine ⟨_, (pss_cons (ps_if (pt_cmpR op_eq (pe_callB call_len_seq (by rfl) z_len PySem.boot_len (pa_cons (pv 0) pa_nil)) pe_int (nomark _))
 (pss_one (ps_ret (pe_makePK M FI (hr.mono (by decide)) rfl g_C (passE (takes_of rfl rfl rfl rfl)) (pa_cons (pe_ix ix_list (pv 0) pe_int (fun _ _ => rfl)) pa_nil) (pk_cons (pv 1) (pk_cons (pv 2) (pk_cons (pv 3) (pk_cons (pv 4) pk_nil)))))))
 pss_nil)
 (pss_cons (ps_if (pt_cmpR op_eq (pe_callB call_len_seq (by rfl) z_len PySem.boot_len (pa_cons (pv 0) pa_nil)) pe_int (nomark _))
 (pss_one (ps_ret (pe_makePK M FI (hr.mono (by decide)) rfl g_C (passE (takes_of rfl rfl rfl rfl)) (pa_cons (pe_ix ix_list (pv 0) pe_int (fun _ _ => rfl)) (pa_cons (pe_ix ix_list (pv 0) pe_int (fun _ _ => rfl)) pa_nil)) (pk_cons (pv 1) (pk_cons (pv 2) (pk_cons (pv 3) (pk_cons (pv 4) pk_nil)))))))
 pss_nil)
 (pss_cons (ps_if (pt_cmpR op_eq (pe_callB call_len_seq (by rfl) z_len PySem.boot_len (pa_cons (pv 0) pa_nil)) pe_int (nomark _))
 (pss_one (ps_ret (pe_makePK M FI (hr.mono (by decide)) rfl g_C (passE (takes_of rfl rfl rfl rfl)) (pa_cons (pe_ix ix_list (pv 0) pe_int (fun _ _ => rfl)) (pa_cons (pe_ix ix_list (pv 0) pe_int (fun _ _ => rfl)) (pa_cons (pe_ix ix_list (pv 0) pe_int (fun _ _ => rfl)) pa_nil))) (pk_cons (pv 1) (pk_cons (pv 2) (pk_cons (pv 3) (pk_cons (pv 4) pk_nil)))))))
 pss_nil)
 (pss_one (ps_ret (pe_makePK M FI (hr.mono (by decide)) rfl g_C (passE (takes_of rfl rfl rfl rfl)) (pa_cons (pe_ix ix_list (pv 0) pe_int (fun _ _ => rfl)) (pa_cons (pe_ix ix_list (pv 0) pe_int (fun _ _ => rfl)) (pa_cons (pe_ix ix_list (pv 0) pe_int (fun _ _ => rfl)) (pa_cons (pe_ix ix_list (pv 0) pe_int (fun _ _ => rfl)) pa_nil)))) (pk_cons (pv 1) (pk_cons (pv 2) (pk_cons (pv 3) (pk_cons (pv 4) pk_nil)))))))))), ?_⟩
    walk_at "rd"
    refine ite_d (fun h1 => ?_) (fun h1 => ?_)
    · have h1 := V.int.inj h1
      obtain ⟨a, rfl⟩ := len1 (show xs.length = 1 by omega)
      walk_at "rd"
      refine i_mkpk ?_
      walk_at "rd"
      exact ⟨rfl, mk_tab gv as⟩
    have h1 : ¬ xs.length = 1 := fun z => h1 (by rw [z]; rfl)
    walk_at "rd"
    refine ite_d (fun h2 => ?_) (fun h2 => ?_)
    · have h2 := V.int.inj h2
      obtain ⟨a, b, rfl⟩ := len2 (show xs.length = 2 by omega)
      walk_at "rd"
      refine i_mkpk ?_
      walk_at "rd"
      exact ⟨rfl, mk_tab gv as⟩
    have h2 : ¬ xs.length = 2 := fun z => h2 (by rw [z]; rfl)
    walk_at "rd"
    refine ite_d (fun h3 => ?_) (fun h3 => ?_)
    · have h3 := V.int.inj h3
      obtain ⟨a, b, c, rfl⟩ := len3 (show xs.length = 3 by omega)
      walk_at "rd"
      refine i_mkpk ?_
      walk_at "rd"
      exact ⟨rfl, mk_tab gv as⟩
    have h3 : ¬ xs.length = 3 := fun z => h3 (by rw [z]; rfl)
    obtain ⟨a, b, c, d, rfl⟩ := len4 (show xs.length = 4 by omega)
    walk_at "rd"
    refine i_mkpk ?_
    walk_at "rd"
    exact ⟨rfl, mk_tab gv as⟩
abbrev s_any_table : Stmt := top 17
theorem sc_any_table : FnScope ["_law_c", "_law_keyed", "_law_firm", "_law_lone", "_law_anew"] ["_law_c", "_law_keyed", "_law_firm", "_law_lone", "_law_anew"] (defScope s_any_table) := ⟨rfl, rfl, rfl, by decide +kernel, rfl, by decide +kernel, by decide +kernel⟩
def sp_any (K : PySem.W.Frag) (C CI : Addr) : Sp := fun vs H Q E => ∃ l tk tf tu, ∃ xs js, ∃ ks fs us : List Str, ∃ r : Bool, vs = [.ref l, .ref tk, .ref tf, .ref tu, .bl r] ∧ H l = some (.lst xs) ∧ xs.length ≤ 5 ∧ Given K H xs js tk tf tu ks fs us ∧ Asks C CI H Q E xs js ks fs us r
theorem ok_any {f fT : Addr} {fd fdT : FuncData} (F : Fun K "_law_any_table" "_law_any_table" s_any_table f fd) (T : ClsT K mg C fI mc p g) (FI : FnK P w K mg base (L2.CX P w) 3 fI kwN (mK K C CI))
    (F_table : Fun K "_law_table" "_law_table" s_table fT fdT) (B_table : Binds K fdT ["_law_c", "_law_keyed", "_law_firm", "_law_lone", "_law_anew"] []) (g_table : mg "_law_table" = some (.ref fT)) (G_table : FnOk P w K mg base (L2.CX P w) 5 fT fdT ["_law_c", "_law_keyed", "_law_firm", "_law_lone", "_law_anew"] (sp_table K C CI)) (z_len : mg "len" = none) :
    FnOk P w K mg base (L2.CX P w) 6 f fd ["_law_c", "_law_keyed", "_law_firm", "_law_lone", "_law_anew"] (sp_any K C CI) := by
  have M := T.M
  have g_C := T.g_C
  refine F.okX sc_any_table (fun vs H Q E h => ?_) (fun cdv A outer s H vs Q E hr h => ?_)
  · obtain ⟨l, tk, tf, tu, xs, js, ks, fs, us, r, rfl, _⟩ := h
    rfl
  · obtain ⟨l, tk, tf, tu, xs, js, ks, fs, us, r, rfl, hl, z5, gv, as⟩ := h
    refine ⟨_, (pss_cons (ps_if (pt_cmpR op_eq (pe_callB call_len_seq (by rfl) z_len PySem.boot_len (pa_cons (pv 0) pa_nil)) pe_int (nomark _))
 (pss_one (ps_ret (pe_makePK0 M FI (hr.mono (by decide)) rfl g_C (passE (takes_of rfl rfl rfl rfl)) (pk_cons (pv 1) (pk_cons (pv 2) (pk_cons (pv 3) (pk_cons (pv 4) pk_nil)))))))
 pss_nil)
 (pss_cons (ps_if (pt_cmpR op_eq (pe_callB call_len_seq (by rfl) z_len PySem.boot_len (pa_cons (pv 0) pa_nil)) pe_int (nomark _))
 (pss_one (ps_ret (pe_makePK M FI (hr.mono (by decide)) rfl g_C (passE (takes_of rfl rfl rfl rfl)) (pa_cons (pe_ix ix_list (pv 0) pe_int (fun _ _ => rfl)) (pa_cons (pe_ix ix_list (pv 0) pe_int (fun _ _ => rfl)) (pa_cons (pe_ix ix_list (pv 0) pe_int (fun _ _ => rfl)) (pa_cons (pe_ix ix_list (pv 0) pe_int (fun _ _ => rfl)) (pa_cons (pe_ix ix_list (pv 0) pe_int (fun _ _ => rfl)) pa_nil))))) (pk_cons (pv 1) (pk_cons (pv 2) (pk_cons (pv 3) (pk_cons (pv 4) pk_nil)))))))
 pss_nil)
 (pss_one (ps_ret (pe_call G_table (hr.mono (by decide)) rfl g_table F_table.kp B_table .nil (passE (takes_of rfl rfl rfl rfl)) (pa_cons (pv 0) (pa_cons (pv 1) (pa_cons (pv 2) (pa_cons (pv 3) (pa_cons (pv 4) pa_nil)))))))))), ?_⟩
    walk_at "rd"
    refine ite_d (fun h1 => ?_) (fun h1 => ?_)
    · have h1 := V.int.inj h1
      have ex : xs = [] := List.eq_nil_of_length_eq_zero (by omega)
      subst ex
      walk_at "rd"
      refine i_mkpk ?_
      walk_at "rd"
      exact ⟨rfl, mk_tab gv as⟩
    have h1 : ¬ xs.length = 0 := fun z => h1 (by rw [z]; rfl)
    walk_at "rd"
    refine ite_d (fun h2 => ?_) (fun h2 => ?_)
    · have h2 := V.int.inj h2
      obtain ⟨a, b, c, d, e, rfl⟩ := len5 (show xs.length = 5 by omega)
      walk_at "rd"
      refine i_mkpk ?_
      walk_at "rd"
      exact ⟨rfl, mk_tab gv as⟩
    have h2 : ¬ xs.length = 5 := fun z => h2 (by rw [z]; rfl)
    walk_at "rd"
    exact ⟨l, tk, tf, tu, xs, js, ks, fs, us, r, rfl, hl, by omega, by omega, gv, as⟩
end
end Spk

set_option Elab.async false
set_option linter.all false
set_option maxRecDepth 100000
set_option maxHeartbeats 4000000
namespace Spk
open PySem L2
local macro_rules | `(tactic| walk_at "rd") => `(tactic| repeat (first
  | with_reducible refine i_seq ?_ | with_reducible refine i_asg ?_ | with_reducible refine i_ret ?_ | with_reducible refine i_ifS ?_ | with_reducible refine i_if ?_
  | with_reducible refine i_for ?_ | with_reducible refine i_iL ?_ | with_reducible refine i_iT ?_ | with_reducible refine i_ckw ?_ | with_reducible refine i_cm ?_ | with_reducible refine And.intro (rfl : V.ref _ = V.ref _) ?_ | with_reducible refine i_rng1 ?_ | with_reducible refine i_bm ?_ | with_reducible refine i_bm0 ?_
  | with_reducible refine i_drop ?_ | with_reducible refine i_next ?_
  | with_reducible refine i_var rfl ?_ | with_reducible refine i_c ?_ | with_reducible refine i_op ?_ | with_reducible refine i_un ?_ | with_reducible refine i_name ?_
  | with_reducible refine i_rI0 ?_ | with_reducible refine i_rU ?_ | with_reducible refine i_rEq rfl ?_ | with_reducible refine i_rNe rfl ?_
  | with_reducible refine i_test ?_ | with_reducible refine i_tB ?_ | with_reducible refine i_and ?_ | with_reducible refine i_or ?_ | with_reducible refine i_not ?_
  | with_reducible refine i_andV ?_ | with_reducible refine i_orV ?_ | with_reducible refine i_notV ?_
  | with_reducible refine i_cons ?_ | with_reducible refine i_nil ?_ | with_reducible refine i_cb ?_ | with_reducible refine i_call ?_ | with_reducible refine i_bl ?_
  | with_reducible refine i_tup ?_ | with_reducible refine i_lst ?_ | with_reducible refine i_par ?_ | with_reducible refine i_gcons ?_ | with_reducible refine i_gnil ?_
  | with_reducible refine And.intro (rfl : V.non = V.non) ?_ | with_reducible refine i_ixT (by assumption) rfl ?_ | with_reducible refine i_ixL (by assumption) rfl ?_ | with_reducible refine i_gtup (by assumption) rfl ?_
  | with_reducible refine i_gsub ?_
  | with_reducible refine Or.inl (Exists.intro _ (And.intro (rfl : [V.int _] = [V.int _]) ?_)) | with_reducible refine Exists.intro _ (And.intro (rfl : [V.int _] = [V.int _]) ?_)
  | with_reducible refine Or.inr (Exists.intro _ (And.intro (rfl : [V.bl _] = [V.bl _]) ?_))
  | with_reducible refine Exists.intro _ (Exists.intro _ (And.intro (rfl : [V.int _, V.int _] = [V.int _, V.int _]) ?_))
  | with_reducible refine Exists.intro _ (Exists.intro _ (And.intro (rfl : [V.ref _] = [V.ref _]) (And.intro (Or.inl (SqL.of (by assumption))) ?_)))
  | with_reducible refine i_rI (show (0 : Int) < _ by assumption) ?_ | with_reducible refine i_rI (show (0 : Int) < _ by decide) ?_
  | with_reducible refine i_rI (pow_ok (Nat.le_of_ble_eq_true rfl) (Nat.le_of_ble_eq_true rfl)) ?_
  | with_reducible refine i_rI (cmulL rfl) ?_))
/-! ### the table, or the reason of the error -/
def rIsPc (K : PySem.W.Frag) (C a : Addr) (cls : Value) (d : Option Addr) : List V → Hp → VK → Prop := fun xs H Q => cls = .ref C ∧ rIsP K C a d xs H Q
theorem call_isPc {X : Cx} {K : PySem.W.Frag} {pn : List (Addr × Obj)} {a C : Addr} {oe : Obj} {cls : Value} {d : Option Addr} (T : ExP K C) (hz : Zc cls d oe) (hf : ∃ vs, oe.data = .fields vs) (hpin : (a, oe) ∈ pn) (hK : X.K = K := by rfl) (hp : X.pn = pn := by rfl) : CallR X (.builtin "isinstance") (rIsPc K C a cls d) := by
  subst hK hp
  rintro pins s σ H xs us Q I r ⟨e, h⟩
  subst e
  exact call_isP T hz hf hpin pins s σ H xs us Q I r h
theorem pe_xfPK {X : Cx} {K : PySem.W.Frag} {pn : List (Addr × Obj)} {a C : Addr} {oe : Obj} {cls : Value} {d : Option Addr} {e : Expr} {te : TE} {pos : Pos} {n : Str} (T : XfC K C) (hno : PySem.W.findIn K (.ref C) n = some none) (hz : Zc cls d oe) (hf : ∃ vs, oe.data = .fields vs) (hpin : (a, oe) ∈ pn) (he : PE X e te)
    (hK : X.K = K := by rfl) (hp : X.pn = pn := by rfl) (hb : attributeBase e n X.env (eval e X.env) = eval e X.env := by rfl) : PE X (.Attribute e n pos) (tXf a cls d C n te) := by
  subst hK hp
  exact pe_xfP T hno hz hf hpin he hb
/-- what else is told of the errors -/
structure XEt (K : PySem.W.Frag) (mg : Str → Option Value) (CI CE : Addr) : Prop where
  xf : XfC K CI
  xp : ExP K CI
  kit : PySem.W.kitOne K (.ref CI) (.ref CI) = some true
  exm : PySem.W.exmOne K (.ref CI) (.ref CE) = some true
  g : mg "FeedError" = some (.ref CE)
theorem Drawn.given {K : PySem.W.Frag} {H : Hp} {l tk tf tu : Addr} {xs : List V} {ks fs us : List Str} (h : Drawn H l tk tf tu xs ks fs us) : Given K H xs (xs.map colB) tk tf tu ks fs us :=
  ⟨by have := h.co.z; omega, cols_nm h.co.col, TuS.of h.k, TuS.of h.f, TuS.of h.u, by have := h.kz; omega, by have := h.fz; omega, by have := h.uz; omega⟩
theorem i_cS {sp : Sp} {E : L2.St → XK} {t : TA} {σ : L2.St} {H : Hp} {Q : VK} (h : t σ H fun vs H1 => sp vs H1 Q (E σ)) : tCallS sp E t σ H Q := h
theorem i_xf {a : Addr} {cls : Value} {d : Option Addr} {C : Addr} {f : Str} {te : TE} {σ : L2.St} {H : Hp} {Q : VK} (h : te σ H fun x H1 => x = .ref a ∧ cls = .ref C ∧ ∃ (dd : Addr) (fs : List (Str × V)) (v : V), d = some dd ∧ H1 dd = some (.xd fs) ∧ fs.lookup f = some v ∧ Q v H1) : tXf a cls d C f te σ H Q := h
theorem lk_reason {v : V} : [(("reason" : Str), v)].lookup ("reason" : Str) = some v := by
  simp only [List.lookup, beq_self_eq_true]
theorem i_cmKS {C : Addr} {n m : Nat} {sp : Sp} {gV : List V → List V → List V} {E : L2.St → XK} {ta : TE} {t tk : TA} {σ : L2.St} {H : Hp} {Q : VK} (h : ta σ H fun x H1 => x = .ref C ∧ t σ H1 fun vs H2 => tk σ H2 fun zs H3 => vs.length = n ∧ zs.length = m ∧ sp (gV (.ref C :: vs) zs) H3 Q (E σ)) : tCMethKS C n m sp gV E ta t tk σ H Q := h
section
variable {P : Program} {w : World} {K : PySem.W.Frag} {mg : Str → Option Value} {base : Heap} {C fI p g CI CE fX : Addr} {mc : Value}
abbrev s_heard : Stmt := top 23
theorem sc_heard : FnScope ["_law_columns_here", "_law_keyed", "_law_firm", "_law_lone", "_law_anew", "_law_caught", "e"] ["_law_columns_here", "_law_keyed", "_law_firm", "_law_lone", "_law_anew"] (defScope s_heard) := ⟨rfl, rfl, rfl, by decide +kernel, rfl, by decide +kernel, by decide +kernel⟩
def sp_heard (C : Addr) : Sp := fun vs H Q _ => ∃ l tk tf tu xs, ∃ ks fs us : List Str, ∃ r : Bool, vs = [.ref l, .ref tk, .ref tf, .ref tu, .bl r] ∧ Drawn H l tk tf tu xs ks fs us ∧
  (∀ rs H', Same H H' → dueC xs ks fs us = some rs → Q (.str rs) H') ∧ (∀ cs x H', Same H H' → dueC xs ks fs us = none → xs = cs.map V.str → Tab C H' x (made cs ks fs us r) → Q (.ref x) H')
theorem ok_heard {f fA : Addr} {fd fdA : FuncData} (F : Fun K "_law_heard" "_law_heard" s_heard f fd) (T : ClsT K mg C fI mc p g) (XI : XIt K mg CI fX) (XE : XEt K mg CI CE)
    (F_any_table : Fun K "_law_any_table" "_law_any_table" s_any_table fA fdA) (B_any_table : Binds K fdA ["_law_c", "_law_keyed", "_law_firm", "_law_lone", "_law_anew"] []) (g_any_table : mg "_law_any_table" = some (.ref fA)) (G_any_table : FnOk P w K mg base (L2.CX P w) 6 fA fdA ["_law_c", "_law_keyed", "_law_firm", "_law_lone", "_law_anew"] (sp_any K C CI))
    (z_isinstance : mg "isinstance" = none) : FnOk P w K mg base CX0 7 f fd ["_law_columns_here", "_law_keyed", "_law_firm", "_law_lone", "_law_anew"] (sp_heard C) := by
  have XF := XE.xf
  have XP := XE.xp
  have g_FeedError := XE.g
  refine F.ok sc_heard (fun vs H Q E h => ?_) (fun cdv A outer s H vs Q E hr h => ?_)
  · obtain ⟨l, tk, tf, tu, xs, ks, fs, us, r, rfl, _⟩ := h
    rfl
  · obtain ⟨l, tk, tf, tu, xs, ks, fs, us, r, rfl, dr, q1, q2⟩ := h
    refine ⟨_, (pss_cons (ps_set (i := 5) sc_heard.nd rfl (Or.inl rfl) pe_non)
 (pss_try_keep (i := 6) (j := 5) rfl rfl sc_heard.nd rfl rfl (by show 5 < 7; decide) ⟨rfl, by decide, .inl g_FeedError⟩ (fun W pn xe tk po => (pss_one (ps_ret (pe_callS G_any_table (hr.mono (by decide)) rfl g_any_table F_any_table.kp B_any_table (fun σ => passAt tk σ) (pa_cons (pv 0) (pa_cons (pv 1) (pa_cons (pv 2) (pa_cons (pv 3) (pa_cons (pv 4) pa_nil)))))))))
 (fun a oe pn => (pss_one (ps_set (i := 5) sc_heard.nd rfl (Or.inl rfl) (pv 6))))
 (pss_one ps_dead)
 (fun a oe cls d pn hz hf hp => (pss_one (ps_ret (pe_ifExp (pt_val (pe_callB (call_isPc XP hz hf hp) (by rfl) z_isinstance (by decide +kernel) (pa_cons (pv 5) (pa_cons (pe_glob rfl XI.g (relR _)) pa_nil)))) (pe_xfPK XF XI.noR hz hf hp (pv 5)) pe_str)))))), ?_⟩
    walk_at "rd"
    refine i_cS ?_
    walk_at "rd"
    refine ⟨l, tk, tf, tu, xs, _, ks, fs, us, r, rfl, dr.co.at_, dr.co.z, dr.given, fun rs due d H1 s1 hd => ⟨XE.exm, fun a ha => ?_⟩, fun cs due e x H1 s1 tb => ?_⟩
    · walk_at "rd"
      refine ⟨rfl, .ref CI, .ref CI, true, d, _, rfl, .own CI, XE.kit, rfl, hd, true, rfl, iteT ?_⟩
      refine i_xf (i_var rfl ?_)
      exact ⟨rfl, rfl, d, _, .str rs, rfl, hd, lk_reason, q1 rs H1 s1 due⟩
    · exact q2 cs x H1 s1 due e tb
/-- Table.of(columns, key = .., fixed = .., unique = ..) -/
theorem bn_of3 {f : Addr} {fd : FuncData} {e1 e2 : Addr} (F : FunD K "of" "Table.of" (defArgs s_Table_of) (defBody s_Table_of) (defScope s_Table_of) [] [("fixed", .ref e1), ("unique", .ref e2), ("reuse", .bl true)] f fd) :
    ∃ mv, KBn K fd ["cls", "columns", "key", "fixed", "unique", "reuse"] 2 ["key", "fixed", "unique"] (fun us ws => us ++ ws ++ mv) (fun vs zs => vs ++ zs ++ [V.bl true]) := by
  refine FunD.kbinds0 F 2 ["key", "fixed", "unique"] [("reuse", .bl true)] (fun us mv ws => us ++ ws ++ mv) (by simp) (fun q hq => List.mem_cons_of_mem _ (List.mem_cons_of_mem _ hq)) (fun a b c => (a.append c).append b) ?_
  intro D doc pm an cdv ct us mv ws l1 l2 l3
  match us, l1 with
  | [u1, u2], _ =>
    match mv, l2 with
    | [m1], _ =>
      match ws, l3 with
      | [w1, w2, w3], _ => exact ⟨_, _, _, _, _, _, rfl, rfl, rfl⟩
theorem bn_of4 {f : Addr} {fd : FuncData} {e1 e2 : Addr} (F : FunD K "of" "Table.of" (defArgs s_Table_of) (defBody s_Table_of) (defScope s_Table_of) [] [("fixed", .ref e1), ("unique", .ref e2), ("reuse", .bl true)] f fd) :
    ∃ mv, KBn K fd ["cls", "columns", "key", "fixed", "unique", "reuse"] 2 ["key", "fixed", "unique", "reuse"] (fun us ws => us ++ ws ++ mv) (fun vs zs => vs ++ zs ++ []) := by
  refine FunD.kbinds0 F 2 ["key", "fixed", "unique", "reuse"] [] (fun us mv ws => us ++ ws ++ mv) (by simp) (fun q hq => absurd hq List.not_mem_nil) (fun a b c => (a.append c).append b) ?_
  intro D doc pm an cdv ct us mv ws l1 l2 l3
  match us, l1 with
  | [u1, u2], _ =>
    match mv, l2 with
    | [], _ =>
      match ws, l3 with
      | [w1, w2, w3, w4], _ => rfl
theorem bn_of1 {f : Addr} {fd : FuncData} {e1 e2 : Addr} (F : FunD K "of" "Table.of" (defArgs s_Table_of) (defBody s_Table_of) (defScope s_Table_of) [] [("fixed", .ref e1), ("unique", .ref e2), ("reuse", .bl true)] f fd) :
    ∃ mv, KBn K fd ["cls", "columns", "key", "fixed", "unique", "reuse"] 2 ["key"] (fun us ws => us ++ ws ++ mv) (fun vs zs => vs ++ zs ++ [V.ref e1, .ref e2, .bl true]) := by
  refine FunD.kbinds0 F 2 ["key"] [("fixed", .ref e1), ("unique", .ref e2), ("reuse", .bl true)] (fun us mv ws => us ++ ws ++ mv) (by simp) (fun q hq => hq) (fun a b c => (a.append c).append b) ?_
  intro D doc pm an cdv ct us mv ws l1 l2 l3
  match us, l1 with
  | [u1, u2], _ =>
    match mv, l2 with
    | [m1, m2, m3], _ =>
      match ws, l3 with
      | [w1], _ => exact ⟨_, _, _, _, _, _, rfl, rfl, _, _, _, _, _, _, rfl, rfl, _, _, _, _, _, _, rfl, rfl, rfl⟩
abbrev s_heard_of : Stmt := top 24
theorem sc_heard_of : FnScope ["_law_columns_here", "_law_keyed", "_law_firm", "_law_lone", "_law_caught", "e"] ["_law_columns_here", "_law_keyed", "_law_firm", "_law_lone"] (defScope s_heard_of) := ⟨rfl, rfl, rfl, by decide +kernel, rfl, by decide +kernel, by decide +kernel⟩
def sp_heard_of : Sp := fun vs H Q _ => ∃ l tk tf tu xs, ∃ ks fs us : List Str, vs = [.ref l, .ref tk, .ref tf, .ref tu] ∧ Drawn H l tk tf tu xs ks fs us ∧ ∀ H', Same H H' → Q (dueV (dueC xs ks fs us)) H'
theorem ok_heard_of {f : Addr} {fd fdO : FuncData} {mv : List Value} (F : Fun K "_law_heard_of" "_law_heard_of" s_heard_of f fd) (T : ClsT K mg C fI mc p g) (XI : XIt K mg CI fX) (XE : XEt K mg CI CE)
    (G_of : FnOk P w K mg base (L2.CX P w) 5 g fdO ["cls", "columns", "key", "fixed", "unique", "reuse"] (sp_tof K C CI)) (hb_of : KBn K fdO ["cls", "columns", "key", "fixed", "unique", "reuse"] 2 ["key", "fixed", "unique"] (fun us ws => us ++ ws ++ mv) (fun vs zs => vs ++ zs ++ [V.bl true]))
    (z_isinstance : mg "isinstance" = none) : FnOk P w K mg base CX0 7 f fd ["_law_columns_here", "_law_keyed", "_law_firm", "_law_lone"] sp_heard_of := by
  have XF := XE.xf
  have XP := XE.xp
  have g_FeedError := XE.g
  refine F.ok sc_heard_of (fun vs H Q E h => ?_) (fun cdv A outer s H vs Q E hr h => ?_)
  · obtain ⟨l, tk, tf, tu, xs, ks, fs, us, rfl, _⟩ := h
    rfl
  · obtain ⟨l, tk, tf, tu, xs, ks, fs, us, rfl, dr, q⟩ := h
    refine ⟨_, (pss_cons (ps_set (i := 4) sc_heard_of.nd rfl (Or.inl rfl) pe_non)
 (pss_try_keep (i := 5) (j := 4) rfl rfl sc_heard_of.nd rfl rfl (by show 4 < 6; decide) ⟨rfl, by decide, .inl g_FeedError⟩ (fun W pn xe tk po => (pss_one (ps_expr (pe_cmethKS (pe_glob rfl T.g_C (relR _)) T.rd T.of G_of hb_of (hr.mono (by decide)) (fun σ => passAt tk σ) (pa_cons (pv 0) pa_nil) (pk_cons (pv 1) (pk_cons (pv 2) (pk_cons (pv 3) pk_nil)))))))
 (fun a oe pn => (pss_one (ps_set (i := 4) sc_heard_of.nd rfl (Or.inl rfl) (pv 5))))
 (pss_cons (ps_if (pt_cmpR op_isN (pv 4) pe_non (nomark _))
 (pss_one (ps_ret pe_non))
 pss_nil)
 (pss_one ps_dead))
 (fun a oe cls d pn hz hf hp => (pss_cons (ps_if (pt_cmpR op_isN (pv 4) pe_non (nomark _))
 (pss_one (ps_ret pe_non))
 pss_nil)
 (pss_one (ps_ret (pe_ifExp (pt_val (pe_callB (call_isPc XP hz hf hp) (by rfl) z_isinstance (by decide +kernel) (pa_cons (pv 4) (pa_cons (pe_glob rfl XI.g (relR _)) pa_nil)))) (pe_xfPK XF XI.noR hz hf hp (pv 4)) pe_str))))))), ?_⟩
    walk_at "rd"
    refine i_cmKS ?_
    walk_at "rd"
    refine ⟨rfl, rfl, l, tk, tf, tu, xs, _, ks, fs, us, true, rfl, .inl dr.co.at_, dr.given, fun rs due d H1 s1 hd => ⟨XE.exm, fun a ha => ?_⟩, fun cs due e x H1 s1 tb => ?_⟩
    · have due' : dueC xs ks fs us = some rs := due
      have qq := q H1 s1
      rw [due'] at qq
      walk_at "rd"
      refine iteF ?_
      walk_at "rd"
      refine ⟨rfl, .ref CI, .ref CI, true, d, _, rfl, .own CI, XE.kit, rfl, hd, true, rfl, iteT ?_⟩
      refine i_xf (i_var rfl ?_)
      exact ⟨rfl, rfl, d, _, .str rs, rfl, hd, lk_reason, qq⟩
    · have due' : dueC xs ks fs us = none := due
      have qq := q H1 s1
      rw [due'] at qq
      walk_at "rd"
      refine iteT ?_
      walk_at "rd"
      exact qq
end
end Spk

set_option Elab.async false
set_option linter.all false
set_option maxRecDepth 100000
set_option maxHeartbeats 4000000
namespace Spk
open PySem L2
local macro_rules | `(tactic| walk_at "rd") => `(tactic| repeat (first
  | with_reducible refine i_seq ?_ | with_reducible refine i_asg ?_ | with_reducible refine i_ret ?_ | with_reducible refine i_ifS ?_ | with_reducible refine i_if ?_
  | with_reducible refine i_for ?_ | with_reducible refine i_iL ?_ | with_reducible refine i_iT ?_ | with_reducible refine i_ckw ?_ | with_reducible refine i_cm ?_ | with_reducible refine And.intro (rfl : V.ref _ = V.ref _) ?_ | with_reducible refine i_rng1 ?_ | with_reducible refine i_bm ?_ | with_reducible refine i_bm0 ?_
  | with_reducible refine i_drop ?_ | with_reducible refine i_next ?_
  | with_reducible refine i_var rfl ?_ | with_reducible refine i_c ?_ | with_reducible refine i_op ?_ | with_reducible refine i_un ?_ | with_reducible refine i_name ?_
  | with_reducible refine i_rI0 ?_ | with_reducible refine i_rU ?_ | with_reducible refine i_rEq rfl ?_ | with_reducible refine i_rNe rfl ?_
  | with_reducible refine i_test ?_ | with_reducible refine i_tB ?_ | with_reducible refine i_and ?_ | with_reducible refine i_or ?_ | with_reducible refine i_not ?_
  | with_reducible refine i_andV ?_ | with_reducible refine i_orV ?_ | with_reducible refine i_notV ?_
  | with_reducible refine i_cons ?_ | with_reducible refine i_nil ?_ | with_reducible refine i_cb ?_ | with_reducible refine i_call ?_ | with_reducible refine i_bl ?_
  | with_reducible refine i_tup ?_ | with_reducible refine i_lst ?_ | with_reducible refine i_par ?_ | with_reducible refine i_gcons ?_ | with_reducible refine i_gnil ?_
  | with_reducible refine And.intro (rfl : V.non = V.non) ?_ | with_reducible refine i_ixT (by assumption) rfl ?_ | with_reducible refine i_ixL (by assumption) rfl ?_ | with_reducible refine i_gtup (by assumption) rfl ?_
  | with_reducible refine i_gsub ?_
  | with_reducible refine Or.inl (Exists.intro _ (And.intro (rfl : [V.int _] = [V.int _]) ?_)) | with_reducible refine Exists.intro _ (And.intro (rfl : [V.int _] = [V.int _]) ?_)
  | with_reducible refine Or.inr (Exists.intro _ (And.intro (rfl : [V.bl _] = [V.bl _]) ?_))
  | with_reducible refine Exists.intro _ (Exists.intro _ (And.intro (rfl : [V.int _, V.int _] = [V.int _, V.int _]) ?_))
  | with_reducible refine Exists.intro _ (Exists.intro _ (And.intro (rfl : [V.ref _] = [V.ref _]) (And.intro (Or.inl (SqL.of (by assumption))) ?_)))
  | with_reducible refine i_rI (show (0 : Int) < _ by assumption) ?_ | with_reducible refine i_rI (show (0 : Int) < _ by decide) ?_
  | with_reducible refine i_rI (pow_ok (Nat.le_of_ble_eq_true rfl) (Nat.le_of_ble_eq_true rfl)) ?_
  | with_reducible refine i_rI (cmulL rfl) ?_))
/-! ### what a table tells, as a text -/
theorem room66 {k : Nat} {A : Around} (hr : Room k A) : A.units + 66 < cLine := by
  have := hr.un
  omega
theorem passF {X : Cx} : Passes (L2.CX X.prog X.w) X E0 := fun pins σ H s e s' _ h => by
  obtain ⟨_, _, _, _, _, _, _, _, _, _, _, _, z⟩ := h
  exact z.elim
theorem dps_bl {K : PySem.W.Frag} {H : Hp} {b : Bool} : DpAll K H [.bl b] [.bool b] := .cons (.bl b) .nil
abbrev tellD (t : Tb) : PyData := .list [.tuple (t.cs.map PyData.str), .tuple (t.ks.map PyData.str), .tuple (t.fs.map PyData.str), .tuple (t.us.map PyData.str), .bool t.r]
/-- few short columns -/
def Few (cs : List Str) : Prop := cs.length ≤ 5 ∧ ∀ c, c ∈ cs → c.length ≤ 100 ∧ PyData.strOk c = true
structure Small (t : Tb) : Prop where
  c : Few t.cs
  k : Few t.ks
  f : Few t.fs
  u : Few t.us
theorem Few.tx {cs : List Str} (h : Few cs) : TxsOk cs := fun c hc => (h.2 c hc).2
theorem Small.fits {t : Tb} (h : Small t) : FitsT t := ⟨h.c.tx, h.k.tx, h.f.tx, h.u.tx⟩
theorem Few.among {cs ks : List Str} (h : Few cs) : Few (among cs ks) := ⟨Nat.le_trans (List.length_filter_le ..) h.1, fun c hc => h.2 c (List.mem_filter.mp hc).1⟩
theorem Few.small {cs ks fs us : List Str} {r : Bool} (h : Few cs) : Small (made cs ks fs us r) := ⟨h, h.among, h.among, h.among⟩
theorem show_strs : ∀ cs : List Str, PyData.showableAll (cs.map PyData.str) = true
  | [] => by simp [PyData.showableAll]
  | c :: cs => by simp [PyData.showableAll, PyData.showable, show_strs cs]
theorem dict_strs : ∀ cs : List Str, PyData.hasDictAll (cs.map PyData.str) = false
  | [] => by simp [PyData.hasDictAll]
  | c :: cs => by simp [PyData.hasDictAll, PyData.hasDict, dict_strs cs]
theorem short_strs : ∀ {cs : List Str}, TxsOk cs → PyData.leavesShortAll 8 (cs.map PyData.str) = true
  | [], _ => by simp [PyData.leavesShortAll]
  | c :: cs, h => by
    have a := h c List.mem_cons_self
    have b := short_strs (cs := cs) fun d hd => h d (List.mem_cons_of_mem _ hd)
    have e : (PyData.str c).leavesShort 8 = true := by
      unfold PyData.strOk at a
      simp only [PyData.leavesShort, List.all_eq_true, decide_eq_true_eq]
      intro d hd
      rw [Array.all_eq_true_iff_forall_mem] at a
      have := of_decide_eq_true (a d (by simpa using hd))
      omega
    simp only [List.map_cons, PyData.leavesShortAll, e, b, Bool.and_self]
theorem weight_strs : ∀ {cs : List Str}, (∀ c, c ∈ cs → c.length ≤ 100) → PyData.weightAll (cs.map PyData.str) ≤ 101 * cs.length
  | [], _ => by simp [PyData.weightAll]
  | c :: cs, h => by
    have a := h c List.mem_cons_self
    have b := weight_strs (cs := cs) fun d hd => h d (List.mem_cons_of_mem _ hd)
    have e : c.cps.size ≤ 100 := a
    simp only [List.map_cons, PyData.weightAll, PyData.weight, List.length_cons]
    omega
theorem tell_size {t : Tb} (h : Small t) : (tellD t).shown.length ≤ sizeLine := by
  have a := PyData.shown_le 8 (Nat.le_refl _) (tellD t) (by
    simp only [tellD, PyData.leavesShort, PyData.leavesShortAll, short_strs h.c.tx, short_strs h.k.tx, short_strs h.f.tx, short_strs h.u.tx, Bool.and_self])
  have e1 := weight_strs fun c hc => (h.c.2 c hc).1
  have e2 := weight_strs fun c hc => (h.k.2 c hc).1
  have e3 := weight_strs fun c hc => (h.f.2 c hc).1
  have e4 := weight_strs fun c hc => (h.u.2 c hc).1
  have l1 := h.c.1
  have l2 := h.k.1
  have l3 := h.f.1
  have l4 := h.u.1
  refine size_of (Nat.le_trans a ?_)
  simp only [tellD, PyData.weight, PyData.weightAll]
  omega
theorem i_reprT {K : PySem.W.Frag} {H : Hp} {o : Addr} {t : Tb} {Q : VK} (hd : Dp K H (.ref o) (tellD t)) (sm : Small t) (q : Q (.str (tellD t).shown) H) : rReprD K [.ref o] H Q := by
  refine ⟨o, tellD t, rfl, hd, ?_, ?_, ?_, tell_size sm, q⟩
  · simp only [tellD, PyData.showable, PyData.showableAll, show_strs, Bool.and_self]
  · simp only [tellD, PyData.hasDict, PyData.hasDictAll, dict_strs, Bool.or_self]
  · simp only [tellD, PyData.depth, PyData.depthAll, dep_strs]
    decide
theorem TellsAt.dp {K : PySem.W.Frag} {H : Hp} {o : Addr} {t : Tb} (h : TellsAt H o t) : Dp K H (.ref o) (tellD t) := by
  obtain ⟨vs, ho, tu⟩ := h
  cases tu with
  | cons r1 tu =>
  cases tu with
  | cons r2 tu =>
  cases tu with
  | cons r3 tu =>
  cases tu with
  | cons r4 tu =>
  cases tu
  obtain ⟨a1, rfl, h1⟩ := r1
  obtain ⟨a2, rfl, h2⟩ := r2
  obtain ⟨a3, rfl, h3⟩ := r3
  obtain ⟨a4, rfl, h4⟩ := r4
  exact .lst (SqL.of ho) (.cons (.tup (SqT.of h1) (dps_strs _)) (.cons (.tup (SqT.of h2) (dps_strs _)) (.cons (.tup (SqT.of h3) (dps_strs _)) (.cons (.tup (SqT.of h4) (dps_strs _)) dps_bl))))
section
variable {P : Program} {w : World} {K : PySem.W.Frag} {mg : Str → Option Value} {base : Heap} {C fI p g CI CE fX fQ : Addr} {mc : Value}
abbrev s_face : Stmt := top 27
theorem sc_face : FnScope ["_law_made"] ["_law_made"] (defScope s_face) := ⟨rfl, rfl, rfl, by decide +kernel, rfl, by decide +kernel, by decide +kernel⟩
def sp_face (C : Addr) : Sp := fun vs H Q _ => ∃ x t, vs = [.ref x] ∧ Tab C H x t ∧ Small t ∧ ∀ H', Same H H' → Q (.str (tellD t).shown) H'
theorem ok_face {f : Addr} {fd : FuncData} (F : Fun K "_law_face" "_law_face" s_face f fd) (T : ClsT K mg C fI mc p g) (U : ClsE K C fQ) (z_isinstance : mg "isinstance" = none) (z_repr : mg "repr" = none) : FnG P w K mg base CX0 1 f fd ["_law_made"] (sp_face C) := by
  refine F.okG sc_face (fun vs H Q E h => ?_) (fun cdv A gG outer s H vs Q E hr h => ?_)
  · obtain ⟨x, t, rfl, _⟩ := h
    rfl
  · obtain ⟨x, t, rfl, tb, sm, q⟩ := h
    refine ⟨_, (pss_cons (ps_if (pt_not (pt_val (pe_callB call_isi (by rfl) z_isinstance (by decide +kernel) (pa_cons (pv 0) (pa_cons (pe_glob rfl T.g_C (relR _)) pa_nil)))))
 (pss_one (ps_ret pe_non))
 pss_nil)
 (pss_one (ps_ret (pe_callB (cr_reprD gG (room66 hr)) (by rfl) z_repr (by decide +kernel) (pa_cons (pe_lst (pa_cons (pe_fld (pv 0) rfl) (pa_cons (pe_fld (pv 0) rfl) (pa_cons (pe_fld (pv 0) rfl) (pa_cons (pe_fld (pv 0) rfl) (pa_cons (pe_fld (pv 0) rfl) pa_nil)))))) pa_nil))))), ?_⟩
    obtain ⟨dx, tc, tk, tf, tu, hx, hc, hk, hf, hu⟩ := id tb
    walk_at "rd"
    refine ⟨_, _, _, _, true, rfl, .own C, tb.ty T U, U.kit, true, rfl, iteF ?_⟩
    walk_at "rd"
    refine ⟨_, rfl, x, C, dx, _, _, rfl, hx, T.cl, T.nC, lk_columns, ?_⟩
    walk_at "rd"
    refine ⟨_, rfl, x, C, dx, _, _, rfl, hx, T.cl, T.nK, lk_key, ?_⟩
    walk_at "rd"
    refine ⟨_, rfl, x, C, dx, _, _, rfl, hx, T.cl, T.nF, lk_fixed, ?_⟩
    walk_at "rd"
    refine ⟨_, rfl, x, C, dx, _, _, rfl, hx, T.cl, T.nU, lk_unique, ?_⟩
    walk_at "rd"
    refine ⟨_, rfl, x, C, dx, _, _, rfl, hx, T.cl, T.nR, lk_reuse, ?_⟩
    walk_at "rd"
    refine ⟨size_of (Nat.le_of_ble_eq_true rfl), fun o ho => ?_⟩
    obtain ⟨H1, e1, s1, h1⟩ := new_heap (o := .lst [.ref tc, .ref tk, .ref tf, .ref tu, .bl t.r]) ho
    rw [e1]
    refine i_reprT (t := t) (.lst (SqL.of h1) (.cons (.tup (hc.up s1).seq (dps_strs _)) (.cons (.tup (SqT.of (s1 _ _ hk)) (dps_strs _)) (.cons (.tup (SqT.of (s1 _ _ hf)) (dps_strs _)) (.cons (.tup (SqT.of (s1 _ _ hu)) (dps_strs _)) dps_bl))))) sm ?_
    exact q H1 s1
end
end Spk

set_option Elab.async false
set_option linter.all false
set_option maxRecDepth 100000
set_option maxHeartbeats 4000000
namespace Spk
open PySem L2
local macro_rules | `(tactic| walk_at "rd") => `(tactic| repeat (first
  | with_reducible refine i_seq ?_ | with_reducible refine i_asg ?_ | with_reducible refine i_ret ?_ | with_reducible refine i_ifS ?_ | with_reducible refine i_if ?_
  | with_reducible refine i_for ?_ | with_reducible refine i_iL ?_ | with_reducible refine i_iT ?_ | with_reducible refine i_ckw ?_ | with_reducible refine i_cm ?_ | with_reducible refine And.intro (rfl : V.ref _ = V.ref _) ?_ | with_reducible refine i_rng1 ?_ | with_reducible refine i_bm ?_ | with_reducible refine i_bm0 ?_
  | with_reducible refine i_drop ?_ | with_reducible refine i_next ?_
  | with_reducible refine i_var rfl ?_ | with_reducible refine i_c ?_ | with_reducible refine i_op ?_ | with_reducible refine i_un ?_ | with_reducible refine i_name ?_
  | with_reducible refine i_rI0 ?_ | with_reducible refine i_rU ?_ | with_reducible refine i_rEq rfl ?_ | with_reducible refine i_rNe rfl ?_
  | with_reducible refine i_test ?_ | with_reducible refine i_tB ?_ | with_reducible refine i_and ?_ | with_reducible refine i_or ?_ | with_reducible refine i_not ?_
  | with_reducible refine i_andV ?_ | with_reducible refine i_orV ?_ | with_reducible refine i_notV ?_
  | with_reducible refine i_cons ?_ | with_reducible refine i_nil ?_ | with_reducible refine i_cb ?_ | with_reducible refine i_call ?_ | with_reducible refine i_bl ?_
  | with_reducible refine i_tup ?_ | with_reducible refine i_lst ?_ | with_reducible refine i_par ?_ | with_reducible refine i_gcons ?_ | with_reducible refine i_gnil ?_
  | with_reducible refine And.intro (rfl : V.non = V.non) ?_ | with_reducible refine i_ixT (by assumption) rfl ?_ | with_reducible refine i_ixL (by assumption) rfl ?_ | with_reducible refine i_gtup (by assumption) rfl ?_
  | with_reducible refine i_gsub ?_
  | with_reducible refine Or.inl (Exists.intro _ (And.intro (rfl : [V.int _] = [V.int _]) ?_)) | with_reducible refine Exists.intro _ (And.intro (rfl : [V.int _] = [V.int _]) ?_)
  | with_reducible refine Or.inr (Exists.intro _ (And.intro (rfl : [V.bl _] = [V.bl _]) ?_))
  | with_reducible refine Exists.intro _ (Exists.intro _ (And.intro (rfl : [V.int _, V.int _] = [V.int _, V.int _]) ?_))
  | with_reducible refine Exists.intro _ (Exists.intro _ (And.intro (rfl : [V.ref _] = [V.ref _]) (And.intro (Or.inl (SqL.of (by assumption))) ?_)))
  | with_reducible refine i_rI (show (0 : Int) < _ by assumption) ?_ | with_reducible refine i_rI (show (0 : Int) < _ by decide) ?_
  | with_reducible refine i_rI (pow_ok (Nat.le_of_ble_eq_true rfl) (Nat.le_of_ble_eq_true rfl)) ?_
  | with_reducible refine i_rI (cmulL rfl) ?_))
/-! ### lists and tuples of columns -/
theorem Given.of {K : PySem.W.Frag} {H : Hp} {l tk tf tu : Addr} {xs : List V} {ks fs us : List Str} (h : Drawn H l tk tf tu xs ks fs us) : Given K H xs (xs.map colB) tk tf tu ks fs us := h.given
theorem few_of {H : Hp} {l : Addr} {cs : List Str} (h : Cols H l (cs.map V.str)) : Few cs := ⟨by have := h.z; rw [List.length_map] at this; exact this, fun c hc => by
  rcases h.col (.str c) (List.mem_map_of_mem hc) with ⟨z, e, h1, h2⟩ | h | ⟨i, h⟩ | ⟨b, h⟩ | ⟨a, xs, h, _⟩ | ⟨a, d, h, _⟩ | ⟨a, h, _⟩
  · cases e
    exact ⟨h1, h2⟩
  all_goals cases h⟩
theorem i_cmK {C : Addr} {n m : Nat} {sp : Sp} {gV : List V → List V → List V} {E : XK} {ta : TE} {t tk : TA} {σ : L2.St} {H : Hp} {Q : VK} (h : ta σ H fun x H1 => x = .ref C ∧ t σ H1 fun vs H2 => tk σ H2 fun zs H3 => vs.length = n ∧ zs.length = m ∧ sp (gV (.ref C :: vs) zs) H3 Q E) : tCMethK C n m sp gV E ta t tk σ H Q := h
section
variable {P : Program} {w : World} {K : PySem.W.Frag} {mg : Str → Option Value} {base : Heap} {C fI p g CI CE fX fQ : Addr} {mc : Value}
abbrev s_listed_right : Stmt := top 28
theorem sc_listed_right : FnScope ["_law_made", "_law_columns_here", "_law_keyed", "_law_firm", "_law_lone", "_law_anew", "_law_handed", "_law_later"] ["_law_made", "_law_columns_here", "_law_keyed", "_law_firm", "_law_lone", "_law_anew"] (defScope s_listed_right) := ⟨rfl, rfl, rfl, by decide +kernel, rfl, by decide +kernel, by decide +kernel⟩
def sp_listed (C : Addr) : Sp := fun vs H Q _ => ∃ x l tk tf tu, ∃ cs ks fs us : List Str, ∃ r : Bool, vs = [.ref x, .ref l, .ref tk, .ref tf, .ref tu, .bl r] ∧ Tab C H x (made cs ks fs us r) ∧ Drawn H l tk tf tu (cs.map V.str) ks fs us ∧ dueC (cs.map V.str) ks fs us = none ∧ cs ≠ [] ∧ ∀ H', Same H H' → Q (.bl true) H'
theorem ok_listed {f fA : Addr} {fd fdA fdO : FuncData} {mv : List Value} (F : Fun K "_law_listed_right" "_law_listed_right" s_listed_right f fd) (T : ClsT K mg C fI mc p g)
    (F_alike : Fun K "_law_alike" "_law_alike" s_alike fA fdA) (B_alike : Binds K fdA ["_law_one", "_law_other", "_law_due_here"] []) (g_alike : mg "_law_alike" = some (.ref fA)) (G_alike : FnOk P w K mg base CX0 4 fA fdA ["_law_one", "_law_other", "_law_due_here"] (sp_alike C))
    (G_of : FnOk P w K mg base (L2.CX P w) 5 g fdO ["cls", "columns", "key", "fixed", "unique", "reuse"] (sp_tof K C CI)) (hb_of4 : KBn K fdO ["cls", "columns", "key", "fixed", "unique", "reuse"] 2 ["key", "fixed", "unique", "reuse"] (fun us ws => us ++ ws ++ mv) (fun vs zs => vs ++ zs ++ []))
    (z_list : mg "list" = none) (z_tuple : mg "tuple" = none) : FnOk P w K mg base CX0 6 f fd ["_law_made", "_law_columns_here", "_law_keyed", "_law_firm", "_law_lone", "_law_anew"] (sp_listed C) := by
  refine F.ok sc_listed_right (fun vs H Q E h => ?_) (fun cdv A outer s H vs Q E hr h => ?_)
  · obtain ⟨x, l, tk, tf, tu, cs, ks, fs, us, r, rfl, _⟩ := h
    rfl
  · obtain ⟨x, l, tk, tf, tu, cs, ks, fs, us, r, rfl, tb, dr, dn, cne, q⟩ := h
    refine ⟨_, (pss_cons (ps_set (i := 6) sc_listed_right.nd rfl (Or.inl rfl) (pe_callTy call_list_of (by rfl) z_list (by decide +kernel) (pa_cons (pv 1) pa_nil)))
 (pss_cons (ps_set (i := 7) sc_listed_right.nd rfl (Or.inl rfl) (pe_cmethK (pe_glob rfl T.g_C (relR _)) T.rd T.of G_of hb_of4 (hr.mono (by decide)) passF (pa_cons (pv 6) pa_nil) (pk_cons (pv 2) (pk_cons (pv 3) (pk_cons (pv 4) (pk_cons (pv 5) pk_nil))))))
 (pss_cons (ps_asg pe_str (pg_sub (pv 6) pe_int set_list))
 (pss_cons (ps_expr (pe_bm PySem.F.plainAttrs_list PySem.F.slot_list_append PySem.F.type_list_append mt_append (pv 6) (pa_cons pe_str pa_nil)))
 (pss_cons (ps_if (PW.pt (pw_or (pt_not (pt_val (pe_call G_alike (hr.mono (by decide)) rfl g_alike F_alike.kp B_alike .nil pass0 (pa_cons (pv 0) (pa_cons (pv 7) (pa_cons pe_bl pa_nil)))))) (pw_or1 (pt_cmpR (op_neD hr.units) (pe_fld (pv 7) rfl) (pe_callTy call_tuple_of (by rfl) z_tuple (by decide +kernel) (pa_cons (pv 1) pa_nil)) (nomark _)))))
 (pss_one (ps_ret pe_bl))
 pss_nil)
 (pss_one (ps_ret (pe_call G_alike (hr.mono (by decide)) rfl g_alike F_alike.kp B_alike .nil pass0 (pa_cons (pv 0) (pa_cons (pe_cmethK (pe_glob rfl T.g_C (relR _)) T.rd T.of G_of hb_of4 (hr.mono (by decide)) passF (pa_cons (pe_callTy call_tuple_of (by rfl) z_tuple (by decide +kernel) (pa_cons (pv 1) pa_nil)) pa_nil) (pk_cons (pv 2) (pk_cons (pv 3) (pk_cons (pv 4) (pk_cons (pv 5) pk_nil))))) (pa_cons pe_bl pa_nil))))))))))), ?_⟩
    have few := few_of dr.co
    have sm : Small (made cs ks fs us r) := few.small
    have fit := sm.fits
    walk_at "rd"
    refine ⟨l, _, rfl, .inl (SqL.of dr.co.at_), fun d hd => ?_⟩
    obtain ⟨H1, e1, s1, h1⟩ := new_heap (o := .lst (cs.map V.str)) hd
    rw [e1]
    walk_at "rd"
    refine i_cmK ?_
    walk_at "rd"
    have dr1 := dr.up s1
    refine ⟨rfl, rfl, d, tk, tf, tu, _, _, ks, fs, us, r, rfl, .inl h1, dr1.given, fun rs due => ?_, fun cs2 _ e2 y H2 s2 tb2 => ?_⟩
    · exact absurd (due.symm.trans dn) (fun z => nomatch z)
    have ecs : cs = cs2 := (List.map_inj_right (f := V.str) (fun a b z => V.str.inj z)).mp e2
    subst ecs
    walk_at "rd"
    have hd2 := s2 _ _ h1
    have cz : cs.length ≤ 5 := few.1
    have cpos : 0 < cs.length := List.length_pos_iff.mpr cne
    refine ⟨d, _, 0, 0, rfl, rfl, hd2, ?_, ?_⟩
    · unfold ixN
      rw [if_pos (by decide), if_pos (by rw [List.length_map]; omega)]
      rfl
    have off : ∀ o, Same H (upd H2 d o) := fun o b u z => by
      rw [upd_ne (ne_of_none z hd)]
      exact s2 _ _ (s1 _ _ z)
    -- the table is apart from the list
    obtain ⟨dy, tc, tk2, tf2, tu2, hy, hc, hk, hf, hu⟩ := tb2
    have apart : ∀ xs, Tab C (upd H2 d (.lst xs)) y (made cs ks fs us r) := fun xs => by
      obtain ⟨oc, hc1, hc2⟩ := hc
      exact ⟨dy, tc, tk2, tf2, tu2, by rw [upd_ne (ne_of hy hd2 (fun z => nomatch z))]; exact hy, ⟨oc, by rw [upd_ne (ne_of hc1 hd2 (fun z => nomatch z))]; exact hc1, hc2⟩, by rw [upd_ne (ne_of hk hd2 (fun z => nomatch z))]; exact hk, by rw [upd_ne (ne_of hf hd2 (fun z => nomatch z))]; exact hf, by rw [upd_ne (ne_of hu hd2 (fun z => nomatch z))]; exact hu⟩
    walk_at "rd"
    refine i_tyL upd_same ?_
    walk_at "rd"
    refine i_app (xs := (cs.map V.str).set 0 (.str "zz")) upd_same (by rw [List.length_set, List.length_map]; omega) ?_
    rw [upd_upd]
    obtain ⟨H3, e3⟩ : ∃ H3, upd H2 d (.lst (((cs.map V.str).set 0 (.str "zz")) ++ [.str "zzz"])) = H3 := ⟨_, rfl⟩
    have s03 : Same H H3 := by rw [← e3]; exact off _
    have ty := apart (((cs.map V.str).set 0 (.str "zz")) ++ [.str "zzz"])
    rw [e3] at ty
    rw [e3]
    walk_at "rd"
    refine ⟨x, .ref y, made cs ks fs us r, true, true, rfl, tb.up s03, fit, .inl ⟨y, _, rfl, ty, fit, by rw [decide_eq_true rfl]⟩, fun H4 s4 => ?_⟩
    have s04 : Same H H4 := fun b o z => s4 _ _ (s03 _ _ z)
    have ty4 := ty.up s4
    obtain ⟨dy4, tc4, tk4, tf4, tu4, hy4, hc4, _⟩ := id ty4
    walk_at "rd"
    refine iteF ?_
    walk_at "rd"
    refine ⟨_, rfl, y, C, dy4, _, _, rfl, hy4, T.cl, T.nC, lk_columns, ?_⟩
    show tCB _ _ _ _ _
    walk_at "rd"
    refine ⟨l, _, rfl, .inl ⟨SqL.of (s04 _ _ dr.co.at_), fun t2 ht2 => ?_⟩⟩
    obtain ⟨H5, e5, s5, h5⟩ := new_heap (o := .tup (cs.map V.str)) ht2
    rw [e5]
    have s05 : Same H H5 := fun b o z => s5 _ _ (s04 _ _ z)
    refine ⟨_, _, .tup (hc4.up s5).seq (dps_strs cs), .tup (SqT.of h5) (dps_strs cs), shaped_tups few.tx, shaped_tups few.tx, ?_⟩
    rw [eqv_tups, decide_eq_true rfl]
    refine ⟨false, rfl, iteF ?_⟩
    walk_at "rd"
    refine i_cmK ?_
    walk_at "rd"
    refine ⟨l, _, rfl, .inl ⟨SqL.of (s05 _ _ dr.co.at_), fun t3 ht3 => ?_⟩⟩
    obtain ⟨H6, e6, s6, h6⟩ := new_heap (o := .tup (cs.map V.str)) ht3
    rw [e6]
    have s06 : Same H H6 := fun b o z => s6 _ _ (s05 _ _ z)
    walk_at "rd"
    refine ⟨rfl, rfl, t3, tk, tf, tu, _, _, ks, fs, us, r, rfl, .inr h6, (dr.up s06).given, fun rs due => ?_, fun cs2 _ e2 y2 H7 s7 tb7 => ?_⟩
    · exact absurd (due.symm.trans dn) (fun z => nomatch z)
    have ecs : cs = cs2 := (List.map_inj_right (f := V.str) (fun a b z => V.str.inj z)).mp e2
    subst ecs
    walk_at "rd"
    have s07 : Same H H7 := fun b o z => s7 _ _ (s06 _ _ z)
    refine ⟨x, .ref y2, made cs ks fs us r, true, true, rfl, tb.up s07, fit, .inl ⟨y2, _, rfl, tb7, fit, by rw [decide_eq_true rfl]⟩, fun H8 s8 => ?_⟩
    exact q H8 fun b o z => s8 _ _ (s07 _ _ z)
end
end Spk

set_option Elab.async false
set_option linter.all false
set_option maxRecDepth 100000
set_option maxHeartbeats 4000000
namespace Spk
open PySem L2
local macro_rules | `(tactic| walk_at "rd") => `(tactic| repeat (first
  | with_reducible refine i_seq ?_ | with_reducible refine i_asg ?_ | with_reducible refine i_ret ?_ | with_reducible refine i_ifS ?_ | with_reducible refine i_if ?_
  | with_reducible refine i_for ?_ | with_reducible refine i_iL ?_ | with_reducible refine i_iT ?_ | with_reducible refine i_ckw ?_ | with_reducible refine i_cm ?_ | with_reducible refine And.intro (rfl : V.ref _ = V.ref _) ?_ | with_reducible refine i_rng1 ?_ | with_reducible refine i_bm ?_ | with_reducible refine i_bm0 ?_
  | with_reducible refine i_drop ?_ | with_reducible refine i_next ?_
  | with_reducible refine i_var rfl ?_ | with_reducible refine i_c ?_ | with_reducible refine i_op ?_ | with_reducible refine i_un ?_ | with_reducible refine i_name ?_
  | with_reducible refine i_rI0 ?_ | with_reducible refine i_rU ?_ | with_reducible refine i_rEq rfl ?_ | with_reducible refine i_rNe rfl ?_
  | with_reducible refine i_test ?_ | with_reducible refine i_tB ?_ | with_reducible refine i_and ?_ | with_reducible refine i_or ?_ | with_reducible refine i_not ?_
  | with_reducible refine i_andV ?_ | with_reducible refine i_orV ?_ | with_reducible refine i_notV ?_
  | with_reducible refine i_cons ?_ | with_reducible refine i_nil ?_ | with_reducible refine i_cb ?_ | with_reducible refine i_call ?_ | with_reducible refine i_bl ?_
  | with_reducible refine i_tup ?_ | with_reducible refine i_lst ?_ | with_reducible refine i_par ?_ | with_reducible refine i_gcons ?_ | with_reducible refine i_gnil ?_
  | with_reducible refine And.intro (rfl : V.non = V.non) ?_ | with_reducible refine i_ixT (by assumption) rfl ?_ | with_reducible refine i_ixL (by assumption) rfl ?_ | with_reducible refine i_gtup (by assumption) rfl ?_
  | with_reducible refine i_gsub ?_
  | with_reducible refine Or.inl (Exists.intro _ (And.intro (rfl : [V.int _] = [V.int _]) ?_)) | with_reducible refine Exists.intro _ (And.intro (rfl : [V.int _] = [V.int _]) ?_)
  | with_reducible refine Or.inr (Exists.intro _ (And.intro (rfl : [V.bl _] = [V.bl _]) ?_))
  | with_reducible refine Exists.intro _ (Exists.intro _ (And.intro (rfl : [V.int _, V.int _] = [V.int _, V.int _]) ?_))
  | with_reducible refine Exists.intro _ (Exists.intro _ (And.intro (rfl : [V.ref _] = [V.ref _]) (And.intro (Or.inl (SqL.of (by assumption))) ?_)))
  | with_reducible refine i_rI (show (0 : Int) < _ by assumption) ?_ | with_reducible refine i_rI (show (0 : Int) < _ by decide) ?_
  | with_reducible refine i_rI (pow_ok (Nat.le_of_ble_eq_true rfl) (Nat.le_of_ble_eq_true rfl)) ?_
  | with_reducible refine i_rI (cmulL rfl) ?_))
/-! ### tables with keywords that lack -/
section
variable {P : Program} {w : World} {K : PySem.W.Frag} {mg : Str → Option Value} {base : Heap} {C fI p g CI fX : Addr} {mc : Value}
abbrev mK1 (K : PySem.W.Frag) (C CI e1 e2 : Addr) : List V → List V → Hp → VK → XK → Prop := fun vs zs H Q E => ∃ ws rest, vs = ws ++ rest ∧ ws.length = (["self"] : List Str).length ∧ rest.length ≤ sizeLine ∧ ∀ p o, H p = none → o.cls = .type "tuple" → o.dict = none → sp_tinit K C CI (ws ++ (zs ++ [V.ref e1, .ref e2, .bl true]) ++ [V.ref p]) (upd H p (.frz o (.tup rest))) Q E
theorem ok_tinit1 {fd fdX : FuncData} {fA fC fO e1 e2 : Addr} {fdA fdC fdO : FuncData} (F : FunD K "__init__" "Table.__init__" (defArgs s_Table__init) (defBody s_Table__init) (defScope s_Table__init) [] [("fixed", .ref e1), ("unique", .ref e2), ("reuse", .bl true)] fI fd) (T : ClsT K mg C fI mc p g) (XI : XIt K mg CI fX) (B_iinit : Binds K fdX ["self", "reason"] []) (G_iinit : FnOk P w K mg base CX0 1 fX fdX ["self", "reason"] (sp_iinit CI))
    (F_are_names : Fun K "are_names" "are_names" s_are_names fA fdA) (B_are_names : Binds K fdA ["things"] []) (g_are_names : mg "are_names" = some (.ref fA)) (G_are_names : FnOk P w K mg base CX0 2 fA fdA ["things"] (sp_are_names K))
    (F_are_chosen : Fun K "are_chosen" "are_chosen" s_are_chosen fC fdC) (B_are_chosen : Binds K fdC ["names", "columns"] []) (g_are_chosen : mg "are_chosen" = some (.ref fC)) (G_are_chosen : FnOk P w K mg base CX0 1 fC fdC ["names", "columns"] (sp_are_chosen K))
    (F_in_order_of : Fun K "in_order_of" "in_order_of" s_in_order_of fO fdO) (B_in_order_of : Binds K fdO ["columns", "names"] []) (g_in_order_of : mg "in_order_of" = some (.ref fO)) (G_in_order_of : FnOk P w K mg base CX0 1 fO fdO ["columns", "names"] (sp_in_order_of K))
    (z_len : mg "len" = none) : FnK P w K mg base (L2.CX P w) 3 fI ["key"] (mK1 K C CI e1 e2) := by
  refine fn_starKD (ms := [("fixed", .ref e1), ("unique", .ref e2), ("reuse", .bl true)]) (ps := ["self"]) (as := kwN) (ks := ["key"]) (pv := "columns") F (fun zs mz => zs ++ mz) sc_Table__init StX.cxUp (by simp) (fun q hq => hq) (fun a b => b.append a) (fun α zs mz h1 h2 => by rw [List.length_append, h1, h2]; rfl) ?_ (fun cdv A outer s H vs Q E hr h => ?_)
  · intro D doc pm an cdv ct us rest mv ws l1 l2 l3
    match us, l1 with
    | [u1], _ =>
      match mv, l3 with
      | [m1, m2, m3], _ =>
        match ws, l2 with
        | [w1], _ =>
          cases rest with
          | nil => exact ⟨_, _, _, _, _, _, rfl, rfl, _, _, _, _, _, _, rfl, rfl, _, _, _, _, _, _, rfl, rfl, rfl⟩
          | cons r rs => exact ⟨_, _, _, _, _, _, rfl, rfl, _, _, _, _, _, _, rfl, rfl, _, _, _, _, _, _, rfl, rfl, rfl⟩
  · exact run_tinit T XI B_iinit G_iinit F_are_names B_are_names g_are_names G_are_names F_are_chosen B_are_chosen g_are_chosen G_are_chosen F_in_order_of B_in_order_of g_in_order_of G_in_order_of z_len hr h
abbrev mK2 (K : PySem.W.Frag) (C CI e1 e2 : Addr) : List V → List V → Hp → VK → XK → Prop := fun vs zs H Q E => ∃ ws rest, vs = ws ++ rest ∧ ws.length = (["self"] : List Str).length ∧ rest.length ≤ sizeLine ∧ ∀ p o, H p = none → o.cls = .type "tuple" → o.dict = none → sp_tinit K C CI (ws ++ (zs.take 1 ++ [V.ref e1, .ref e2] ++ zs.drop 1) ++ [V.ref p]) (upd H p (.frz o (.tup rest))) Q E
theorem ok_tinit2 {fd fdX : FuncData} {fA fC fO e1 e2 : Addr} {fdA fdC fdO : FuncData} (F : FunD K "__init__" "Table.__init__" (defArgs s_Table__init) (defBody s_Table__init) (defScope s_Table__init) [] [("fixed", .ref e1), ("unique", .ref e2), ("reuse", .bl true)] fI fd) (T : ClsT K mg C fI mc p g) (XI : XIt K mg CI fX) (B_iinit : Binds K fdX ["self", "reason"] []) (G_iinit : FnOk P w K mg base CX0 1 fX fdX ["self", "reason"] (sp_iinit CI))
    (F_are_names : Fun K "are_names" "are_names" s_are_names fA fdA) (B_are_names : Binds K fdA ["things"] []) (g_are_names : mg "are_names" = some (.ref fA)) (G_are_names : FnOk P w K mg base CX0 2 fA fdA ["things"] (sp_are_names K))
    (F_are_chosen : Fun K "are_chosen" "are_chosen" s_are_chosen fC fdC) (B_are_chosen : Binds K fdC ["names", "columns"] []) (g_are_chosen : mg "are_chosen" = some (.ref fC)) (G_are_chosen : FnOk P w K mg base CX0 1 fC fdC ["names", "columns"] (sp_are_chosen K))
    (F_in_order_of : Fun K "in_order_of" "in_order_of" s_in_order_of fO fdO) (B_in_order_of : Binds K fdO ["columns", "names"] []) (g_in_order_of : mg "in_order_of" = some (.ref fO)) (G_in_order_of : FnOk P w K mg base CX0 1 fO fdO ["columns", "names"] (sp_in_order_of K))
    (z_len : mg "len" = none) : FnK P w K mg base (L2.CX P w) 3 fI ["key", "reuse"] (mK2 K C CI e1 e2) := by
  refine fn_starKD (ms := [("fixed", .ref e1), ("unique", .ref e2)]) (ps := ["self"]) (as := kwN) (ks := ["key", "reuse"]) (pv := "columns") F (fun zs mz => zs.take 1 ++ mz ++ zs.drop 1) sc_Table__init StX.cxUp (by simp) (fun q hq => by simp only [List.mem_cons, List.not_mem_nil, or_false] at hq ⊢; exact hq.elim .inl fun z => .inr (.inl z)) (fun a b => ((b.take 1).append a).append (b.drop 1)) (fun α zs mz h1 h2 => by have h1 : zs.length = 2 := h1; have h2 : mz.length = 2 := h2; simp [h1, h2]) ?_ (fun cdv A outer s H vs Q E hr h => ?_)
  · intro D doc pm an cdv ct us rest mv ws l1 l2 l3
    match us, l1 with
    | [u1], _ =>
      match mv, l3 with
      | [m1, m2], _ =>
        match ws, l2 with
        | [w1, w2], _ =>
          cases rest with
          | nil => exact ⟨_, _, _, _, _, _, rfl, rfl, _, _, _, _, _, _, rfl, rfl, rfl⟩
          | cons r rs => exact ⟨_, _, _, _, _, _, rfl, rfl, _, _, _, _, _, _, rfl, rfl, rfl⟩
  · exact run_tinit T XI B_iinit G_iinit F_are_names B_are_names g_are_names G_are_names F_are_chosen B_are_chosen g_are_chosen G_are_chosen F_in_order_of B_in_order_of g_in_order_of G_in_order_of z_len hr h
end
end Spk

set_option Elab.async false
set_option linter.all false
set_option maxRecDepth 100000
set_option maxHeartbeats 4000000
namespace Spk
open PySem L2
local macro_rules | `(tactic| walk_at "rd") => `(tactic| repeat (first
  | with_reducible refine i_seq ?_ | with_reducible refine i_asg ?_ | with_reducible refine i_ret ?_ | with_reducible refine i_ifS ?_ | with_reducible refine i_if ?_
  | with_reducible refine i_for ?_ | with_reducible refine i_iL ?_ | with_reducible refine i_iT ?_ | with_reducible refine i_ckw ?_ | with_reducible refine i_cm ?_ | with_reducible refine And.intro (rfl : V.ref _ = V.ref _) ?_ | with_reducible refine i_rng1 ?_ | with_reducible refine i_bm ?_ | with_reducible refine i_bm0 ?_
  | with_reducible refine i_drop ?_ | with_reducible refine i_next ?_
  | with_reducible refine i_var rfl ?_ | with_reducible refine i_c ?_ | with_reducible refine i_op ?_ | with_reducible refine i_un ?_ | with_reducible refine i_name ?_
  | with_reducible refine i_rI0 ?_ | with_reducible refine i_rU ?_ | with_reducible refine i_rEq rfl ?_ | with_reducible refine i_rNe rfl ?_
  | with_reducible refine i_test ?_ | with_reducible refine i_tB ?_ | with_reducible refine i_and ?_ | with_reducible refine i_or ?_ | with_reducible refine i_not ?_
  | with_reducible refine i_andV ?_ | with_reducible refine i_orV ?_ | with_reducible refine i_notV ?_
  | with_reducible refine i_cons ?_ | with_reducible refine i_nil ?_ | with_reducible refine i_cb ?_ | with_reducible refine i_call ?_ | with_reducible refine i_bl ?_
  | with_reducible refine i_tup ?_ | with_reducible refine i_lst ?_ | with_reducible refine i_par ?_ | with_reducible refine i_gcons ?_ | with_reducible refine i_gnil ?_
  | with_reducible refine And.intro (rfl : V.non = V.non) ?_ | with_reducible refine i_ixT (by assumption) rfl ?_ | with_reducible refine i_ixL (by assumption) rfl ?_ | with_reducible refine i_gtup (by assumption) rfl ?_
  | with_reducible refine i_gsub ?_
  | with_reducible refine Or.inl (Exists.intro _ (And.intro (rfl : [V.int _] = [V.int _]) ?_)) | with_reducible refine Exists.intro _ (And.intro (rfl : [V.int _] = [V.int _]) ?_)
  | with_reducible refine Or.inr (Exists.intro _ (And.intro (rfl : [V.bl _] = [V.bl _]) ?_))
  | with_reducible refine Exists.intro _ (Exists.intro _ (And.intro (rfl : [V.int _, V.int _] = [V.int _, V.int _]) ?_))
  | with_reducible refine Exists.intro _ (Exists.intro _ (And.intro (rfl : [V.ref _] = [V.ref _]) (And.intro (Or.inl (SqL.of (by assumption))) ?_)))
  | with_reducible refine i_rI (show (0 : Int) < _ by assumption) ?_ | with_reducible refine i_rI (show (0 : Int) < _ by decide) ?_
  | with_reducible refine i_rI (pow_ok (Nat.le_of_ble_eq_true rfl) (Nat.le_of_ble_eq_true rfl)) ?_
  | with_reducible refine i_rI (cmulL rfl) ?_))
/-! ### the law's pieces -/
abbrev goods (xs : List V) : List V := xs.filter colB
theorem goods_snoc {xs : List V} {i : Nat} {y : V} (h : xs[i]? = some y) : goods (xs.take (i + 1)) = if colB y then goods (xs.take i) ++ [y] else goods (xs.take i) := by
  unfold goods
  rw [take_snoc h, List.filter_append]
  by_cases e : colB y = true
  · simp [e]
  · simp [e]
theorem goods_str {H : Hp} : ∀ {xs : List V}, (∀ y, y ∈ xs → Col H y) → ∃ ns : List Str, goods xs = ns.map V.str ∧ TxsOk ns
  | [], _ => ⟨[], rfl, fun c hc => absurd hc List.not_mem_nil⟩
  | y :: ys, h => by
    obtain ⟨ns, e, tx⟩ := goods_str (xs := ys) fun u hu => h u (List.mem_cons_of_mem _ hu)
    unfold goods at e ⊢
    by_cases c : colB y = true
    · rw [List.filter_cons_of_pos c, e]
      rcases h y List.mem_cons_self with ⟨z, rfl, _, oz⟩ | rfl | ⟨i, rfl⟩ | ⟨b, rfl⟩ | ⟨a, xs, rfl, _⟩ | ⟨a, d, rfl, _⟩ | ⟨a, rfl, _⟩
      · refine ⟨z :: ns, rfl, fun u hu => ?_⟩
        rcases List.mem_cons.mp hu with rfl | hu
        · exact oz
        · exact tx u hu
      all_goals exact absurd c (show ¬ (false = true) from Bool.false_ne_true)
    · rw [List.filter_cons_of_neg c]
      exact ⟨ns, e, tx⟩
theorem Tab.keep {C : Addr} {H H' : Hp} {x : Addr} {t : Tb} (e : Keep H H') (h : Tab C H x t) : Tab C H' x t := by
  obtain ⟨dx, tc, tk, tf, tu, h1, ⟨o, h2, h2'⟩, h3, h4, h5⟩ := h
  exact ⟨dx, tc, tk, tf, tu, e _ _ rfl h1, ⟨o, e _ _ rfl h2, h2'⟩, e _ _ rfl h3, e _ _ rfl h4, e _ _ rfl h5⟩
theorem pn_long {a b c d : V} {xs ys : List V} (h : xs = a :: b :: c :: d :: ys) : penny (.lst xs) = false := by
  cases hp : penny (.lst xs) with
  | false => rfl
  | true =>
    exfalso
    unfold penny at hp
    split at hp
    · rename_i e
      rw [h] at e
      cases e
    · cases hp
theorem TellsAt.keep {H H' : Hp} {o : Addr} {t : Tb} (e : Keep H H') (h : TellsAt H o t) : TellsAt H' o t := by
  obtain ⟨vs, ho, tu⟩ := h
  have vz : vs.length = 4 := Paired.length tu
  obtain ⟨a, b, c, d, rfl⟩ := len4 vz
  exact ⟨_, e _ _ (pn_long rfl) ho, Paired.mapP tu fun _ _ ⟨a, e1, e2⟩ => ⟨a, e1, e _ _ rfl e2⟩⟩
/-- a table that was kept, beside what it tells -/
def Kp (C : Addr) (H : Hp) (v : V) (t : Tb) : Prop := ∃ q x o, v = .ref q ∧ H q = some (.tup [.ref x, .ref o]) ∧ Tab C H x t ∧ TellsAt H o t ∧ Small t
theorem Kp.keep {C : Addr} {H H' : Hp} {v : V} {t : Tb} (e : Keep H H') (h : Kp C H v t) : Kp C H' v t := by
  obtain ⟨q, x, o, rfl, h1, h2, h3, h4⟩ := h
  exact ⟨q, x, o, rfl, e _ _ rfl h1, h2.keep e, h3.keep e, h4⟩
theorem Tab.mut {C : Addr} {H : Hp} {D : Addr} {xs : List V} {u : HO} {x : Addr} {t : Tb} (hD : H D = some (.lst xs)) (h : Tab C H x t) : Tab C (upd H D u) x t := by
  obtain ⟨dx, tc, tk, tf, tu, h1, ⟨o, h2, h2'⟩, h3, h4, h5⟩ := h
  exact ⟨dx, tc, tk, tf, tu, by rw [upd_ne (ne_of h1 hD (fun z => nomatch z))]; exact h1, ⟨o, by rw [upd_ne (ne_of h2 hD (fun z => nomatch z))]; exact h2, h2'⟩, by rw [upd_ne (ne_of h3 hD (fun z => nomatch z))]; exact h3, by rw [upd_ne (ne_of h4 hD (fun z => nomatch z))]; exact h4, by rw [upd_ne (ne_of h5 hD (fun z => nomatch z))]; exact h5⟩
/-- what is kept so far: all in the list at kl, which no table's text is -/
structure Kept (C : Addr) (H : Hp) (kl : Addr) (ts : List Tb) : Prop where
  ex : ∃ vs, H kl = some (.lst vs) ∧ Paired (Kp C H) vs ts ∧ ∀ v, v ∈ vs → ∃ q x o, v = .ref q ∧ H q = some (.tup [.ref x, .ref o]) ∧ o ≠ kl
theorem pn_refs {C : Addr} {H : Hp} {vs : List V} {ts : List Tb} (h : Paired (Kp C H) vs ts) : penny (.lst vs) = false := by
  cases hp : penny (.lst vs) with
  | false => rfl
  | true =>
    exfalso
    unfold penny at hp
    split at hp
    · rename_i a i j e
      have e : vs = [.ref a, .int i, .int j] := HO.lst.inj e
      obtain ⟨t, _, q, x, o, z, _⟩ := pair_at h (i := 1) (x := .int i) (by rw [e]; rfl)
      cases z
    · cases hp
theorem Kept.keep {C : Addr} {H H' : Hp} {kl : Addr} {ts : List Tb} (e : Keep H H') (h : Kept C H kl ts) : Kept C H' kl ts := by
  obtain ⟨vs, h1, h2, h3⟩ := h
  exact ⟨vs, e _ _ (pn_refs h2) h1, Paired.mapP h2 fun _ _ q => q.keep e, fun v hv => by
    obtain ⟨q, x, o, e1, e2, e3⟩ := h3 v hv
    exact ⟨q, x, o, e1, e _ _ rfl e2, e3⟩⟩
theorem Kept.up {C : Addr} {H H' : Hp} {kl : Addr} {ts : List Tb} (e : Same H H') (h : Kept C H kl ts) : Kept C H' kl ts := h.keep (Same.keep e)
theorem shaped_tell {t : Tb} (h : Small t) : SeqAt.shaped (tellD t) = true := by
  have a1 := lay_strs h.c.tx
  have a2 := lay_strs h.k.tx
  have a3 := lay_strs h.f.tx
  have a4 := lay_strs h.u.tx
  unfold SeqAt.shaped
  rw [Bool.and_eq_true, decide_eq_true_eq]
  refine ⟨?_, ?_⟩
  · simp only [tellD, PyData.canLay0, PyData.canLayAll0, a1, a2, a3, a4, Bool.and_self]
  · simp only [tellD, PyData.depth, PyData.depthAll, dep_strs]
    decide
theorem eqv_tell (t u : Tb) : PyData.eqv (tellD t) (tellD u) = decide (t = u) := by
  obtain ⟨cs, ks, fs, us, r⟩ := t
  obtain ⟨cs2, ks2, fs2, us2, r2⟩ := u
  simp only [tellD, PyData.eqv, PyData.eqvAll, eqvAll_strs, Tb.mk.injEq]
  rw [Bool.eq_iff_iff]
  simp only [Bool.and_eq_true, decide_eq_true_eq, Bool.and_true, beq_iff_eq]
/-- keys, fixed and unique columns told backwards make the same table -/
theorem among_rev (cs ks : List Str) : among cs ks.reverse = among cs ks := by
  unfold among
  refine List.filter_congr fun c _ => ?_
  simp
theorem made_rev (cs ks fs us : List Str) (r : Bool) : made cs ks.reverse fs.reverse us.reverse r = made cs ks fs us r := by
  unfold made
  rw [among_rev, among_rev, among_rev]
theorem chosen_rev (ks cs : List Str) : chosenB ks.reverse cs = chosenB ks cs := by
  unfold chosenB
  rw [List.map_reverse, List.all_reverse, decide_eq_decide.mpr (List.reverse_perm ks).nodup_iff]
theorem others_rev (cs ks : List Str) : othersOf cs ks.reverse = othersOf cs ks := by
  unfold othersOf
  refine List.filter_congr fun c _ => ?_
  simp
theorem due_rev (xs : List V) (ks fs us : List Str) : dueC xs ks.reverse fs.reverse us.reverse = dueC xs ks fs us := by
  unfold dueC dueT
  rw [chosen_rev, others_rev, chosen_rev, chosen_rev, List.length_reverse]
theorem due_ne {cs ks fs us : List Str} (h : dueC (cs.map V.str) ks fs us = none) : cs ≠ [] := by
  rintro rfl
  cases h
/-- no error: all columns are names -/
theorem due_str {H : Hp} {xs : List V} {ks fs us : List Str} (hc : ∀ y, y ∈ xs → Col H y) (h : dueC xs ks fs us = none) : ∃ cs : List Str, xs = cs.map V.str := by
  unfold dueC dueT at h
  by_cases c : (namesB xs (xs.map colB) && decide (xs.length ≤ 4)) = false
  · rw [if_pos c] at h
    cases h
  · have c' : (namesB xs (xs.map colB) && decide (xs.length ≤ 4)) = true := by simpa using c
    have n := (Bool.and_eq_true_iff.mp c').1
    unfold namesB at n
    have al := (Bool.and_eq_true_iff.mp (Bool.and_eq_true_iff.mp n).2).1
    have pr : ∀ {xs : List V}, (∀ y, y ∈ xs → Col H y) → (xs.map colB).all id = true → ∃ cs : List Str, xs = cs.map V.str := by
      intro xs hc al
      induction xs with
      | nil => exact ⟨[], rfl⟩
      | cons y ys ih =>
        rw [List.map_cons, List.all_cons, Bool.and_eq_true] at al
        obtain ⟨cs, e⟩ := ih (fun u hu => hc u (List.mem_cons_of_mem _ hu)) al.2
        rcases hc y List.mem_cons_self with ⟨z, rfl, _⟩ | rfl | ⟨i, rfl⟩ | ⟨b, rfl⟩ | ⟨a, xs, rfl, _⟩ | ⟨a, d, rfl, _⟩ | ⟨a, rfl, _⟩
        · exact ⟨z :: cs, by rw [e]; rfl⟩
        all_goals exact absurd al.1 (show ¬ (false = true) from Bool.false_ne_true)
    exact pr hc al
end Spk

set_option Elab.async false
set_option linter.all false
set_option maxRecDepth 100000
set_option maxHeartbeats 8000000
namespace Spk
open PySem L2
local macro_rules | `(tactic| walk_at "rd") => `(tactic| repeat (first
  | with_reducible refine i_seq ?_ | with_reducible refine i_asg ?_ | with_reducible refine i_ret ?_ | with_reducible refine i_ifS ?_ | with_reducible refine i_if ?_
  | with_reducible refine i_for ?_ | with_reducible refine i_iL ?_ | with_reducible refine i_iT ?_ | with_reducible refine i_ckw ?_ | with_reducible refine i_cm ?_ | with_reducible refine And.intro (rfl : V.ref _ = V.ref _) ?_ | with_reducible refine i_rng1 ?_ | with_reducible refine i_bm ?_ | with_reducible refine i_bm0 ?_
  | with_reducible refine i_drop ?_ | with_reducible refine i_next ?_
  | with_reducible refine i_var rfl ?_ | with_reducible refine i_c ?_ | with_reducible refine i_op ?_ | with_reducible refine i_un ?_ | with_reducible refine i_name ?_
  | with_reducible refine i_rI0 ?_ | with_reducible refine i_rU ?_ | with_reducible refine i_rEq rfl ?_ | with_reducible refine i_rNe rfl ?_
  | with_reducible refine i_test ?_ | with_reducible refine i_tB ?_ | with_reducible refine i_and ?_ | with_reducible refine i_or ?_ | with_reducible refine i_not ?_
  | with_reducible refine i_andV ?_ | with_reducible refine i_orV ?_ | with_reducible refine i_notV ?_
  | with_reducible refine i_cons ?_ | with_reducible refine i_nil ?_ | with_reducible refine i_cb ?_ | with_reducible refine i_call ?_ | with_reducible refine i_bl ?_
  | with_reducible refine i_tup ?_ | with_reducible refine i_lst ?_ | with_reducible refine i_par ?_ | with_reducible refine i_gcons ?_ | with_reducible refine i_gnil ?_
  | with_reducible refine And.intro (rfl : V.non = V.non) ?_ | with_reducible refine i_ixT (by assumption) rfl ?_ | with_reducible refine i_ixL (by assumption) rfl ?_ | with_reducible refine i_gtup (by assumption) rfl ?_
  | with_reducible refine i_gsub ?_
  | with_reducible refine Or.inl (Exists.intro _ (And.intro (rfl : [V.int _] = [V.int _]) ?_)) | with_reducible refine Exists.intro _ (And.intro (rfl : [V.int _] = [V.int _]) ?_)
  | with_reducible refine Or.inr (Exists.intro _ (And.intro (rfl : [V.bl _] = [V.bl _]) ?_))
  | with_reducible refine Exists.intro _ (Exists.intro _ (And.intro (rfl : [V.int _, V.int _] = [V.int _, V.int _]) ?_))
  | with_reducible refine Exists.intro _ (Exists.intro _ (And.intro (rfl : [V.ref _] = [V.ref _]) (And.intro (Or.inl (SqL.of (by assumption))) ?_)))
  | with_reducible refine i_rI (show (0 : Int) < _ by assumption) ?_ | with_reducible refine i_rI (show (0 : Int) < _ by decide) ?_
  | with_reducible refine i_rI (pow_ok (Nat.le_of_ble_eq_true rfl) (Nat.le_of_ble_eq_true rfl)) ?_
  | with_reducible refine i_rI (cmulL rfl) ?_))
theorem TellsAt.mut {H : Hp} {D o : Addr} {xs : List V} {u : HO} {t : Tb} (hD : H D = some (.lst xs)) (n : o ≠ D) (h : TellsAt H o t) : TellsAt (upd H D u) o t := by
  obtain ⟨vs, ho, tu⟩ := h
  exact ⟨vs, by rw [upd_ne n]; exact ho, tu.mut hD⟩
theorem Kp.mut {C : Addr} {H : Hp} {D : Addr} {xs : List V} {u : HO} {v : V} {t : Tb} (hD : H D = some (.lst xs)) (h : Kp C H v t) (n : ∃ q x o, v = .ref q ∧ H q = some (.tup [.ref x, .ref o]) ∧ o ≠ D) : Kp C (upd H D u) v t := by
  obtain ⟨q, x, o, rfl, h1, h2, h3, h4⟩ := h
  obtain ⟨q', x', o', e, h1', n⟩ := n
  cases e
  rw [h1] at h1'
  have eo : o = o' := by
    have := Option.some.inj h1'
    have := HO.tup.inj this
    simp only [List.cons.injEq, and_true] at this
    exact V.ref.inj this.2
  subst eo
  exact ⟨q, x, o, rfl, by rw [upd_ne (ne_of h1 hD (fun z => nomatch z))]; exact h1, h2.mut hD, h3.mut hD n, h4⟩
theorem paired_all {α β : Type} {R R' : α → β → Prop} {S : α → Prop} (f : ∀ a b, R a b → S a → R' a b) : ∀ {xs : List α} {ys : List β}, Paired R xs ys → (∀ x, x ∈ xs → S x) → Paired R' xs ys
  | _, _, .nil, _ => .nil
  | _, _, .cons q t, h => .cons (f _ _ q (h _ List.mem_cons_self)) (paired_all f t fun x hx => h x (List.mem_cons_of_mem _ hx))
theorem Kept.snoc {C : Addr} {H : Hp} {kl q x o : Addr} {ts : List Tb} {t : Tb} {vs : List V} (hk : H kl = some (.lst vs)) (h : Kept C H kl ts) (hq : H q = some (.tup [.ref x, .ref o])) (tb : Tab C H x t) (to : TellsAt H o t) (sm : Small t) (n : o ≠ kl) : Kept C (upd H kl (.lst (vs ++ [.ref q]))) kl (ts ++ [t]) := by
  obtain ⟨vs', h1, h2, h3⟩ := h
  have e : vs' = vs := HO.lst.inj (Option.some.inj (h1.symm.trans hk))
  subst e
  refine ⟨_, upd_same, paired_snoc (Kp.mut hk ⟨q, x, o, rfl, hq, tb, to, sm⟩ ⟨q, x, o, rfl, hq, n⟩) (paired_all (R' := Kp C (upd H kl (.lst (vs' ++ [.ref q])))) (S := fun v => ∃ q x o, v = V.ref q ∧ H q = some (.tup [.ref x, .ref o]) ∧ o ≠ kl) (fun a b r s => Kp.mut hk r s) h2 h3), fun v hv => ?_⟩
  rcases List.mem_append.mp hv with hv | hv
  · obtain ⟨q', x', o', e, h1', n'⟩ := h3 v hv
    exact ⟨q', x', o', e, by rw [upd_ne (ne_of h1' hk (fun z => nomatch z))]; exact h1', n'⟩
  · rw [List.mem_singleton] at hv
    exact ⟨q, x, o, hv, by rw [upd_ne (ne_of hq hk (fun z => nomatch z))]; exact hq, n⟩
theorem i_revT {K : PySem.W.Frag} {te : TE} {σ : L2.St} {H : Hp} {Q : VK} (h : te σ H fun x H1 => ∃ a xs, x = .ref a ∧ SqT K H1 a xs ∧ ∀ p, H1 p = none → Q (.ref p) (upd H1 p (.tup xs.reverse))) : tRevT K te σ H Q := h
theorem rev_at {K : PySem.W.Frag} {σ : L2.St} {H : Hp} {te : TE} {a : Addr} {cs : List Str} {Q : VK} (ha : H a = some (.tup (cs.map V.str))) (ft : ∀ (R : VK), R (.ref a) H → te σ H R) (q : ∀ p H', Same H H' → H' p = some (.tup (cs.reverse.map V.str)) → Q (.ref p) H') : tRevT K te σ H Q := by
  refine i_revT (ft _ ⟨a, _, rfl, SqT.of ha, fun p hp => ?_⟩)
  obtain ⟨H1, e1, s1, h1⟩ := new_heap (o := .tup (cs.reverse.map V.str)) hp
  rw [← List.map_reverse, e1]
  exact q p H1 s1 h1
theorem nm_str {K : PySem.W.Frag} {H : Hp} {z : Str} (h : nameB z = true) (hz : z.length ≤ 100) : NmV K H (.str z) true := .inl ⟨z, rfl, hz, h.symm⟩
theorem kr_given {K : PySem.W.Frag} {H : Hp} {tk e1 e2 : Addr} (hk : TuS K H tk [.str "k"]) (h1 : TuS K H e1 []) (h2 : TuS K H e2 []) : Given K H [.str "k", .str "r"] [true, true] tk e1 e2 ["k"] [] [] :=
  ⟨by decide, .cons (nm_str (by decide +kernel) (by decide +kernel)) (.cons (nm_str (by decide +kernel) (by decide +kernel)) .nil), hk, h1, h2, by decide, by decide, by decide⟩
theorem rk_given {K : PySem.W.Frag} {H : Hp} {tk e1 e2 : Addr} (hk : TuS K H tk [.str "k"]) (h1 : TuS K H e1 []) (h2 : TuS K H e2 []) : Given K H [.str "r", .str "k"] [true, true] tk e1 e2 ["k"] [] [] :=
  ⟨by decide, .cons (nm_str (by decide +kernel) (by decide +kernel)) (.cons (nm_str (by decide +kernel) (by decide +kernel)) .nil), hk, h1, h2, by decide, by decide, by decide⟩
theorem kr_due : dueT [.str "k", .str "r"] [true, true] ["k"] [] [] = none := by decide +kernel
theorem rk_due : dueT [.str "r", .str "k"] [true, true] ["k"] [] [] = none := by decide +kernel
theorem kr_cs {cs : List Str} (h : [V.str "k", V.str "r"] = cs.map V.str) : cs = [("k" : Str), "r"] := by
  match cs, h with
  | [a, b], h =>
    simp only [List.map_cons, List.map_nil, List.cons.injEq, V.str.injEq, and_true] at h
    rw [← h.1, ← h.2]
theorem rk_cs {cs : List Str} (h : [V.str "r", V.str "k"] = cs.map V.str) : cs = [("r" : Str), "k"] := by
  match cs, h with
  | [a, b], h =>
    simp only [List.map_cons, List.map_nil, List.cons.injEq, V.str.injEq, and_true] at h
    rw [← h.1, ← h.2]
abbrev krT (r : Bool) : Tb := ⟨["k", "r"], among ["k", "r"] ["k"], among ["k", "r"] [], among ["k", "r"] [], r⟩
abbrev rkT (r : Bool) : Tb := ⟨["r", "k"], among ["r", "k"] ["k"], among ["r", "k"] [], among ["r", "k"] [], r⟩
theorem kr_fits (r : Bool) : FitsT (krT r) := by
  have a : Few ["k", "r"] := ⟨by decide, by decide +kernel⟩
  exact (Few.small (ks := ["k"]) (fs := []) (us := []) (r := r) a).fits
theorem rk_fits (r : Bool) : FitsT (rkT r) := by
  have a : Few ["r", "k"] := ⟨by decide, by decide +kernel⟩
  exact (Few.small (ks := ["k"]) (fs := []) (us := []) (r := r) a).fits
theorem mk_tabR {K : PySem.W.Frag} {C CI x dx : Addr} {R : Hp → Prop} {H : Hp} {E : XK} {xs : List V} {js : List Bool} {tk tf tu : Addr} {ks fs us : List Str} {r : Bool} (gv : Given K H xs js tk tf tu ks fs us) (no : dueT xs js ks fs us = none) (hx : H x = none) (hdx : H dx = none) (hne : dx ≠ x)
    (yes : ∀ cs, xs = cs.map V.str → ∀ H', Same H H' → Tab C H' x ⟨cs, among cs ks, among cs fs, among cs us, r⟩ → R H') : mK K C CI (V.ref x :: xs) [.ref tk, .ref tf, .ref tu, .bl r] (upd (upd H dx (.own x)) x (.ins C dx [])) (fun v H3 => v = .non ∧ R H3) E := by
  refine ⟨[.ref x], xs, rfl, rfl, size_of (by have := gv.z; omega), fun p' o hp' oc od => ?_⟩
  have xp : x ≠ p' := fun z => by rw [← z, upd_same] at hp'; cases hp'
  have s2 : Same H (upd (upd (upd H dx (.own x)) x (.ins C dx [])) p' (.frz o (.tup xs))) := fun b u e => by
    have n1 := ne_of_none e hx
    have n2 := ne_of_none e hdx
    have n3 : b ≠ p' := fun z => by
      rw [← z, upd_ne n1, upd_ne n2, e] at hp'
      cases hp'
    rw [upd_ne n3, upd_ne n1, upd_ne n2]
    exact e
  have gv2 := gv.up s2
  refine ⟨x, dx, tk, tf, tu, p', xs, js, ks, fs, us, r, rfl, by rw [upd_ne xp]; exact upd_same, ⟨o, upd_same, oc, od⟩, gv2.z, gv2.nm, gv2.k, gv2.f, gv2.u, gv2.kz, gv2.fz, gv2.uz, fun rs d => absurd (no.symm.trans d) (fun z => nomatch z), fun cs d e H' off tb => ⟨rfl, yes cs e H' (fun b u e1 => ?_) tb⟩⟩
  exact off b u (ne_of_none e1 hx) (s2 _ _ e1)
structure LInv (C a p L kl : Addr) (i : Nat) (σ : L2.St) (H : Hp) : Prop where
  ex : ∃ x3 x4 x5 x6 x7 x8 x9 x10 x11 x12 x13 x14 : Option V, ∃ ts : List Tb, σ = [some (.ref a), some (.ref p), some (.ref kl), x3, x4, x5, x6, x7, x8, x9, x10, x11, x12, x13, x14, none, none, none, none, none] ∧ Pen H p L (40 * i) ∧ Kept C H kl ts ∧ ts.length ≤ i
section
variable {P : Program} {w : World} {K : PySem.W.Frag} {mg : Str → Option Value} {base : Heap} {C fI p g CI CE fX fQ e1 e2 e3 e4 : Addr} {mc : Value}
abbrev s_law : Stmt := top 29
theorem sc_law : FnScope ["_law_script", "_law_pen_here", "_law_kept", "_law_turn", "_law_columns_here", "_law_names", "_law_keyed", "_law_others", "_law_firm", "_law_lone", "_law_anew", "_law_made", "_law_due_here", "_law_told_here", "_law_again", "_law_one", "_law_mine", "_law_other", "_law_yours", "_law_plain"] ["_law_script"] (defScope s_law) := ⟨rfl, rfl, rfl, by decide +kernel, rfl, by decide +kernel, by decide +kernel⟩
def sp_law (K : PySem.W.Frag) : Sp := fun vs H Q _ => ∃ a, ∃ ns : List Int, vs = [.ref a] ∧ SqL K H a (ns.map V.int) ∧ ns.length ≤ 63 ∧ ∀ H', Q (.bl true) H'
theorem ok_law {f fP fD fS fR fN fH fO fU fT fF fA fL : Addr} {fd fdP fdD fdS fdR fdN fdH fdO fdU fdT fdF fdA fdL fdG : FuncData} {mv : List Value} (F : Fun K "law" "law" s_law f fd) (T : ClsT K mg C fI mc p g) (U : ClsE K C fQ) (R_teq : FnR P w K mg base CX0 1 fQ (fun vs H Q E => sp_teq C (vs ++ []) H Q E))
    (FI : FnK P w K mg base (L2.CX P w) 3 fI kwN (mK K C CI)) (FI1 : FnK P w K mg base (L2.CX P w) 3 fI ["key"] (mK1 K C CI e3 e4)) (FI2 : FnK P w K mg base (L2.CX P w) 3 fI ["key", "reuse"] (mK2 K C CI e3 e4)) (he3 : ∀ H, TuS K H e3 []) (he4 : ∀ H, TuS K H e4 []) (he1 : ∀ H, TuS K H e1 []) (he2 : ∀ H, TuS K H e2 [])
    (G_of : FnOk P w K mg base (L2.CX P w) 5 g fdG ["cls", "columns", "key", "fixed", "unique", "reuse"] (sp_tof K C CI)) (hb_of1 : KBn K fdG ["cls", "columns", "key", "fixed", "unique", "reuse"] 2 ["key"] (fun us ws => us ++ ws ++ mv) (fun vs zs => vs ++ zs ++ [V.ref e1, .ref e2, .bl true]))
    (F_pen : Fun K "_law_pen" "_law_pen" s_pen fP fdP) (B_pen : Binds K fdP ["_law_script"] []) (g_pen : mg "_law_pen" = some (.ref fP)) (G_pen : FnOk P w K mg base CX0 1 fP fdP ["_law_script"] (sp_pen K))
    (F_draw : Fun K "_law_draw" "_law_draw" s_draw fD fdD) (B_draw : Binds K fdD ["_law_pen_here", "_law_many"] []) (g_draw : mg "_law_draw" = some (.ref fD)) (G_draw : FnOk P w K mg base CX0 1 fD fdD ["_law_pen_here", "_law_many"] sp_draw)
    (F_columns : Fun K "_law_columns" "_law_columns" s_columns fR fdR) (B_columns : Binds K fdR ["_law_pen_here"] []) (g_columns : mg "_law_columns" = some (.ref fR)) (G_columns : FnOk P w K mg base CX0 2 fR fdR ["_law_pen_here"] sp_columns)
    (F_Lis_name : Fun K "_law_is_name" "_law_is_name" s_Lis_name fN fdN) (B_Lis_name : Binds K fdN ["_law_thing"] []) (g_Lis_name : mg "_law_is_name" = some (.ref fN)) (G_Lis_name : FnOk P w K mg base CX0 1 fN fdN ["_law_thing"] (sp_is_name K))
    (F_part : Fun K "_law_part" "_law_part" s_part fS fdS) (B_part : Binds K fdS ["_law_pen_here", "_law_names", "_law_most"] []) (g_part : mg "_law_part" = some (.ref fS)) (G_part : FnOk P w K mg base CX0 3 fS fdS ["_law_pen_here", "_law_names", "_law_most"] sp_part)
    (F_heard : Fun K "_law_heard" "_law_heard" s_heard fH fdH) (B_heard : Binds K fdH ["_law_columns_here", "_law_keyed", "_law_firm", "_law_lone", "_law_anew"] []) (g_heard : mg "_law_heard" = some (.ref fH)) (G_heard : FnOk P w K mg base CX0 7 fH fdH ["_law_columns_here", "_law_keyed", "_law_firm", "_law_lone", "_law_anew"] (sp_heard C))
    (F_heard_of : Fun K "_law_heard_of" "_law_heard_of" s_heard_of fO fdO) (B_heard_of : Binds K fdO ["_law_columns_here", "_law_keyed", "_law_firm", "_law_lone"] []) (g_heard_of : mg "_law_heard_of" = some (.ref fO)) (G_heard_of : FnOk P w K mg base CX0 7 fO fdO ["_law_columns_here", "_law_keyed", "_law_firm", "_law_lone"] sp_heard_of)
    (F_due : Fun K "_law_due" "_law_due" s_due fU fdU) (B_due : Binds K fdU ["_law_columns_here", "_law_keyed", "_law_firm", "_law_lone"] []) (g_due : mg "_law_due" = some (.ref fU)) (G_due : FnOk P w K mg base CX0 2 fU fdU ["_law_columns_here", "_law_keyed", "_law_firm", "_law_lone"] sp_due)
    (F_told : Fun K "_law_told" "_law_told" s_told fT fdT) (B_told : Binds K fdT ["_law_columns_here", "_law_keyed", "_law_firm", "_law_lone", "_law_anew"] []) (g_told : mg "_law_told" = some (.ref fT)) (G_told : FnOk P w K mg base CX0 1 fT fdT ["_law_columns_here", "_law_keyed", "_law_firm", "_law_lone", "_law_anew"] sp_told)
    (F_face : Fun K "_law_face" "_law_face" s_face fF fdF) (B_face : Binds K fdF ["_law_made"] []) (g_face : mg "_law_face" = some (.ref fF)) (G_face : FnG P w K mg base CX0 1 fF fdF ["_law_made"] (sp_face C))
    (F_alike : Fun K "_law_alike" "_law_alike" s_alike fA fdA) (B_alike : Binds K fdA ["_law_one", "_law_other", "_law_due_here"] []) (g_alike : mg "_law_alike" = some (.ref fA)) (G_alike : FnOk P w K mg base CX0 4 fA fdA ["_law_one", "_law_other", "_law_due_here"] (sp_alike C))
    (F_listed_right : Fun K "_law_listed_right" "_law_listed_right" s_listed_right fL fdL) (B_listed_right : Binds K fdL ["_law_made", "_law_columns_here", "_law_keyed", "_law_firm", "_law_lone", "_law_anew"] []) (g_listed_right : mg "_law_listed_right" = some (.ref fL)) (G_listed_right : FnOk P w K mg base CX0 6 fL fdL ["_law_made", "_law_columns_here", "_law_keyed", "_law_firm", "_law_lone", "_law_anew"] (sp_listed C))
    (z_range : mg "range" = none) (z_int : mg "int" = none) (z_repr : mg "repr" = none) (z_tuple : mg "tuple" = none) : FnG P w K mg base CX0 9 f fd ["_law_script"] (sp_law K) := by
  refine F.okG sc_law (fun vs H Q E h => ?_) (fun cdv A gG outer s H vs Q E hr h => ?_)
  · obtain ⟨a, ns, rfl, _⟩ := h
    rfl
  · obtain ⟨a, ns, rfl, ha, hz, q⟩ := h
    refine ⟨_, (pss_cons (ps_set (i := 1) sc_law.nd rfl (Or.inl rfl) (pe_call G_pen (hr.mono (by decide)) rfl g_pen F_pen.kp B_pen .nil pass0 (pa_cons (pv 0) pa_nil)))
 (pss_cons (ps_set (i := 2) sc_law.nd rfl (Or.inl rfl) (pe_lst pa_nil))
 (pss_cons (ps_for PassesOwn.never rfl (pi_range1 (by rfl) z_range (pa_cons pe_int pa_nil)) (pg_name (i := 3) sc_law.nd rfl (Or.inl rfl))
 (pss_cons (ps_set (i := 4) sc_law.nd rfl (Or.inl rfl) (pe_call G_columns (hr.mono (by decide)) rfl g_columns F_columns.kp B_columns .nil pass0 (pa_cons (pv 1) pa_nil)))
 (pss_cons (ps_setLc (i := 5) (own := [("_law_one", 15)]) (g := gName 15) rfl sc_law.nd rfl rfl (sw_true rfl rfl rfl (by decide +kernel)) (pi_list (pv 4)) (blkOk_by (own := [("_law_one", 15)]) (N := ["_law_script", "_law_pen_here", "_law_kept", "_law_turn", "_law_columns_here", "_law_names", "_law_keyed", "_law_others", "_law_firm", "_law_lone", "_law_anew", "_law_made", "_law_due_here", "_law_told_here", "_law_again", "_law_one", "_law_mine", "_law_other", "_law_yours", "_law_plain"]) (sc := defScope s_law) (by decide +kernel)) (fun _ _ _ _ _ => pg_name (i := 15) sc_law.nd rfl (Or.inl rfl)) (fun _ _ _ _ _ => pts_one (pt_val (pe_call G_Lis_name (hr.mono (by decide)) rfl g_Lis_name F_Lis_name.kp B_Lis_name .nil pass0 (pa_cons (pv 15) pa_nil)))) (fun _ _ _ _ _ => (pv 15)))
 (pss_cons (ps_set (i := 6) sc_law.nd rfl (Or.inr rfl) (pe_call G_part (hr.mono (by decide)) rfl g_part F_part.kp B_part .nil pass0 (pa_cons (pv 1) (pa_cons (pv 5) (pa_cons (pe_op op_add pe_int (pe_callTy call_int1 (by rfl) z_int (by decide +kernel) (pa_cons (pe_cmpR op_eq (pe_call G_draw (hr.mono (by decide)) rfl g_draw F_draw.kp B_draw .nil pass0 (pa_cons (pv 1) (pa_cons pe_int pa_nil))) pe_int (nomark _)) pa_nil))) pa_nil)))))
 (pss_cons (ps_setLc (i := 7) (own := [("_law_one", 15)]) (g := gName 15) rfl sc_law.nd rfl rfl (sw_true rfl rfl rfl (by decide +kernel)) (pi_list (pv 5)) (blkOk_by (own := [("_law_one", 15)]) (N := ["_law_script", "_law_pen_here", "_law_kept", "_law_turn", "_law_columns_here", "_law_names", "_law_keyed", "_law_others", "_law_firm", "_law_lone", "_law_anew", "_law_made", "_law_due_here", "_law_told_here", "_law_again", "_law_one", "_law_mine", "_law_other", "_law_yours", "_law_plain"]) (sc := defScope s_law) (by decide +kernel)) (fun _ _ _ _ _ => pg_name (i := 15) sc_law.nd rfl (Or.inl rfl)) (fun _ _ _ _ _ => pts_one (pt_cmpR (op_notInK (K := K) rfl) (pv 15) (pv 6) (by rfl))) (fun _ _ _ _ _ => (pv 15)))
 (C8.pss_cut (ps_if (pt_cmpR op_eq (pe_call G_draw (hr.mono (by decide)) rfl g_draw F_draw.kp B_draw .nil pass0 (pa_cons (pv 1) (pa_cons pe_int pa_nil))) pe_int (nomark _))
 (pss_one (ps_set (i := 7) sc_law.nd rfl (Or.inl rfl) (pe_op op_cat (pv 7) (pe_slice sl_list (pv 5) po_none (po_some pe_int)))))
 pss_nil)
 (pss_cons (ps_par (i := 8) (j := 9) (by rfl) sc_law.nd rfl rfl (by decide) rfl rfl (pa_cons (pe_call G_part (hr.mono (by decide)) rfl g_part F_part.kp B_part .nil pass0 (pa_cons (pv 1) (pa_cons (pv 7) (pa_cons pe_int pa_nil)))) (pa_cons (pe_call G_part (hr.mono (by decide)) rfl g_part F_part.kp B_part .nil pass0 (pa_cons (pv 1) (pa_cons (pv 7) (pa_cons pe_int pa_nil)))) pa_nil)) (by rfl))
 (pss_cons (ps_set (i := 10) sc_law.nd rfl (Or.inl rfl) (pe_cmpR op_eq (pe_call G_draw (hr.mono (by decide)) rfl g_draw F_draw.kp B_draw .nil pass0 (pa_cons (pv 1) (pa_cons pe_int pa_nil))) pe_int (nomark _)))
 (pss_cons (ps_set (i := 11) sc_law.nd rfl (Or.inl rfl) (pe_call G_heard (hr.mono (by decide)) rfl g_heard F_heard.kp B_heard .nil pass0 (pa_cons (pv 4) (pa_cons (pv 6) (pa_cons (pv 8) (pa_cons (pv 9) (pa_cons (pv 10) pa_nil)))))))
 (pss_cons (ps_set (i := 12) sc_law.nd rfl (Or.inl rfl) (pe_call G_due (hr.mono (by decide)) rfl g_due F_due.kp B_due .nil pass0 (pa_cons (pv 4) (pa_cons (pv 6) (pa_cons (pv 8) (pa_cons (pv 9) pa_nil))))))
 (pss_cons (ps_if (pt_cmpR op_ne (pe_call G_heard_of (hr.mono (by decide)) rfl g_heard_of F_heard_of.kp B_heard_of .nil pass0 (pa_cons (pv 4) (pa_cons (pv 6) (pa_cons (pv 8) (pa_cons (pv 9) pa_nil))))) (pv 12) (nomark _))
 (pss_one (ps_ret pe_bl))
 pss_nil)
 (pss_one (ps_if (pt_cmpR op_notN (pv 12) pe_non (nomark _))
 (pss_one (ps_if (pt_cmpR op_ne (pv 11) (pv 12) (nomark _))
 (pss_one (ps_ret pe_bl))
 pss_nil))
 (pss_cons (ps_set (i := 13) sc_law.nd rfl (Or.inl rfl) (pe_call G_told (hr.mono (by decide)) rfl g_told F_told.kp B_told .nil pass0 (pa_cons (pv 4) (pa_cons (pv 6) (pa_cons (pv 8) (pa_cons (pv 9) (pa_cons (pv 10) pa_nil)))))))
 (pss_cons (ps_if (pt_cmpR op_ne (pe_callG G_face gG (hr.mono (by decide)) rfl g_face F_face.kp B_face .nil pass0 (pa_cons (pv 11) pa_nil)) (pe_callB (cr_reprD gG (room66 hr)) (by rfl) z_repr (by decide +kernel) (pa_cons (pv 13) pa_nil)) (nomark _))
 (pss_one (ps_ret pe_bl))
 pss_nil)
 (pss_cons (ps_set (i := 14) sc_law.nd rfl (Or.inl rfl) (pe_call G_heard (hr.mono (by decide)) rfl g_heard F_heard.kp B_heard .nil pass0 (pa_cons (pv 4) (pa_cons (pe_revT (pv 6)) (pa_cons (pe_revT (pv 8)) (pa_cons (pe_revT (pv 9)) (pa_cons (pv 10) pa_nil)))))))
 (pss_cons (ps_if (pt_not (pt_val (pe_call G_listed_right (hr.mono (by decide)) rfl g_listed_right F_listed_right.kp B_listed_right .nil pass0 (pa_cons (pv 11) (pa_cons (pv 4) (pa_cons (pv 6) (pa_cons (pv 8) (pa_cons (pv 9) (pa_cons (pv 10) pa_nil)))))))))
 (pss_one (ps_ret pe_bl))
 pss_nil)
 (pss_cons (ps_if (PW.pt (pw_or (pt_not (pt_val (pe_call G_alike (hr.mono (by decide)) rfl g_alike F_alike.kp B_alike .nil pass0 (pa_cons (pv 11) (pa_cons (pv 14) (pa_cons pe_bl pa_nil)))))) (pw_or1 (pt_not (pt_val (pe_call G_alike (hr.mono (by decide)) rfl g_alike F_alike.kp B_alike .nil pass0 (pa_cons (pv 11) (pa_cons (pe_callTy call_tuple_of (by rfl) z_tuple (by decide +kernel) (pa_cons (pv 4) pa_nil)) (pa_cons pe_bl pa_nil)))))))))
 (pss_one (ps_ret pe_bl))
 pss_nil)
 (pss_one (ps_expr (pe_bm PySem.F.plainAttrs_list PySem.F.slot_list_append PySem.F.type_list_append mt_append (pv 2) (pa_cons (pe_tup (pa_cons (pv 11) (pa_cons (pv 13) pa_nil))) pa_nil))))))))))))))))))))))
 (pss_cons (ps_for PassesOwn.never rfl (pi_list (pv 2)) (pg_tup (by rfl) (pgs_cons (pg_name (i := 15) sc_law.nd rfl (Or.inl rfl)) (pgs_cons (pg_name (i := 16) sc_law.nd rfl (Or.inl rfl)) pgs_nil)))
 (pss_one (ps_for PassesOwn.never rfl (pi_list (pv 2)) (pg_tup (by rfl) (pgs_cons (pg_name (i := 17) sc_law.nd rfl (Or.inl rfl)) (pgs_cons (pg_name (i := 18) sc_law.nd rfl (Or.inl rfl)) pgs_nil)))
 (pss_one (ps_if (pt_not (pt_val (pe_call G_alike (hr.mono (by decide)) rfl g_alike F_alike.kp B_alike .nil pass0 (pa_cons (pv 15) (pa_cons (pv 17) (pa_cons (pe_cmpR (op_eqD hr.units) (pv 16) (pv 18) (nomark _)) pa_nil))))))
 (pss_one (ps_ret pe_bl))
 pss_nil)))))
 (pss_cons (ps_set (i := 19) sc_law.nd rfl (Or.inl rfl) (pe_cmethK (pe_glob rfl T.g_C (relR _)) T.rd T.of G_of hb_of1 (hr.mono (by decide)) passF (pa_cons (pe_lst (pa_cons pe_str (pa_cons pe_str pa_nil))) pa_nil) (pk_cons (pe_tup (pa_cons pe_str pa_nil)) pk_nil)))
 (pss_cons (ps_if (PW.pt (pw_or (pt_cmpR (op_neO R_teq (hr.mono (by decide)) U.eq) (pv 19) (pe_makePK T.M FI (hr.mono (by decide)) rfl T.g_C passF (pa_cons pe_str (pa_cons pe_str pa_nil)) (pk_cons (pe_tup (pa_cons pe_str pa_nil)) (pk_cons (pe_tup pa_nil) (pk_cons (pe_tup pa_nil) (pk_cons pe_bl pk_nil))))) (nomark _)) (pw_or1 (pt_cmpR op_ne (ClX.pe_cval (pe_glob rfl T.g_C (relR _)) rfl) pe_int (nomark _)))))
 (pss_one (ps_ret pe_bl))
 pss_nil)
 (pss_one (ps_ret (pe_and (pe_cmpR (op_neO R_teq (hr.mono (by decide)) U.eq) (pv 19) (pe_makePK T.M FI2 (hr.mono (by decide)) rfl T.g_C passF (pa_cons pe_str (pa_cons pe_str pa_nil)) (pk_cons (pe_tup (pa_cons pe_str pa_nil)) (pk_cons pe_bl pk_nil))) (nomark _)) (pe_one (pe_cmpR (op_neO R_teq (hr.mono (by decide)) U.eq) (pv 19) (pe_makePK T.M FI1 (hr.mono (by decide)) rfl T.g_C passF (pa_cons pe_str (pa_cons pe_str pa_nil)) (pk_cons (pe_tup (pa_cons pe_str pa_nil)) pk_nil)) (nomark _)))))))))))), ?_⟩
    walk_at "rd"
    refine ⟨a, ns, rfl, ha, hz, fun p L H1 s1 p1 => ?_⟩
    walk_at "rd"
    refine ⟨Nat.zero_le _, fun kl hkl => ?_⟩
    obtain ⟨pk, Lk⟩ := pen_ne p1 hkl
    obtain ⟨H2, ee2, s2, h2⟩ := new_heap (o := .lst []) hkl
    rw [ee2]
    walk_at "rd"
    refine ⟨by decide, by decide, for_range (lo := 0) (n := 12) (LInv C a p L kl) ⟨_, _, _, _, _, _, _, _, _, _, _, _, [], rfl, (p1.up s2).mono (by omega), ⟨[], h2, .nil, fun v hv => absurd hv List.not_mem_nil⟩, Nat.le_refl _⟩ ?_ ?_⟩
    · rintro i σ H3 hi ⟨x3, x4, x5, x6, x7, x8, x9, x10, x11, x12, x13, x14, ts, rfl, p3, kp3, tz⟩
      walk_at "rd"
      refine ⟨p, L, _, rfl, p3, by omega, fun l H4 xs k4 p4 co4 => ?_⟩
      have kp4 := kp3.keep k4
      clear kp3 p3 k4
      walk_at "rd"
      unfold tLc
      walk_at "rd"
      refine ⟨l, rfl, ⟨_, SqL.of co4.at_⟩, fun D hD => ?_⟩
      obtain ⟨H5, e5, s5, h5⟩ := new_heap (o := .lst []) hD
      refine lc_list (K := K) (a := l) (xs := xs) (fun j H' => Same H4 H' ∧ H' D = some (.lst (goods (xs.take j)))) ⟨by rw [e5]; exact s5, by rw [e5]; exact h5⟩ ?_ ?_ ?_
      · rintro j H' _ ⟨s6, _⟩
        exact SqL.of (s6 _ _ co4.at_)
      · rintro j y H6 hy ⟨s6, h6⟩
        have sn := goods_snoc hy
        have cy := ((co4.col y (List.mem_of_getElem? hy)).keep (Same.keep s6)).nm (K := K)
        walk_at "rd"
        refine ⟨rfl, ?_⟩
        walk_at "rd"
        refine ⟨y, _, rfl, cy, fun H7 s7 => ?_⟩
        have s47 : Same H4 H7 := fun b o z => s7 _ _ (s6 _ _ z)
        walk_at "rd"
        cases hb : colB y with
        | true =>
          rw [hb] at sn
          refine iteT ?_
          walk_at "rd"
          refine ⟨_, s7 _ _ h6, size_lt (Nat.le_trans (List.length_filter_le ..) (by rw [List.length_take]; have := co4.z; omega)), Same.mut s47 hD, ?_⟩
          rw [upd_same, sn]
          rfl
        | false =>
          rw [hb] at sn
          refine iteF ?_
          exact ⟨s47, by rw [sn]; exact s7 _ _ h6⟩
      rintro H6 ⟨s6, h6⟩
      rw [List.take_length] at h6
      obtain ⟨nm, eg, ntx⟩ := goods_str co4.col
      have nz : nm.length ≤ 5 := by
        have a1 : (goods xs).length ≤ xs.length := List.length_filter_le ..
        have a2 := co4.z
        rw [eg, List.length_map] at a1
        omega
      rw [eg] at h6
      have co6 := co4.keep (Same.keep s6)
      have kp6 := kp4.up s6
      have p6 := p4.up s6
      clear kp4 p4 co4 h5 e5 s5 s6
      walk_at "rd"
      refine ⟨p, L, _, 4, rfl, p6, by omega, by decide, by decide, fun d H7 d0 d1 k7 p7 => ?_⟩
      have h7 := k7 _ _ (penny_strs nm) h6
      have co7 := co6.keep k7
      have kp7 := kp6.keep k7
      clear kp6 p6 co6 k7 h6
      walk_at "rd"
      refine ⟨p, L, _, D, nm, _, rfl, p7, by omega, h7, by omega, ntx, by split <;> omega, by split <;> omega, fun tk H8 ks k8 p8 hk8 kx kz => ?_⟩
      have p8 : Pen H8 p L (40 * i + 15) := p8.mono (by split <;> omega)
      have h8 := k8 _ _ (penny_strs nm) h7
      have co8 := co7.keep k8
      have kp8 := kp7.keep k8
      clear kp7 p7 co7 k8 h7 d0 d1
      walk_at "rd"
      refine ⟨D, rfl, ⟨_, SqL.of h8⟩, fun D2 hD2 => ?_⟩
      obtain ⟨H9, e9, s9, h9⟩ := new_heap (o := .lst []) hD2
      refine lc_list (K := K) (a := D) (xs := nm.map V.str) (fun j H' => Same H8 H' ∧ H' D2 = some (.lst ((othersOf (nm.take j) ks).map V.str))) ⟨by rw [e9]; exact s9, by rw [e9]; exact h9⟩ ?_ ?_ ?_
      · rintro j H' _ ⟨s6, _⟩
        exact SqL.of (s6 _ _ h8)
      · rintro j y H6 hy ⟨s6, h6⟩
        obtain ⟨c, hc, rfl⟩ := str_at hy
        have sn := others_snoc (ks := ks) hc
        walk_at "rd"
        refine ⟨rfl, ?_⟩
        walk_at "rd"
        refine notIn_at (.inr (SqT.of (s6 _ _ hk8))) ⟨_, rfl, ?_⟩
        refine ite_nd (fun hm => ?_) (fun hm => ?_)
        · rw [if_neg hm] at sn
          walk_at "rd"
          refine ⟨_, h6, size_lt (by rw [List.length_map]; refine Nat.le_trans (List.length_filter_le ..) ?_; rw [List.length_take]; omega), Same.mut s6 hD2, ?_⟩
          rw [upd_same, sn, List.map_append]
          rfl
        · rw [if_pos hm] at sn
          exact ⟨s6, by rw [sn]; exact h6⟩
      rintro H10 ⟨s10, h10⟩
      rw [List.length_map, List.take_length] at h10
      have oz : (othersOf nm ks).length ≤ 5 := Nat.le_trans (List.length_filter_le ..) nz
      have otx : TxsOk (othersOf nm ks) := fun c hc => ntx c (List.mem_filter.mp hc).1
      have co10 := co8.keep (Same.keep s10)
      have kp10 := kp8.up s10
      have p10 := p8.up s10
      have hk10 := s10 _ _ hk8
      have hD10 := s10 _ _ h8
      clear kp8 p8 co8 h9 e9 s9 s10 hk8 h8
      walk_at "rd"
      refine ⟨fun σ' H' => ∃ (O : Addr) (os : List Str), σ' = [some (.ref a), some (.ref p), some (.ref kl), some (.int (0 + (i : Int))), some (.ref l), some (.ref D), some (.ref tk), some (.ref O), x8, x9, x10, x11, x12, x13, x14, none, none, none, none, none] ∧ Cols H' l xs ∧ Kept C H' kl ts ∧ Pen H' p L (40 * i + 16) ∧ H' tk = some (.tup (ks.map V.str)) ∧ H' O = some (.lst (os.map V.str)) ∧ os.length ≤ 6 ∧ TxsOk os, ?_, ?_⟩
      · walk_at "rd"
        refine ⟨p, L, _, 12, rfl, p10, by omega, by decide, by decide, fun d H11 d0 d1 k11 p11 => ?_⟩
        have p11 : Pen H11 p L (40 * i + 16) := p11.mono (by omega)
        have h11 := k11 _ _ (penny_strs _) h10
        have hD11 := k11 _ _ (penny_strs _) hD10
        have co11 := co10.keep k11
        have kp11 := kp10.keep k11
        have hk11 := k11 _ _ rfl hk10
        walk_at "rd"
        refine ite_d (fun hd0 => ?_) (fun hd0 => ?_)
        · walk_at "rd"
          refine i_sl ?_
          walk_at "rd"
          refine i_noPart (i_part ?_)
          walk_at "rd"
          refine ⟨1, rfl, D, _, rfl, SqL.of hD11, fun t hq => ?_⟩
          obtain ⟨H12, e12, s12, h12⟩ := new_heap (o := .lst ((nm.take 1).map V.str)) hq
          rw [cut_one, ← List.map_take, e12]
          refine ⟨D2, t, _, _, rfl, rfl, s12 _ _ h11, h12, size_of (by simp only [List.length_map, List.length_take]; omega), fun O hO => ?_⟩
          obtain ⟨H13, e13, s13, h13⟩ := new_heap (o := .lst ((othersOf nm ks ++ nm.take 1).map V.str)) hO
          rw [← List.map_append, e13]
          have s1113 : Same H11 H13 := fun b o z => s13 _ _ (s12 _ _ z)
          walk_at "rd"
          exact ⟨O, othersOf nm ks ++ nm.take 1, rfl, co11.keep (Same.keep s1113), kp11.up s1113, p11.up s1113, s1113 _ _ hk11, h13, by rw [List.length_append, List.length_take]; omega, fun c hc => (List.mem_append.mp hc).elim (fun z => otx c z) fun z => ntx c (List.mem_of_mem_take z)⟩
        · walk_at "rd"
          exact ⟨D2, othersOf nm ks, rfl, co11, kp11, p11, hk11, h11, by omega, otx⟩
      · rintro σ H12 ⟨O, os, rfl, co12, kp12, p12, hk12, hO12, oz, otx⟩
        walk_at "rd"
        refine ⟨p, L, _, O, os, 2, rfl, p12, by omega, hO12, by omega, otx, by decide, by decide, fun tf H13 fs k13 p13 hf13 fx fz => ?_⟩
        have p13 : Pen H13 p L (40 * i + 20) := p13.mono (by show 40 * i + 16 + 2 + 2 ≤ _; omega)
        have hO13 := k13 _ _ (penny_strs os) hO12
        walk_at "rd"
        refine ⟨p, L, _, O, os, 2, rfl, p13, by omega, hO13, by omega, otx, by decide, by decide, fun tu H14 us k14 p14 hu14 ux uz => ?_⟩
        have p14 : Pen H14 p L (40 * i + 24) := p14.mono (by show 40 * i + 20 + 2 + 2 ≤ _; omega)
        walk_at "rd"
        refine ⟨_, _, rfl, ?_⟩
        walk_at "rd"
        refine ⟨p, L, _, 2, rfl, p14, by omega, by decide, by decide, fun d H15 d0 d1 k15 p15 => ?_⟩
        have k1215 := (k13.trans k14).trans k15
        have p15 : Pen H15 p L (40 * i + 25) := p15.mono (by omega)
        have kp15 := kp12.keep k1215
        have dr : Drawn H15 l tk tf tu xs ks fs us := ⟨co12.keep k1215, k1215 _ _ rfl hk12, k15 _ _ rfl (k14 _ _ rfl hf13), k15 _ _ rfl hu14, kz, fz, uz, kx, fx, ux⟩
        clear kp12 co12 p12 p13 p14 hO12 hO13 hk12 hf13 hu14 k13 k14 k15 k1215
        walk_at "rd"
        generalize decide (V.int d = V.int 0) = r
        refine ⟨l, tk, tf, tu, xs, ks, fs, us, r, rfl, dr, fun rs H16 s16 due => ?_, fun cs x H16 s16 due exs tb => ?_⟩
        · walk_at "rd"
          have dr16 := dr.up s16
          refine ⟨l, tk, tf, tu, xs, ks, fs, us, rfl, dr16, fun H17 s17 => ?_⟩
          rw [due]
          walk_at "rd"
          refine ⟨l, tk, tf, tu, xs, ks, fs, us, rfl, dr16.up s17, fun H18 s18 => ?_⟩
          rw [due]
          walk_at "rd"
          rw [decide_eq_true (show dueV (some rs) = dueV (some rs) from rfl)]
          refine iteF ?_
          walk_at "rd"
          refine iteT ?_
          walk_at "rd"
          rw [decide_eq_true (show V.str rs = dueV (some rs) from rfl)]
          refine iteF ?_
          have s1518 : Same H15 H18 := fun b o z => s18 _ _ (s17 _ _ (s16 _ _ z))
          exact i_next ⟨_, _, _, _, _, _, _, _, _, _, _, _, ts, rfl, (p15.up s1518).mono (by omega), kp15.up s1518, by omega⟩
        · subst exs
          have few := few_of dr.co
          have sm : Small (made cs ks fs us r) := few.small
          have dr16 := dr.up s16
          walk_at "rd"
          refine ⟨l, tk, tf, tu, _, ks, fs, us, rfl, dr16, fun H17 s17 => ?_⟩
          rw [due]
          walk_at "rd"
          have dr17 := dr16.up s17
          refine ⟨l, tk, tf, tu, _, ks, fs, us, rfl, dr17, fun H18 s18 => ?_⟩
          rw [due]
          walk_at "rd"
          rw [decide_eq_true (show dueV none = dueV none from rfl)]
          refine iteF ?_
          walk_at "rd"
          refine iteF ?_
          walk_at "rd"
          have dr18 := dr17.up s18
          refine ⟨l, tk, tf, tu, cs, ks, fs, us, r, rfl, dr18, fun o H19 s19 to => ?_⟩
          walk_at "rd"
          have tb19 : Tab C H19 x (made cs ks fs us r) := tb.keep (Same.keep fun b u z => s19 _ _ (s18 _ _ (s17 _ _ z)))
          refine ⟨x, _, rfl, tb19, sm, fun H20 s20 => ?_⟩
          walk_at "rd"
          have to20 := to.keep (Same.keep s20)
          refine i_reprT (t := made cs ks fs us r) to20.dp sm ?_
          refine ⟨rfl, ?_⟩
          rw [decide_eq_true rfl]
          refine ⟨false, rfl, iteF ?_⟩
          have dr20 := (dr18.up s19).up s20
          have tb20 := tb19.keep (Same.keep s20)
          have s1520 : Same H15 H20 := fun b u z => s20 _ _ (s19 _ _ (s18 _ _ (s17 _ _ (s16 _ _ z))))
          have kp20 := kp15.up s1520
          have p20 := p15.up s1520
          clear to tb tb19 dr dr16 dr17 dr18 s16 s17 s18 s19 s20 s1520 kp15 p15
          walk_at "rd"
          refine rev_at dr20.k (fun R z => i_var rfl z) fun t1 H21 s21 h21 => ?_
          walk_at "rd"
          have dr21 := dr20.up s21
          refine rev_at dr21.f (fun R z => i_var rfl z) fun t2 H22 s22 h22 => ?_
          walk_at "rd"
          have dr22 := dr21.up s22
          refine rev_at dr22.u (fun R z => i_var rfl z) fun t3 H23 s23 h23 => ?_
          walk_at "rd"
          have dr23 := dr22.up s23
          have drr : Drawn H23 l t1 t2 t3 (cs.map V.str) ks.reverse fs.reverse us.reverse := ⟨dr23.co, s23 _ _ (s22 _ _ h21), s23 _ _ h22, h23, by rw [List.length_reverse]; exact kz, by rw [List.length_reverse]; exact fz, by rw [List.length_reverse]; exact uz, fun c hc => kx c (List.mem_reverse.mp hc), fun c hc => fx c (List.mem_reverse.mp hc), fun c hc => ux c (List.mem_reverse.mp hc)⟩
          refine ⟨l, t1, t2, t3, _, ks.reverse, fs.reverse, us.reverse, r, rfl, drr, fun rs H24 s24 due2 => ?_, fun cs2 y H24 s24 due2 exs tby => ?_⟩
          · rw [due_rev, due] at due2
            cases due2
          have ecs : cs = cs2 := (List.map_inj_right (f := V.str) (fun a b z => V.str.inj z)).mp exs
          subst ecs
          rw [made_rev] at tby
          have s2024 : Same H20 H24 := fun b u z => s24 _ _ (s23 _ _ (s22 _ _ (s21 _ _ z)))
          have dr24 := dr20.up s2024
          have tb24 := tb20.keep (Same.keep s2024)
          have to24 := to20.keep (Same.keep s2024)
          have kp24 := kp20.up s2024
          have p24 := p20.up s2024
          clear drr dr20 dr21 dr22 dr23 tb20 to20 kp20 p20 s21 s22 s23 s24 s2024 h21 h22 h23 due2
          walk_at "rd"
          refine ⟨x, l, tk, tf, tu, cs, ks, fs, us, r, rfl, tb24, dr24, due, due_ne due, fun H25 s25 => ?_⟩
          walk_at "rd"
          refine iteF ?_
          walk_at "rd"
          have tb25 := tb24.keep (Same.keep s25)
          have ty25 := tby.keep (Same.keep s25)
          refine ⟨x, .ref y, _, true, true, rfl, tb25, sm.fits, .inl ⟨y, _, rfl, ty25, sm.fits, by rw [decide_eq_true rfl]⟩, fun H26 s26 => ?_⟩
          walk_at "rd"
          refine iteF ?_
          walk_at "rd"
          have s2426 : Same H24 H26 := fun b u z => s26 _ _ (s25 _ _ z)
          have dr26 := dr24.up s2426
          refine ⟨l, _, rfl, .inl ⟨SqL.of dr26.co.at_, fun t4 ht4 => ?_⟩⟩
          obtain ⟨H27, e27, s27, h27⟩ := new_heap (o := .tup (cs.map V.str)) ht4
          rw [e27]
          walk_at "rd"
          have tb27 := tb24.keep (Same.keep fun b u z => s27 _ _ (s2426 _ _ z))
          refine ⟨x, .ref t4, _, false, false, rfl, tb27, sm.fits, .inr ⟨"tuple", .tup h27, rfl⟩, fun H28 s28 => ?_⟩
          walk_at "rd"
          refine iteF ?_
          have s2428 : Same H24 H28 := fun b u z => s28 _ _ (s27 _ _ (s2426 _ _ z))
          have tb28 := tb24.keep (Same.keep s2428)
          have to28 := to24.keep (Same.keep s2428)
          have kp28 := kp24.up s2428
          have p28 := p24.up s2428
          clear tb24 to24 kp24 p24 tb25 ty25 tb27 dr24 dr26 tby s25 s26 s27 s28 s2426 s2428 h27 e27 ht4
          obtain ⟨vs, hk28, _, vall⟩ := id kp28
          have okl : o ≠ kl := by
            rintro rfl
            obtain ⟨vs', ho, _⟩ := to28
            have e : vs = vs' ++ [.bl r] := HO.lst.inj (Option.some.inj (hk28.symm.trans ho))
            obtain ⟨_, _, _, z, _⟩ := vall (.bl r) (by rw [e]; simp)
            cases z
          have vz : vs.length ≤ 12 := by
            obtain ⟨vs', h1, h2, _⟩ := id kp28
            have e : vs' = vs := HO.lst.inj (Option.some.inj (h1.symm.trans hk28))
            subst e
            have := Paired.length h2
            omega
          walk_at "rd"
          refine i_tyL hk28 ?_
          walk_at "rd"
          refine ⟨size_of (Nat.le_of_ble_eq_true rfl), fun qq hqq => ?_⟩
          obtain ⟨H29, e29, s29, h29⟩ := new_heap (o := .tup [.ref x, .ref o]) hqq
          rw [e29]
          have hk29 := s29 _ _ hk28
          walk_at "rd"
          refine i_app hk29 (by omega) ?_
          refine ⟨_, _, _, _, _, _, _, _, _, _, _, _, ts ++ [made cs ks fs us r], rfl, (pen_off (p28.up s29) pk Lk).mono (by omega), (kp28.up s29).snoc hk29 h29 (tb28.keep (Same.keep s29)) (to28.keep (Same.keep s29)) sm okl, by rw [List.length_append]; simp; omega⟩
    · rintro σ H3 ⟨x3, x4, x5, x6, x7, x8, x9, x10, x11, x12, x13, x14, ts, rfl, p3, kp3, tz⟩
      walk_at "rd"
      obtain ⟨vs, hk, pr, vall⟩ := id kp3
      have fin : ∀ (i : Nat) (v : V) (H' : Hp), Same H3 H' → vs[i]? = some v → ∃ t q x o, ts[i]? = some t ∧ v = .ref q ∧ H' q = some (.tup [.ref x, .ref o]) ∧ Tab C H' x t ∧ TellsAt H' o t ∧ Small t := fun i v H' s hv => by
        obtain ⟨t, ht, q, x, o, e, g1, g2, g3, g4⟩ := pair_at pr hv
        exact ⟨t, q, x, o, ht, e, s _ _ g1, g2.keep (Same.keep s), g3.keep (Same.keep s), g4⟩
      refine ⟨kl, rfl, ⟨_, SqL.of hk⟩, for_list (K := K) (a := kl) (xs := vs) (fun i σ H' => ∃ x15 x16 x17 x18 : Option V, σ = [some (.ref a), some (.ref p), some (.ref kl), x3, x4, x5, x6, x7, x8, x9, x10, x11, x12, x13, x14, x15, x16, x17, x18, none] ∧ Same H3 H') ⟨_, _, _, _, rfl, Same.refl _⟩ ?_ ?_ ?_⟩
      · rintro i σ H' _ ⟨_, _, _, _, _, s⟩
        exact SqL.of (s _ _ hk)
      · rintro i y σ H4 hy ⟨x15, x16, x17, x18, rfl, s4⟩
        obtain ⟨t, q1, x1, o1, ht, rfl, g1, g2, g3, g4⟩ := fin i y H4 s4 hy
        refine i_gtup g1 rfl (i_gcons ?_)
        walk_at "rd"
        refine ⟨kl, rfl, ⟨_, SqL.of (s4 _ _ hk)⟩, for_list (K := K) (a := kl) (xs := vs) (fun i σ H' => ∃ x17 x18 : Option V, σ = [some (.ref a), some (.ref p), some (.ref kl), x3, x4, x5, x6, x7, x8, x9, x10, x11, x12, x13, x14, some (.ref x1), some (.ref o1), x17, x18, none] ∧ Same H3 H' ∧ Same H4 H') ⟨_, _, rfl, s4, Same.refl _⟩ ?_ ?_ ?_⟩
        · rintro j σ H' _ ⟨_, _, _, s, _⟩
          exact SqL.of (s _ _ hk)
        · rintro j y σ H5 hy ⟨x17, x18, rfl, s5, s45⟩
          obtain ⟨u, q2, x2, o2, hu, rfl, f1, f2, f3, f4⟩ := fin j y H5 s5 hy
          have g2' := g2.keep (Same.keep s45)
          have g3' := g3.keep (Same.keep s45)
          refine i_gtup f1 rfl (i_gcons ?_)
          walk_at "rd"
          refine ⟨_, _, g3'.dp, f3.dp, shaped_tell g4, shaped_tell f4, ?_⟩
          rw [eqv_tell]
          walk_at "rd"
          refine ⟨x1, .ref x2, t, decide (t = u), decide (t = u), rfl, g2', g4.fits, .inl ⟨x2, u, rfl, f2, f4.fits, rfl⟩, fun H6 s6 => ?_⟩
          rw [beq_self_eq_true]
          walk_at "rd"
          refine iteF ?_
          exact i_next ⟨_, _, rfl, fun b o z => s6 _ _ (s5 _ _ z), fun b o z => s6 _ _ (s45 _ _ z)⟩
        · rintro σ H5 ⟨x17, x18, rfl, s5, _⟩
          exact ⟨_, _, _, _, rfl, s5⟩
      · rintro σ H4 ⟨x15, x16, x17, x18, rfl, s4⟩
        clear kp3 hk pr vall fin
        walk_at "rd"
        refine i_cmK ?_
        walk_at "rd"
        refine ⟨size_of (Nat.le_of_ble_eq_true rfl), fun d hd => ?_⟩
        obtain ⟨H5, e5, s5, h5⟩ := new_heap (o := .lst [.str "k", .str "r"]) hd
        rw [e5]
        walk_at "rd"
        refine ⟨size_of (Nat.le_of_ble_eq_true rfl), fun tk hk => ?_⟩
        obtain ⟨H6, e6, s6, h6⟩ := new_heap (o := .tup [.str "k"]) hk
        rw [e6]
        walk_at "rd"
        refine ⟨rfl, rfl, d, tk, e1, e2, _, [true, true], ["k"], [], [], true, rfl, .inl (s6 _ _ h5), kr_given (TuS.of h6) (he1 _) (he2 _), fun rs due => ?_, fun cs due exs x H7 s7 tb => ?_⟩
        · rw [kr_due] at due
          cases due
        have ecs := kr_cs exs
        subst ecs
        clear h5 e5 s5 h6 e6 s6 hd hk
        walk_at "rd"
        refine i_mkpk ?_
        walk_at "rd"
        refine ⟨size_of (Nat.le_of_ble_eq_true rfl), fun t1 ht1 => ?_⟩
        obtain ⟨H8, e8, s8, h8⟩ := new_heap (o := .tup [.str "k"]) ht1
        rw [e8]
        walk_at "rd"
        refine ⟨Nat.zero_le _, fun t2 ht2 => ?_⟩
        obtain ⟨H9, e9, s9, h9⟩ := new_heap (o := .tup []) ht2
        rw [e9]
        walk_at "rd"
        refine ⟨Nat.zero_le _, fun t3 ht3 => ?_⟩
        obtain ⟨H10, e10, s10, h10⟩ := new_heap (o := .tup []) ht3
        rw [e10]
        walk_at "rd"
        refine ⟨rfl, fun x2 dx2 n1 n2 n3 => mk_tabR (js := [true, true]) (ks := ["k"]) (fs := []) (us := []) (kr_given (TuS.of (s10 _ _ (s9 _ _ h8))) (TuS.of (s10 _ _ h9)) (TuS.of h10)) kr_due n1 n2 n3 fun cs exs H11 s11 tb2 => ?_⟩
        have ecs := kr_cs exs
        subst ecs
        have s711 : Same H7 H11 := fun b o z => s11 _ _ (s10 _ _ (s9 _ _ (s8 _ _ z)))
        have tb11 : Tab C H11 x (krT true) := tb.keep (Same.keep s711)
        clear tb e8 e9 e10 s8 s9 s10 s11 h8 h9 h10 ht1 ht2 ht3 s711
        have ta : Tab C H11 x2 (krT true) := tb2
        obtain ⟨dx, _, _, _, _, hx, _⟩ := id tb11
        refine ⟨x, dx, _, _, rfl, hx, ta.ty T U, self_nf, x, _, krT true, _, rfl, tb11, kr_fits true, .inl ⟨x2, _, rfl, ta, kr_fits true, rfl⟩, _, rfl, ?_⟩
        rw [decide_eq_true (show krT true = krT true from rfl)]
        refine ⟨false, rfl, iteF ?_⟩
        walk_at "rd"
        obtain ⟨u4, hmost⟩ := T.most
        refine i_cval ?_
        walk_at "rd"
        refine ⟨C, mc, .int 4, u4, rfl, T.rd, hmost, ?_⟩
        walk_at "rd"
        refine iteF ?_
        walk_at "rd"
        refine i_mkpk ?_
        walk_at "rd"
        refine ⟨size_of (Nat.le_of_ble_eq_true rfl), fun t4 ht4 => ?_⟩
        obtain ⟨H12, e12, s12, h12⟩ := new_heap (o := .tup [.str "k"]) ht4
        rw [e12]
        walk_at "rd"
        refine ⟨rfl, fun x5 dx5 n1 n2 n3 => mk_tabR (js := [true, true]) (tk := t4) (tf := e3) (tu := e4) (r := false) (ks := ["k"]) (fs := []) (us := []) (kr_given (TuS.of h12) (he3 _) (he4 _)) kr_due n1 n2 n3 fun cs exs H13 s13 tb5 => ?_⟩
        have ecs := kr_cs exs
        subst ecs
        have tb13 : Tab C H13 x (krT true) := tb11.keep (Same.keep fun b o z => s13 _ _ (s12 _ _ z))
        have ta5 : Tab C H13 x5 (krT false) := tb5
        obtain ⟨dy, _, _, _, _, hy, _⟩ := id tb13
        refine ⟨x, dy, _, _, rfl, hy, ta5.ty T U, self_nf, x, _, krT true, _, rfl, tb13, kr_fits true, .inl ⟨x5, _, rfl, ta5, kr_fits false, rfl⟩, _, rfl, ?_⟩
        rw [decide_eq_false (show ¬ krT true = krT false from fun z => absurd (congrArg Tb.r z) (by decide))]
        refine ⟨true, rfl, iteT ?_⟩
        walk_at "rd"
        refine i_mkpk ?_
        walk_at "rd"
        refine ⟨size_of (Nat.le_of_ble_eq_true rfl), fun t6 ht6 => ?_⟩
        obtain ⟨H14, e14, s14, h14⟩ := new_heap (o := .tup [.str "k"]) ht6
        rw [e14]
        walk_at "rd"
        refine ⟨rfl, fun x6 dx6 n1 n2 n3 => mk_tabR (js := [true, true]) (tk := t6) (tf := e3) (tu := e4) (r := true) (ks := ["k"]) (fs := []) (us := []) (rk_given (TuS.of h14) (he3 _) (he4 _)) rk_due n1 n2 n3 fun cs exs H15 s15 tb6 => ?_⟩
        have ecs := rk_cs exs
        subst ecs
        have tb15 : Tab C H15 x (krT true) := tb13.keep (Same.keep fun b o z => s15 _ _ (s14 _ _ z))
        have ta6 : Tab C H15 x6 (rkT true) := tb6
        obtain ⟨dz, _, _, _, _, hz', _⟩ := id tb15
        refine ⟨x, dz, _, _, rfl, hz', ta6.ty T U, self_nf, x, _, krT true, _, rfl, tb15, kr_fits true, .inl ⟨x6, _, rfl, ta6, rk_fits true, rfl⟩, _, rfl, ?_⟩
        rw [decide_eq_false (show ¬ krT true = rkT true from fun z => absurd (congrArg Tb.cs z) (by decide))]
        exact q _
end
end Spk

set_option Elab.async false
set_option linter.all false
set_option maxRecDepth 100000
set_option maxHeartbeats 0
namespace Spk
open PySem L2
/-! ### what the top leaves -/
abbrev at1 (x : Str) : PySem.W.Frag → Addr := fun K => He.ga K x
abbrev atM (m : Str) : PySem.W.Frag → Addr := fun K => He.ma K (He.ga K "Table") m
abbrev atI (m : Str) : PySem.W.Frag → Addr := fun K => He.ma K (He.ga K "InvalidTable") m
abbrev atC (m : Str) : PySem.W.Frag → Addr := fun K => He5.wf K (He.ga K "Table") "classmethod" m
/-- where a keyword's value stands -/
def kwA (K : PySem.W.Frag) (f : Addr) (x : Str) : Addr := match K.lookup f with
  | some o => (match o.data with
    | .func fd => (match fd.kwdefaults with
      | .ref D => (match PySem.W.nsIn K D x with
        | some (some (.ref a)) => a
        | _ => 0)
      | _ => 0)
    | _ => 0)
  | none => 0
def kwa (x : Str) : PySem.W.Frag → Addr := fun K => kwA K (He5.wf K (He.ga K "Table") "classmethod" "of") x
def dfk (a : PySem.W.Frag → Addr) (x q : Str) (st : Stmt) : He5.DefA := ⟨a, x, q, defArgs st, defBody st, defScope st, [], [("fixed", .adr (kwa "fixed")), ("unique", .adr (kwa "unique")), ("reuse", .bl true)]⟩
def kwi (x : Str) : PySem.W.Frag → Addr := fun K => kwA K (He.ma K (He.ga K "Table") "__init__") x
def dfi (a : PySem.W.Frag → Addr) (x q : Str) (st : Stmt) : He5.DefA := ⟨a, x, q, defArgs st, defBody st, defScope st, [], [("fixed", .adr (kwi "fixed")), ("unique", .adr (kwi "unique")), ("reuse", .bl true)]⟩
def dfn (a : PySem.W.Frag → Addr) (x q : Str) (st : Stmt) : He5.DefA := ⟨a, x, q, defArgs st, defBody st, defScope st, [], []⟩
def defs : List He5.DefA := [dfn (at1 "is_name") "is_name" "is_name" s_is_name,
  dfn (at1 "are_names") "are_names" "are_names" s_are_names,
  dfn (at1 "sequence_of") "sequence_of" "sequence_of" s_sequence_of,
  dfn (at1 "are_chosen") "are_chosen" "are_chosen" s_are_chosen,
  dfn (at1 "in_order_of") "in_order_of" "in_order_of" s_in_order_of,
  dfn (at1 "_law_pen") "_law_pen" "_law_pen" s_pen,
  dfn (at1 "_law_draw") "_law_draw" "_law_draw" s_draw,
  dfn (at1 "_law_table") "_law_table" "_law_table" s_table,
  dfn (at1 "_law_some") "_law_some" "_law_some" s_some,
  dfn (at1 "_law_any_table") "_law_any_table" "_law_any_table" s_any_table,
  dfn (at1 "_law_columns") "_law_columns" "_law_columns" s_columns,
  dfn (at1 "_law_is_name") "_law_is_name" "_law_is_name" s_Lis_name,
  dfn (at1 "_law_once") "_law_once" "_law_once" s_once,
  dfn (at1 "_law_part") "_law_part" "_law_part" s_part,
  dfn (at1 "_law_due") "_law_due" "_law_due" s_due,
  dfn (at1 "_law_heard") "_law_heard" "_law_heard" s_heard,
  dfn (at1 "_law_heard_of") "_law_heard_of" "_law_heard_of" s_heard_of,
  dfn (at1 "_law_told") "_law_told" "_law_told" s_told,
  dfn (at1 "_law_alike") "_law_alike" "_law_alike" s_alike,
  dfn (at1 "_law_face") "_law_face" "_law_face" s_face,
  dfn (at1 "_law_listed_right") "_law_listed_right" "_law_listed_right" s_listed_right,
  dfn (at1 "law") "law" "law" s_law,
  dfi (atM "__init__") "__init__" "Table.__init__" s_Table__init,
  dfn (atM "__eq__") "__eq__" "Table.__eq__" s_Table__eq,
  dfn (atI "__init__") "__init__" "InvalidTable.__init__" s_InvalidTable__init,
  dfk (atC "of") "of" "Table.of" s_Table_of]
def names : List Str := ["is_name", "are_names", "sequence_of", "are_chosen", "in_order_of", "_law_pen", "_law_draw", "_law_table", "_law_some", "_law_any_table", "_law_columns", "_law_is_name", "_law_once", "_law_part", "_law_due", "_law_heard", "_law_heard_of", "_law_told", "_law_alike", "_law_face", "_law_listed_right", "law", "InvalidTable", "FeedError", "Table"]
def kits : List Str := ["abs", "all", "enumerate", "int", "isinstance", "len", "list", "range", "repr", "set", "str", "tuple"]
def plain : List He.Fa := names.map He.Fa.glo ++ (kits.map He.Fa.free ++ [.cls "Table", .noat "Table" "columns", .noat "Table" "key", .noat "Table" "fixed", .noat "Table" "unique", .noat "Table" "reuse", .mkr "Table", .meth "Table" "__eq__"])
def emptyB (K : PySem.W.Frag) (a : Addr) : Bool := match K.lookup a with
  | some o => o.cls == .type "tuple" && (match o.data with | .seq its _ => its.size == 0 | _ => false)
  | none => false
def mostB (K : PySem.W.Frag) (C : Addr) : Bool := match PySem.W.findCls K (.ref C) (.type "type") "MOST_COLUMNS" with
  | some (.val (.int i _)) => decide (i = 4)
  | _ => false
def six : List String := ["NoneType", "bool", "int", "str", "list", "tuple"]
/-- what else is told of the class -/
def eqB (K : PySem.W.Frag) (C : Addr) : Bool :=
  (decide (PySem.W.findIn K (.ref C) "__ne__" = some (some (.builtin "object.__ne__"))) && (decide (PySem.W.subIn K (.ref C) (.type "object") = some true) && ((six.all fun t => decide (PySem.W.subIn K (.ref C) (.type t) = some false)) &&
  ((six.all fun t => decide (PySem.W.kitOne K (.type t) (.ref C) = some false)) && ((six.all fun t => PySem.W.notFirst K C (.type t)) && (decide (PySem.W.findIn K (.ref C) "__class__" = some (some (.builtin "object.__class__"))) &&
  (decide (PySem.W.specialIn K (.builtin "object.__class__") "__get__" = some (some (.builtin "getset_descriptor.__get__"))) && (decide (PySem.W.takesIn K (.builtin "object.__class__") = some true) && (decide (PySem.W.mroIn K C (.type "object") = some true) &&
  decide (PySem.W.kitOne K (.ref C) (.ref C) = some true))))))))))
def excObjB (C : Addr) (o : Obj) : Bool := o.cls == .type "type" && (match o.data with
  | .cls c => (match c.mro with | r :: bm => r == .ref C && PySem.HandSPX.refsVE bm | [] => false) && (c.hasDict && !c.hasDel)
  | _ => false) && (match o.slots.toList with
  | [_, _, _, _, some (.builtin n), _] => n == "ValueError.__new__"
  | _ => false)
/-- what is told of the error -/
def errB (K : PySem.W.Frag) (C E : Addr) : Bool :=
  (match K.lookup C with | some o => excObjB C o | none => false) && (decide (PySem.W.findIn K (.ref C) "__setattr__" = some (some (.builtin "object.__setattr__"))) && (decide (PySem.W.subIn K (.ref C) (.type "BaseException") = some true) &&
  (decide (PySem.W.typeIn K (.ref C) = some (.type "type")) && (PySem.W.keepIn K (.ref C) && (decide (PySem.W.findIn K (.ref C) "__init__" = some (some (.ref (He.ma K C "__init__")))) && (decide (PySem.W.typeIn K (.ref (He.ma K C "__init__")) = some (.type "function")) &&
  (decide (PySem.W.findIn K (.ref C) "reason" = some none) && (xfB K C && ((PySem.W.clsIn K C).isSome && (decide (PySem.W.findIn K (.ref C) "__class__" = some (some (.builtin "object.__class__"))) && (decide (PySem.W.mroIn K C (.type "object") = some true) &&
  (decide (PySem.W.kitOne K (.ref C) (.ref C) = some true) && decide (PySem.W.exmOne K (.ref C) (.ref E) = some true)))))))))))))
/-- what else is told of the class -/
def moreB (K : PySem.W.Frag) (C : Addr) : Bool :=
  eqB K C && (errB K (He.ga K "InvalidTable") (He.ga K "FeedError") && (emptyB K (kwi "fixed" K) && (emptyB K (kwi "unique" K) && (
  PySem.W.readsIn K C (.type "type") && (decide (PySem.W.specialIn K (.ref C) "__getattribute__" = some (some (.builtin "type.__getattribute__"))) && (He5.wrapB K C "classmethod" "classmethod.__get__" "of" && (PySem.W.fnIn K (He5.wf K C "classmethod" "of") &&
  (mostB K C && (emptyB K (kwa "fixed" K) && emptyB K (kwa "unique" K))))))))))
abbrev Seen : Type := Bool × He.AlD
def seenAt (n : Nat) (g : Addr → Option Obj) : Seen := (moreB (He.frG g (He5.asA g n)) (He.ga (He.frG g (He5.asA g n)) "Table"), He5.obsA plain defs (He.frG g (He5.asA g n)))
def ToldX (K : PySem.W.Frag) : Prop := moreB K (He.ga K "Table") = true ∧ He5.SaysA plain defs K
def hook (n : Nat) : PySem.W.Hook where
  α := Seen
  obs := fun s => seenAt n s.heap.get?
  val := fun _ => (true, He5.valA defs)
  says := fun _ h => ∃ K : PySem.W.Frag, K.In h ∧ ToldX K
  of := fun _ _ e => ⟨_, He.frG_in, congrArg Prod.fst e, congrArg Prod.snd e⟩
  keeps := fun _ _ _ ⟨K, hK, c⟩ k => ⟨K, PySem.W.Frag.In.keeps hK k, c⟩
abbrev Rw : PySem.W.OpenRow := PySem.W.OpenLaw.row PySem.Challenge.rw_speaklast_k09_tables_and_their_columns
abbrev hk : PySem.W.Hook := hook 6
def obT (s : PySem.W.SharedT) : Seen := seenAt 6 (HandSHeadRun.getT s)
theorem obT_eq (s : PySem.W.SharedT) : obT s = hk.obs s.abs := by
  have e : HandSHeadRun.getT s = s.abs.heap.get? := funext (HandSHeadRun.getT_eq s)
  unfold obT
  rw [e]
  rfl
def loose : List Str := ["_wall", "FeedError", "InvalidTable", "is_name", "are_names", "sequence_of", "Table", "are_chosen", "in_order_of", "_law_pen", "_law_draw", "_law_table", "_law_some", "_law_any_table", "_law_columns", "_law_is_name", "_law_once", "_law_part", "_law_due", "_law_heard", "_law_heard_of", "_law_told", "_law_alike", "_law_face", "_law_listed_right"]
theorem runs (w : World) : HandSHeadRun.RunEq Rw (PySem.W.view Rw.prog [29]) hk obT 4000 loose w := by
  intro os
  kernel_rfl
end Spk

set_option Elab.async false
set_option linter.all false
set_option maxRecDepth 100000
set_option maxHeartbeats 1000000
namespace Spk
open PySem L2
/-! ### the facts by name -/
theorem ToldX.fa {K : PySem.W.Frag} (c : ToldX K) (i : Nat) {f : He.Fa} (h : plain[i]? = some f) : f.ok K = true := He5.SaysA.fact c.2 i h
theorem ToldX.fn {K : PySem.W.Frag} (c : ToldX K) (i : Nat) {a : PySem.W.Frag → Addr} {x q : Str} {st : Stmt} (h : defs[i]? = some (dfn a x q st)) : ∃ fd, Fun K x q st (a K) fd := by
  obtain ⟨fd, F⟩ := He5.SaysA.def_ c.2 i h
  exact ⟨fd, He5.fun_of F⟩
structure ClsQ (K : PySem.W.Frag) (C : Addr) : Prop where
  ne : PySem.W.findIn K (.ref C) "__ne__" = some (some (.builtin "object.__ne__"))
  ob : PySem.W.subIn K (.ref C) (.type "object") = some true
  sub : ∀ t, t ∈ six → PySem.W.subIn K (.ref C) (.type t) = some false
  kit : ∀ t, t ∈ six → PySem.W.kitOne K (.type t) (.ref C) = some false
  nf : ∀ t, t ∈ six → PySem.W.notFirst K C (.type t) = true
  cls : PySem.W.findIn K (.ref C) "__class__" = some (some (.builtin "object.__class__"))
  get : PySem.W.specialIn K (.builtin "object.__class__") "__get__" = some (some (.builtin "getset_descriptor.__get__"))
  tk : PySem.W.takesIn K (.builtin "object.__class__") = some true
  mro : PySem.W.mroIn K C (.type "object") = some true
  own : PySem.W.kitOne K (.ref C) (.ref C) = some true
theorem eq_ok {K : PySem.W.Frag} {C : Addr} (h : eqB K C = true) : ClsQ K C := by
  obtain ⟨h2, h⟩ := He.ba h
  obtain ⟨h3, h⟩ := He.ba h
  obtain ⟨h4, h⟩ := He.ba h
  obtain ⟨h5, h⟩ := He.ba h
  obtain ⟨h6, h⟩ := He.ba h
  obtain ⟨h7, h⟩ := He.ba h
  obtain ⟨h8, h⟩ := He.ba h
  obtain ⟨h9, h⟩ := He.ba h
  obtain ⟨h10, h11⟩ := He.ba h
  exact ⟨of_decide_eq_true h2, of_decide_eq_true h3, fun t z => of_decide_eq_true (List.all_eq_true.mp h4 t z), fun t z => of_decide_eq_true (List.all_eq_true.mp h5 t z), fun t z => List.all_eq_true.mp h6 t z, of_decide_eq_true h7, of_decide_eq_true h8, of_decide_eq_true h9, of_decide_eq_true h10, of_decide_eq_true h11⟩
theorem excObj_ok {C : Addr} {o : Obj} (h : excObjB C o = true) : ∃ nm q N bs bm sn sub ab col dd k0 k1 k2 k3 k5, o = excClassObj nm q C N bs bm true sn sub ab col dd k0 k1 k2 k3 k5 "ValueError.__new__" ∧ PySem.HandSPX.refsVE bm = true := by
  obtain ⟨oc, od, dt, sl⟩ := o
  unfold excObjB at h
  obtain ⟨h, h3⟩ := He.ba h
  obtain ⟨h1, h2⟩ := He.ba h
  have ec : oc = .type "type" := eq_of_beq h1
  subst ec
  dsimp only at h2 h3
  split at h2
  · rename_i c ed
    obtain ⟨c1, c2, c3, c4, c5, c6, c7, c8, c9, c10, c11⟩ := c
    obtain ⟨h4, h5⟩ := He.ba h2
    obtain ⟨h6, h7⟩ := He.ba h5
    dsimp only at h4 h6 h7
    split at h4
    · rename_i r bm
      obtain ⟨h8, h9⟩ := He.ba h4
      have er : r = .ref C := eq_of_beq h8
      split at h3
      · rename_i a0 a1 a2 a3 n a5 es
        have en : n = "ValueError.__new__" := eq_of_beq h3
        have e7 : c11 = false := by simpa using h7
        have esl : sl = #[a0, a1, a2, a3, some (.builtin n), a5] := by
          apply Array.toList_inj.mp
          exact es
        subst er en e7 esl h6
        exact ⟨c1, c5, c4, c2, bm, c7, c8, c9, c10, od, a0, a1, a2, a3, a5, rfl, h9⟩
      · cases h3
    · cases h4
  · cases h2
structure ClsR (K : PySem.W.Frag) (C E : Addr) : Prop where
  o : OexC K C
  iC : PySem.W.findIn K (.ref C) "__init__" = some (some (.ref (He.ma K C "__init__")))
  tI : PySem.W.typeIn K (.ref (He.ma K C "__init__")) = some (.type "function")
  noR : PySem.W.findIn K (.ref C) "reason" = some none
  xf : XfC K C
  is : (PySem.W.clsIn K C).isSome = true
  cls : PySem.W.findIn K (.ref C) "__class__" = some (some (.builtin "object.__class__"))
  mro : PySem.W.mroIn K C (.type "object") = some true
  kit : PySem.W.kitOne K (.ref C) (.ref C) = some true
  exm : PySem.W.exmOne K (.ref C) (.ref E) = some true
theorem err_ok {K : PySem.W.Frag} {C E : Addr} (h : errB K C E = true) : ClsR K C E := by
  obtain ⟨h1, h⟩ := He.ba h
  obtain ⟨h2, h⟩ := He.ba h
  obtain ⟨h3, h⟩ := He.ba h
  obtain ⟨h4, h⟩ := He.ba h
  obtain ⟨h5, h⟩ := He.ba h
  obtain ⟨h6, h⟩ := He.ba h
  obtain ⟨h7, h⟩ := He.ba h
  obtain ⟨h8, h⟩ := He.ba h
  obtain ⟨h9, h⟩ := He.ba h
  obtain ⟨h10, h⟩ := He.ba h
  obtain ⟨h11, h⟩ := He.ba h
  obtain ⟨h12, h⟩ := He.ba h
  obtain ⟨h13, h14⟩ := He.ba h
  refine ⟨⟨?_, of_decide_eq_true h2, of_decide_eq_true h3, of_decide_eq_true h4, h5⟩, of_decide_eq_true h6, of_decide_eq_true h7, of_decide_eq_true h8, xfB_ok h9, h10, of_decide_eq_true h11, of_decide_eq_true h12, of_decide_eq_true h13, of_decide_eq_true h14⟩
  split at h1
  · rename_i o ho
    obtain ⟨nm, q, N, bs, bm, sn, sub, ab, col, dd, k0, k1, k2, k3, k5, e, r⟩ := excObj_ok h1
    exact ⟨nm, q, N, bs, bm, sn, sub, ab, col, dd, k0, k1, k2, k3, k5, by rw [ho, e], r⟩
  · cases h1
structure ClsX (K : PySem.W.Frag) (C : Addr) : Prop where
  rd : ClX.CRead K C (.type "type")
  met : ClX.CMet K C (.type "type") "of" (He.ma K C "of") (He5.wf K C "classmethod" "of")
  most : ∃ u, ClX.CVal K C (.type "type") "MOST_COLUMNS" (.int 4) u
  e1 : ∀ H, TuS K H (kwa "fixed" K) []
  e2 : ∀ H, TuS K H (kwa "unique" K) []
  e3 : ∀ H, TuS K H (kwi "fixed" K) []
  e4 : ∀ H, TuS K H (kwi "unique" K) []
  eq : ClsQ K C
  err : ClsR K (He.ga K "InvalidTable") (He.ga K "FeedError")
theorem empty_ok {K : PySem.W.Frag} {a : Addr} (h : emptyB K a = true) (H : Hp) : TuS K H a [] := by
  unfold emptyB at h
  split at h
  · rename_i o ho
    obtain ⟨h1, h2⟩ := He.ba h
    have hc : o.cls = .type "tuple" := eq_of_beq h1
    split at h2
    · rename_i its n hd
      have hz : its.size = 0 := eq_of_beq h2
      have e : its.toList = [] := List.eq_nil_of_length_eq_zero (by simpa using hz)
      exact ⟨.inr ⟨o, its, n, ho, hc, hd, by omega, by rw [e]; exact .nil⟩, .kTuple ho hc⟩
    · cases h2
  · cases h
theorem most_ok {K : PySem.W.Frag} {C : Addr} (h : mostB K C = true) : ∃ u, ClX.CVal K C (.type "type") "MOST_COLUMNS" (.int 4) u := by
  unfold mostB at h
  split at h
  · rename_i i t hi
    have e : i = 4 := of_decide_eq_true h
    subst e
    exact ⟨_, hi, _, rfl⟩
  · cases h
theorem more_ok {K : PySem.W.Frag} {C : Addr} (h : moreB K C = true) : ClsX K C := by
  obtain ⟨q1, h⟩ := He.ba h
  obtain ⟨q2, h⟩ := He.ba h
  obtain ⟨q3, h⟩ := He.ba h
  obtain ⟨q4, h⟩ := He.ba h
  obtain ⟨h1, h⟩ := He.ba h
  obtain ⟨h2, h⟩ := He.ba h
  obtain ⟨h3, h⟩ := He.ba h
  obtain ⟨h4, h⟩ := He.ba h
  obtain ⟨h5, h⟩ := He.ba h
  obtain ⟨h6, h7⟩ := He.ba h
  exact ⟨⟨h1, of_decide_eq_true h2⟩, He5.cmet_of h3 h4, most_ok h5, fun H => empty_ok h6 H, fun H => empty_ok h7 H, fun H => empty_ok q3 H, fun H => empty_ok q4 H, eq_ok q1, err_ok q2⟩
theorem facts {P : Program} {w : World} {K : PySem.W.Frag} {h : Heap} {mg : Str → Option Value} {f : Addr} (X : K.In h) (G : h.Ns mainGlobals mg) (hfa : mg ("law" : Str) = some (.ref f)) (c : ToldX K) :
    ∃ fd : FuncData, (∀ (s : Shared) (v : Value), BindsTo s fd ⟨[v], []⟩ [("_law_script", v)]) ∧ ∀ base : Heap, K.In base → base.Ns mainGlobals mg → FnG P w K mg base CX0 9 f fd ["_law_script"] (sp_law K) := by
  have g_is_name := He.glo_ok X G (c.fa 0 (f := .glo "is_name") rfl)
  have g_are_names := He.glo_ok X G (c.fa 1 (f := .glo "are_names") rfl)
  have g_sequence_of := He.glo_ok X G (c.fa 2 (f := .glo "sequence_of") rfl)
  have g_are_chosen := He.glo_ok X G (c.fa 3 (f := .glo "are_chosen") rfl)
  have g_in_order_of := He.glo_ok X G (c.fa 4 (f := .glo "in_order_of") rfl)
  have g_pen := He.glo_ok X G (c.fa 5 (f := .glo "_law_pen") rfl)
  have g_draw := He.glo_ok X G (c.fa 6 (f := .glo "_law_draw") rfl)
  have g_table := He.glo_ok X G (c.fa 7 (f := .glo "_law_table") rfl)
  have g_some := He.glo_ok X G (c.fa 8 (f := .glo "_law_some") rfl)
  have g_any_table := He.glo_ok X G (c.fa 9 (f := .glo "_law_any_table") rfl)
  have g_columns := He.glo_ok X G (c.fa 10 (f := .glo "_law_columns") rfl)
  have g_Lis_name := He.glo_ok X G (c.fa 11 (f := .glo "_law_is_name") rfl)
  have g_once := He.glo_ok X G (c.fa 12 (f := .glo "_law_once") rfl)
  have g_part := He.glo_ok X G (c.fa 13 (f := .glo "_law_part") rfl)
  have g_due := He.glo_ok X G (c.fa 14 (f := .glo "_law_due") rfl)
  have g_heard := He.glo_ok X G (c.fa 15 (f := .glo "_law_heard") rfl)
  have g_heard_of := He.glo_ok X G (c.fa 16 (f := .glo "_law_heard_of") rfl)
  have g_told := He.glo_ok X G (c.fa 17 (f := .glo "_law_told") rfl)
  have g_alike := He.glo_ok X G (c.fa 18 (f := .glo "_law_alike") rfl)
  have g_face := He.glo_ok X G (c.fa 19 (f := .glo "_law_face") rfl)
  have g_listed_right := He.glo_ok X G (c.fa 20 (f := .glo "_law_listed_right") rfl)
  have g_law := He.glo_ok X G (c.fa 21 (f := .glo "law") rfl)
  have g_InvalidTable := He.glo_ok X G (c.fa 22 (f := .glo "InvalidTable") rfl)
  have g_FeedError := He.glo_ok X G (c.fa 23 (f := .glo "FeedError") rfl)
  have g_C := He.glo_ok X G (c.fa 24 (f := .glo "Table") rfl)
  have z_abs := He.free_ok X G (c.fa 25 (f := .free "abs") rfl)
  have z_all := He.free_ok X G (c.fa 26 (f := .free "all") rfl)
  have z_enumerate := He.free_ok X G (c.fa 27 (f := .free "enumerate") rfl)
  have z_int := He.free_ok X G (c.fa 28 (f := .free "int") rfl)
  have z_isinstance := He.free_ok X G (c.fa 29 (f := .free "isinstance") rfl)
  have z_len := He.free_ok X G (c.fa 30 (f := .free "len") rfl)
  have z_list := He.free_ok X G (c.fa 31 (f := .free "list") rfl)
  have z_range := He.free_ok X G (c.fa 32 (f := .free "range") rfl)
  have z_repr := He.free_ok X G (c.fa 33 (f := .free "repr") rfl)
  have z_set := He.free_ok X G (c.fa 34 (f := .free "set") rfl)
  have z_str := He.free_ok X G (c.fa 35 (f := .free "str") rfl)
  have z_tuple := He.free_ok X G (c.fa 36 (f := .free "tuple") rfl)
  have cCl := He.cls_ok (c.fa 37 (f := .cls "Table") rfl)
  have cNo_columns := He.noat_ok (c.fa 38 (f := .noat "Table" "columns") rfl)
  have cNo_key := He.noat_ok (c.fa 39 (f := .noat "Table" "key") rfl)
  have cNo_fixed := He.noat_ok (c.fa 40 (f := .noat "Table" "fixed") rfl)
  have cNo_unique := He.noat_ok (c.fa 41 (f := .noat "Table" "unique") rfl)
  have cNo_reuse := He.noat_ok (c.fa 42 (f := .noat "Table" "reuse") rfl)
  have cMk := He.mkr_ok (c.fa 43 (f := .mkr "Table") rfl)
  have m_eq := He.meth_ok (c.fa 44 (f := .meth "Table" "__eq__") rfl)
  have cX := more_ok c.1
  obtain ⟨fd_is_name, F_is_name⟩ := c.fn 0 (a := at1 "is_name") (x := "is_name") (q := "is_name") (st := s_is_name) rfl
  have B_is_name := F_is_name.binds (ps := ["thing"]) fun _ _ _ _ _ _ us hl => match us, hl with | [_], _ => rfl
  obtain ⟨fd_are_names, F_are_names⟩ := c.fn 1 (a := at1 "are_names") (x := "are_names") (q := "are_names") (st := s_are_names) rfl
  have B_are_names := F_are_names.binds (ps := ["things"]) fun _ _ _ _ _ _ us hl => match us, hl with | [_], _ => rfl
  obtain ⟨fd_sequence_of, F_sequence_of⟩ := c.fn 2 (a := at1 "sequence_of") (x := "sequence_of") (q := "sequence_of") (st := s_sequence_of) rfl
  have B_sequence_of := F_sequence_of.binds (ps := ["things"]) fun _ _ _ _ _ _ us hl => match us, hl with | [_], _ => rfl
  obtain ⟨fd_are_chosen, F_are_chosen⟩ := c.fn 3 (a := at1 "are_chosen") (x := "are_chosen") (q := "are_chosen") (st := s_are_chosen) rfl
  have B_are_chosen := F_are_chosen.binds (ps := ["names", "columns"]) fun _ _ _ _ _ _ us hl => match us, hl with | [_, _], _ => rfl
  obtain ⟨fd_in_order_of, F_in_order_of⟩ := c.fn 4 (a := at1 "in_order_of") (x := "in_order_of") (q := "in_order_of") (st := s_in_order_of) rfl
  have B_in_order_of := F_in_order_of.binds (ps := ["columns", "names"]) fun _ _ _ _ _ _ us hl => match us, hl with | [_, _], _ => rfl
  obtain ⟨fd_pen, F_pen⟩ := c.fn 5 (a := at1 "_law_pen") (x := "_law_pen") (q := "_law_pen") (st := s_pen) rfl
  have B_pen := F_pen.binds (ps := ["_law_script"]) fun _ _ _ _ _ _ us hl => match us, hl with | [_], _ => rfl
  obtain ⟨fd_draw, F_draw⟩ := c.fn 6 (a := at1 "_law_draw") (x := "_law_draw") (q := "_law_draw") (st := s_draw) rfl
  have B_draw := F_draw.binds (ps := ["_law_pen_here", "_law_many"]) fun _ _ _ _ _ _ us hl => match us, hl with | [_, _], _ => rfl
  obtain ⟨fd_table, F_table⟩ := c.fn 7 (a := at1 "_law_table") (x := "_law_table") (q := "_law_table") (st := s_table) rfl
  have B_table := F_table.binds (ps := ["_law_c", "_law_keyed", "_law_firm", "_law_lone", "_law_anew"]) fun _ _ _ _ _ _ us hl => match us, hl with | [_, _, _, _, _], _ => rfl
  obtain ⟨fd_some, F_some⟩ := c.fn 8 (a := at1 "_law_some") (x := "_law_some") (q := "_law_some") (st := s_some) rfl
  have B_some := F_some.binds (ps := ["_law_pen_here", "_law_names", "_law_most"]) fun _ _ _ _ _ _ us hl => match us, hl with | [_, _, _], _ => rfl
  obtain ⟨fd_any_table, F_any_table⟩ := c.fn 9 (a := at1 "_law_any_table") (x := "_law_any_table") (q := "_law_any_table") (st := s_any_table) rfl
  have B_any_table := F_any_table.binds (ps := ["_law_c", "_law_keyed", "_law_firm", "_law_lone", "_law_anew"]) fun _ _ _ _ _ _ us hl => match us, hl with | [_, _, _, _, _], _ => rfl
  obtain ⟨fd_columns, F_columns⟩ := c.fn 10 (a := at1 "_law_columns") (x := "_law_columns") (q := "_law_columns") (st := s_columns) rfl
  have B_columns := F_columns.binds (ps := ["_law_pen_here"]) fun _ _ _ _ _ _ us hl => match us, hl with | [_], _ => rfl
  obtain ⟨fd_Lis_name, F_Lis_name⟩ := c.fn 11 (a := at1 "_law_is_name") (x := "_law_is_name") (q := "_law_is_name") (st := s_Lis_name) rfl
  have B_Lis_name := F_Lis_name.binds (ps := ["_law_thing"]) fun _ _ _ _ _ _ us hl => match us, hl with | [_], _ => rfl
  obtain ⟨fd_once, F_once⟩ := c.fn 12 (a := at1 "_law_once") (x := "_law_once") (q := "_law_once") (st := s_once) rfl
  have B_once := F_once.binds (ps := ["_law_some_here"]) fun _ _ _ _ _ _ us hl => match us, hl with | [_], _ => rfl
  obtain ⟨fd_part, F_part⟩ := c.fn 13 (a := at1 "_law_part") (x := "_law_part") (q := "_law_part") (st := s_part) rfl
  have B_part := F_part.binds (ps := ["_law_pen_here", "_law_names", "_law_most"]) fun _ _ _ _ _ _ us hl => match us, hl with | [_, _, _], _ => rfl
  obtain ⟨fd_due, F_due⟩ := c.fn 14 (a := at1 "_law_due") (x := "_law_due") (q := "_law_due") (st := s_due) rfl
  have B_due := F_due.binds (ps := ["_law_columns_here", "_law_keyed", "_law_firm", "_law_lone"]) fun _ _ _ _ _ _ us hl => match us, hl with | [_, _, _, _], _ => rfl
  obtain ⟨fd_heard, F_heard⟩ := c.fn 15 (a := at1 "_law_heard") (x := "_law_heard") (q := "_law_heard") (st := s_heard) rfl
  have B_heard := F_heard.binds (ps := ["_law_columns_here", "_law_keyed", "_law_firm", "_law_lone", "_law_anew"]) fun _ _ _ _ _ _ us hl => match us, hl with | [_, _, _, _, _], _ => rfl
  obtain ⟨fd_heard_of, F_heard_of⟩ := c.fn 16 (a := at1 "_law_heard_of") (x := "_law_heard_of") (q := "_law_heard_of") (st := s_heard_of) rfl
  have B_heard_of := F_heard_of.binds (ps := ["_law_columns_here", "_law_keyed", "_law_firm", "_law_lone"]) fun _ _ _ _ _ _ us hl => match us, hl with | [_, _, _, _], _ => rfl
  obtain ⟨fd_told, F_told⟩ := c.fn 17 (a := at1 "_law_told") (x := "_law_told") (q := "_law_told") (st := s_told) rfl
  have B_told := F_told.binds (ps := ["_law_columns_here", "_law_keyed", "_law_firm", "_law_lone", "_law_anew"]) fun _ _ _ _ _ _ us hl => match us, hl with | [_, _, _, _, _], _ => rfl
  obtain ⟨fd_alike, F_alike⟩ := c.fn 18 (a := at1 "_law_alike") (x := "_law_alike") (q := "_law_alike") (st := s_alike) rfl
  have B_alike := F_alike.binds (ps := ["_law_one", "_law_other", "_law_due_here"]) fun _ _ _ _ _ _ us hl => match us, hl with | [_, _, _], _ => rfl
  obtain ⟨fd_face, F_face⟩ := c.fn 19 (a := at1 "_law_face") (x := "_law_face") (q := "_law_face") (st := s_face) rfl
  have B_face := F_face.binds (ps := ["_law_made"]) fun _ _ _ _ _ _ us hl => match us, hl with | [_], _ => rfl
  obtain ⟨fd_listed_right, F_listed_right⟩ := c.fn 20 (a := at1 "_law_listed_right") (x := "_law_listed_right") (q := "_law_listed_right") (st := s_listed_right) rfl
  have B_listed_right := F_listed_right.binds (ps := ["_law_made", "_law_columns_here", "_law_keyed", "_law_firm", "_law_lone", "_law_anew"]) fun _ _ _ _ _ _ us hl => match us, hl with | [_, _, _, _, _, _], _ => rfl
  obtain ⟨fd_law, D_law⟩ := He5.SaysA.def_ c.2 21 (d := dfn (at1 "law") "law" "law" s_law) rfl
  have F_law : Fun K "law" "law" s_law (He.ga K "law") fd_law := He5.fun_of D_law
  have bl := FunD.bindsA (ps := ["_law_script"]) D_law fun _ _ _ _ _ _ us hl => match us, hl with | [_], _ => rfl
  obtain ⟨fd_init, D_init0⟩ := He5.SaysA.def_ c.2 22 (d := dfi (atM "__init__") "__init__" "Table.__init__" s_Table__init) rfl
  have F_init : Fun K "__init__" "Table.__init__" s_Table__init (He.ma K (He.ga K "Table") "__init__") fd_init := He5.fun_of D_init0
  have D_init : FunD K "__init__" "Table.__init__" (defArgs s_Table__init) (defBody s_Table__init) (defScope s_Table__init) [] [("fixed", .ref (kwi "fixed" K)), ("unique", .ref (kwi "unique" K)), ("reuse", .bl true)] (He.ma K (He.ga K "Table") "__init__") fd_init := D_init0
  obtain ⟨fd_eq, F_eq⟩ : ∃ fd, Fun K "__eq__" "Table.__eq__" s_Table__eq (He.ma K (He.ga K "Table") "__eq__") fd := c.fn 23 (a := atM "__eq__") (x := "__eq__") (q := "Table.__eq__") (st := s_Table__eq) rfl
  have B_eq := F_eq.binds (ps := ["self", "other"]) fun _ _ _ _ _ _ us hl => match us, hl with | [_, _], _ => rfl
  obtain ⟨fd_iinit, F_iinit⟩ : ∃ fd, Fun K "__init__" "InvalidTable.__init__" s_InvalidTable__init (He.ma K (He.ga K "InvalidTable") "__init__") fd := c.fn 24 (a := atI "__init__") (x := "__init__") (q := "InvalidTable.__init__") (st := s_InvalidTable__init) rfl
  have B_iinit := F_iinit.binds (ps := ["self", "reason"]) fun _ _ _ _ _ _ us hl => match us, hl with | [_, _], _ => rfl
  obtain ⟨fd_of, D_of⟩ := He5.SaysA.def_ c.2 25 (d := dfk (atC "of") "of" "Table.of" s_Table_of) rfl
  have F_of : Fun K "of" "Table.of" s_Table_of (He5.wf K (He.ga K "Table") "classmethod" "of") fd_of := He5.fun_of D_of
  generalize eC : He.ga K "Table" = C at *
  have e := hfa.symm.trans g_law
  cases e
  have T : ClsT K mg C (He.ma K C "__init__") (.type "type") _ _ := ⟨cCl, cNo_columns, cNo_key, cNo_fixed, cNo_unique, cNo_reuse, cMk, g_C, cX.rd, cX.met, cX.most⟩
  have XI : XIt K mg (He.ga K "InvalidTable") (He.ma K (He.ga K "InvalidTable") "__init__") := ⟨cX.err.o, cX.err.iC, cX.err.tI, g_InvalidTable, cX.err.noR⟩
  have XE : XEt K mg (He.ga K "InvalidTable") (He.ga K "FeedError") := ⟨cX.err.xf, ⟨cX.err.is, cX.err.xf.ga, cX.err.xf.gg, cX.err.xf.exC, cX.err.cls, cX.eq.get, cX.eq.tk, cX.err.mro⟩, cX.err.kit, cX.err.exm, g_FeedError⟩
  have U : ClsE K C (He.ma K C "__eq__") := ⟨⟨m_eq.1, cX.eq.ne, m_eq.2, ⟨cX.eq.ob, cX.eq.sub _ (by decide), cX.eq.sub _ (by decide), cX.eq.sub _ (by decide), cX.eq.sub _ (by decide), cX.eq.sub _ (by decide), cX.eq.sub _ (by decide)⟩⟩, cX.eq.cls, cX.eq.get, cX.eq.tk, cX.eq.mro, cX.eq.own,
    cX.eq.kit _ (by decide), cX.eq.kit _ (by decide), cX.eq.kit _ (by decide), cX.eq.kit _ (by decide), cX.eq.kit _ (by decide), cX.eq.kit _ (by decide)⟩
  have N : NoSub K C := ⟨cX.eq.nf _ (by decide), cX.eq.nf _ (by decide), cX.eq.nf _ (by decide), cX.eq.nf _ (by decide), cX.eq.nf _ (by decide), cX.eq.nf _ (by decide)⟩
  refine ⟨fd_law, fun s v => bl s [v] rfl, fun base _ _ => ?_⟩
  have G_iinit := ok_iinit (P := P) (w := w) (mg := mg) (base := base) F_iinit XI
  have G_is_name := ok_is_name (P := P) (w := w) (mg := mg) (base := base) F_is_name z_isinstance z_str z_len z_all
  have G_are_names := ok_are_names (P := P) (w := w) (mg := mg) (base := base) F_are_names F_is_name B_is_name g_is_name G_is_name z_len z_all z_set
  have G_sequence_of := ok_sequence_of (P := P) (w := w) (mg := mg) (base := base) F_sequence_of z_isinstance z_list z_tuple
  have G_are_chosen := ok_are_chosen (P := P) (w := w) (mg := mg) (base := base) F_are_chosen z_isinstance z_tuple z_str z_len z_all z_set
  have G_in_order_of := ok_in_order_of (P := P) (w := w) (mg := mg) (base := base) F_in_order_of z_tuple
  have FI := ok_tinit F_init T XI B_iinit G_iinit F_are_names B_are_names g_are_names G_are_names F_are_chosen B_are_chosen g_are_chosen G_are_chosen F_in_order_of B_in_order_of g_in_order_of G_in_order_of z_len
  have FI1 := ok_tinit1 D_init T XI B_iinit G_iinit F_are_names B_are_names g_are_names G_are_names F_are_chosen B_are_chosen g_are_chosen G_are_chosen F_in_order_of B_in_order_of g_in_order_of G_in_order_of z_len
  have FI2 := ok_tinit2 D_init T XI B_iinit G_iinit F_are_names B_are_names g_are_names G_are_names F_are_chosen B_are_chosen g_are_chosen G_are_chosen F_in_order_of B_in_order_of g_in_order_of G_in_order_of z_len
  have G_of := ok_tof F_of T FI F_sequence_of B_sequence_of g_sequence_of G_sequence_of
  obtain ⟨mv1, hb1⟩ := bn_of1 D_of
  obtain ⟨mv3, hb3⟩ := bn_of3 D_of
  obtain ⟨mv4, hb4⟩ := bn_of4 D_of
  have R_teq : FnR P w K mg base CX0 1 (He.ma K C "__eq__") (fun vs H Q E => sp_teq C (vs ++ []) H Q E) := FnOk.raw (ok_teq F_eq T U z_isinstance) B_eq .nil
  have G_pen := ok_pen (P := P) (w := w) (mg := mg) (base := base) F_pen z_list
  have G_draw := ok_draw (P := P) (w := w) (mg := mg) (base := base) F_draw z_int z_len z_abs
  have G_some := ok_some F_some F_draw B_draw g_draw G_draw z_list z_len z_range z_tuple
  have G_part := ok_part F_part F_draw B_draw g_draw G_draw F_some B_some g_some G_some
  have G_columns := ok_columns F_columns F_draw B_draw g_draw G_draw z_range z_len
  have G_Lis_name := ok_Lis_name (P := P) (w := w) (mg := mg) (base := base) F_Lis_name z_isinstance z_str z_len
  have G_once := ok_once (P := P) (w := w) (mg := mg) (base := base) F_once z_enumerate
  have G_due := ok_due F_due F_Lis_name B_Lis_name g_Lis_name G_Lis_name F_once B_once g_once G_once z_len
  have G_told := ok_told (P := P) (w := w) (mg := mg) (base := base) F_told z_tuple
  have G_table := ok_table F_table T FI z_len
  have G_any := ok_any F_any_table T FI F_table B_table g_table G_table z_len
  have G_heard := ok_heard F_heard T XI XE F_any_table B_any_table g_any_table G_any z_isinstance
  have G_heard_of := ok_heard_of F_heard_of T XI XE G_of hb3 z_isinstance
  have G_alike := ok_alike F_alike T U N R_teq
  have G_face := ok_face (P := P) (w := w) (mg := mg) (base := base) F_face T U z_isinstance z_repr
  have G_listed := ok_listed F_listed_right T F_alike B_alike g_alike G_alike G_of hb4 z_list z_tuple
  exact ok_law F_law T U R_teq FI FI1 FI2 cX.e3 cX.e4 cX.e1 cX.e2 G_of hb1 F_pen B_pen g_pen G_pen F_draw B_draw g_draw G_draw F_columns B_columns g_columns G_columns F_Lis_name B_Lis_name g_Lis_name G_Lis_name F_part B_part g_part G_part F_heard B_heard g_heard G_heard F_heard_of B_heard_of g_heard_of G_heard_of F_due B_due g_due G_due F_told B_told g_told G_told F_face B_face g_face G_face F_alike B_alike g_alike G_alike F_listed_right B_listed_right g_listed_right G_listed z_range z_int z_repr z_tuple
end Spk
open PySem PySem.W PySem.Calls PyProof.Rows
theorem PySem.Challenge.cw_speaklast_k09_tables_and_their_columns_holds : PySem.Challenge.rw_speaklast_k09_tables_and_their_columns.Holds := by
  w_on; o_law
  refine HandSHeadRun.head_any (r := Spk.Rw) (q := view Spk.Rw.prog [29]) (H := Spk.hk) (ob := Spk.obT) (M := 4000) (loose := Spk.loose) (d := HandSHeadRun.topDef Spk.Rw.prog 29) (kwd := []) Spk.obT_eq
    (by kernel_rfl) (fun s => by kernel_rfl) Spk.runs (by kernel_rfl) (by kernel_rfl) (by kernel_rfl) (by rfl) (by first | assumption | decide +kernel) (by decide +kernel) ⟨rfl, rfl, rfl, rfl, rfl, by decide +kernel⟩ ?hw ?hc
  case hw => w_witness2
  case hc =>
    refine Spk.walk_g (l := PySem.Challenge.rw_speaklast_k09_tables_and_their_columns) (n := 63) (k := 9) (x := "_law_script") (CX := L2.CX0) rfl (by decide) (by kernel_rfl) ⟨rfl, by decide, by decide⟩ ?F (fun _ _ _ _ z => z)
    intro w mg fa h Y G hmg0
    obtain ⟨K, KX, c⟩ := Y
    have hmg : mg ("law" : PySem.Str) = some (.ref fa) := by
      have e : (HandSHeadRun.topDef Spk.Rw.prog 29).name = ("law" : PySem.Str) := by kernel_rfl
      rw [← e]
      exact hmg0
    obtain ⟨fd, hb, hF⟩ := Spk.facts (P := (PySem.Challenge.rw_speaklast_k09_tables_and_their_columns).prog) (w := w) KX G hmg c
    exact ⟨K, fd, Spk.sp_law K, KX, hb, fun H a ns hl _ hS => ⟨a, ns, rfl, hS, hl, fun _ => rfl⟩, hF⟩

