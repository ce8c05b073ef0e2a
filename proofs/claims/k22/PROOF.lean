import PyProof.Rows.All
import Wide.All
import OpenK.AllK
import Wide.FinOn
import Lean
import PyProof.EqAt
import PyProof.EqKinds
import PyProof.TupleCall
import PyProof.ZipIter
import PyProof.Draws
import PyProof.TupleIter
import PySem.Value
import PyProof.NeKinds
import PyProof.ExcClass2
import PyProof.StationsW
import OpenK.KOwn
import KE.KIsAll
import PyProof.RulesAs
import PyProof.NsDelKeeps
import PyProof.PassesOwn
import PyProof.ExcArgsOwn
import PyProof.IsiH_list
import PyProof.EnumMake
import PyProof.EnumFor
import PyProof.WalksEnum
import PyProof.Rows.EnumRows
import PyProof.SumWalk
import PyProof.StrCalls
import PyProof.Rows.StrJoin2
import PyProof.WalkInts
import KE.KDictOf
import KE.KEqDict
import PyProof.EqLayable
import PyProof.P3Eq
import PyProof.MeetsIn
import KE.KNestM
import PySem.Challenge.RW_keeper_k22_steps_told
set_option Elab.async false
set_option linter.all false
set_option maxRecDepth 100000
noncomputable section
section
namespace L2
open PySem PySem.Spec PyProof.Rows
def HB (base : Heap) (A : Around) : Prop := A.handled = none ∨ ∃ a oe vs, A.handled = some (.ref a) ∧ base.get? a = some oe ∧ oe.data = .fields vs ∧ vs[2]? = some .none
def HBp (base : Heap) (pn : List (Addr × Obj)) (A : Around) : Prop := A.handled = none ∨ ∃ a oe vs, A.handled = some (.ref a) ∧ (base.get? a = some oe ∨ (a, oe) ∈ pn) ∧ oe.data = .fields vs ∧ vs[2]? = some .none
theorem HB.toP {base : Heap} {pn : List (Addr × Obj)} {A : Around} (h : HB base A) : HBp base pn A := by
  rcases h with h | ⟨a, oe, vs, e1, e2, e3⟩
  · exact .inl h
  · exact .inr ⟨a, oe, vs, e1, .inl e2, e3⟩
theorem ent_unchain : entryFor table "proto.unchain" = some Builtin.«proto.unchain» := entryFor_of_tree (by kernel_rfl)
section
variable {prog : Program} {w : World} {A : Around} {E : Value → Shared → Prop} {s : Shared} {base : Heap}
theorem HB.mono {h h' : Heap} (hb : HB h A) (hk : ∀ a o, A.handled = some (.ref a) → h.get? a = some o → h'.get? a = some o) : HB h' A := by
  rcases hb with hb | ⟨a, oe, vs, e1, e2, e3⟩
  · exact .inl hb
  · exact .inr ⟨a, oe, vs, e1, hk a oe e1 e2, e3⟩
theorem un_chain {n a : Addr} {oe : Obj} {vs : Array Value} {Q : Value → Shared → Prop} (he : s.heap.get? a = some oe) (hd : oe.data = .fields vs) (h2 : vs[2]? = some .none) (h : Q .none s) :
    wpAny (model prog w) A (runValue (.builtin "proto.unchain" ⟨[.ref n, .ref a, .ref a, .bool false], []⟩)) Q E s := by
  refine wpAny_runValue (codeAny_builtin ent_unchain ?_)
  show wpAny _ _ (field (.ref a) 2 >>= _) _ _ s
  refine wpAny_bind (wpAny_field he hd h2 ?_)
  rw [if_pos (show (Value.none == Value.none) = true by rfl)]
  exact wpAny_pure h
theorem stop_made {α : Type} {Q : α → Shared → Prop} (hb : HB s.heap A)
    (hE : ∀ h' e, (∀ b o, s.heap.get? b = some o → h'.get? b = some o) → (∃ o, h'.get? e = some o ∧ o.cls = .type "StopIteration") → E (.ref e) { s with heap := h' }) :
    wpAny (model prog w) A (newExc (.type "StopIteration") [] >>= fun e => (raiseNew e : Sem α)) Q E s := by
  refine wpAny_bind ?_
  simp only [newExc, newTuple]
  refine wpAny_bind (wpAny_newObj_type ?_ (by size_fits))
  refine wpAny_bind (m := firstArgMember _ _) (wpAny_of_eq (a := Value.none) (by first | rfl | (simp only [firstArgMember]; rfl)) ?_)
  refine wpAny_newObj_type ?_ (by size_fits)
  simp only [raiseNew]
  refine wpAny_bind (wpAny_handled ?_)
  rcases hb with hb | ⟨a, oe, vs, hb, e1, e2, e3⟩
  · rw [hb]
    refine wpAny_bind (wpAny_pure (wpAny_throw (hE _ _ (fun b o e => Heap.get?_push_of_some _ (Heap.get?_push_of_some _ e)) ⟨_, Heap.get?_push_size _ rfl, rfl⟩)))
  · rw [hb]
    have ea := e1
    have lt := Heap.lt_size ea
    have ne : a ≠ (s.heap.push { cls := .type "tuple", data := .seq #[] }).objs.size := by
      rw [Heap.size_push]
      exact Nat.ne_of_lt (Nat.lt_succ_of_lt lt)
    dsimp only
    rw [if_pos (by simpa using ne)]
    refine wpAny_bind (wpAny_holding (un_chain (Heap.get?_push_of_some _ (Heap.get?_push_of_some _ ea)) e2 e3 ?_))
    refine wpAny_bind ?_
    show wpAny (model prog w) A (setField (.ref _) 2 (.ref a)) _ _ _
    refine wpAny_setField (Heap.get?_push_size _ rfl) rfl (by simp; omega) (wpAny_throw (hE _ _ (fun b o e => ?_) ⟨_, Heap.get?_update_self _ (Heap.get?_push_size _ rfl) (Obj.isFreed_of_fields (Obj.data_mapFields rfl _)), Obj.cls_mapFields _ _⟩))
    rw [Heap.get?_update_other _ _ ?_]
    · exact Heap.get?_push_of_some _ (Heap.get?_push_of_some _ e)
    · have := Heap.lt_size e
      intro z
      rw [← z, Heap.size_push] at this
      exact Nat.not_succ_lt_self this
theorem is_stop {Q : Bool → Shared → Prop} {h' : Heap} {e : Addr} (he : ∃ o, h'.get? e = some o ∧ o.cls = .type "StopIteration") (h : Q true { s with heap := h' }) : wpAny (model prog w) A (isInstance (.ref e) (.type "StopIteration")) Q E { s with heap := h' } := by
  obtain ⟨o, ho, hc⟩ := he
  exact wpAny_isInstance (T := "StopIteration") (b := true) ⟨o, ho, hc⟩ isSubtype_stop h
theorem HB.upd {it : Addr} {f : Obj → Obj} (hb : HB s.heap A) (na : ∀ a, A.handled = some (.ref a) → a ≠ it) : HB (s.heap.update it f) A := hb.mono fun a o e1 e2 => (Heap.get?_update_other _ _ (Ne.symm (na a e1))).trans e2
theorem ext_upd {it : Addr} {f : Obj → Obj} {h' : Heap} (k : ∀ b o, (s.heap.update it f).get? b = some o → h'.get? b = some o) : Heap.ExtBut it s.heap h' := fun b o hb e => k b o ((Heap.get?_update_other _ _ (Ne.symm hb)).trans e)
theorem next_list_end {it l : Addr} {i : Nat} {items : Array Value} {Q : Option Value → Shared → Prop} (hb : HB s.heap A) (na : ∀ a, A.handled = some (.ref a) → a ≠ it) (hit : s.heap.IsListIter it l i) (hl : s.heap.IsList l items) (hx : items[i]? = none)
    (hQ : ∀ h', Heap.ExtBut it s.heap h' → Q none { s with heap := h' }) : wpAny (model prog w) A (pyNext (.ref it)) Q E s := by
  obtain ⟨o, ho, hc, hd⟩ := id hit
  obtain ⟨ol, hol, _, nl, hdl⟩ := hl
  unfold pyNext
  refine wpAny_bind (wpAny_attempt (wpAny_callSpecial?_slot (name := Str.ofString "__next__") hit.typeIs slot_listiter_next (wpAny_call_entry slot_listiter_next hit.typeIs entry_listiter_next ?_ (args_listiter_next _))))
  show wpAny (model prog w) _ (field (.ref it) 0 >>= _) _ _ s
  refine wpAny_bind (wpAny_field ho hd (x := .ref l) rfl ?_)
  show wpAny (model prog w) _ (if (Value.ref l == Value.none) = true then _ else _) _ _ s
  rw [if_neg (show ¬ (Value.ref l == Value.none) = true from Bool.false_ne_true)]
  show wpAny (model prog w) _ (field (.ref it) 1 >>= _) _ _ s
  refine wpAny_bind (wpAny_field ho hd (x := .int i 0) rfl ?_)
  show wpAny (model prog w) _ (seqItems? (.ref l) >>= _) _ _ s
  refine wpAny_bind (wpAny_seqItems hol hdl ?_)
  simp only [Int.toNat_natCast, hx]
  refine wpAny_bind (wpAny_rule (wpAny_bind (wpAny_setField ho hd (by simp) ?_)))
  exact stop_made (A := A.in1) (hb.upd na) fun h' e k he => wpAny_bind (is_stop he (wpAny_pure (hQ h' (ext_upd k))))
theorem next_tuple_end {it l : Addr} {i : Nat} {items : Array Value} {Q : Option Value → Shared → Prop} (hb : HB s.heap A) (na : ∀ a, A.handled = some (.ref a) → a ≠ it) (hit : s.heap.IsTupleIter it l i) (hl : s.heap.IsTuple l items) (hx : items[i]? = none)
    (hQ : ∀ h', Heap.ExtBut it s.heap h' → Q none { s with heap := h' }) : wpAny (model prog w) A (pyNext (.ref it)) Q E s := by
  obtain ⟨o, ho, hc, hd⟩ := id hit
  obtain ⟨ol, hol, _, nl, hdl⟩ := hl
  unfold pyNext
  refine wpAny_bind (wpAny_attempt (wpAny_callSpecial?_slot (name := Str.ofString "__next__") hit.typeIs F.slot_tuple_iterator_next (wpAny_call_entry F.slot_tuple_iterator_next hit.typeIs F.entry_tuple_iterator_next ?_ (F.args_tuple_iterator_next_1 _))))
  show wpAny (model prog w) _ (field (.ref it) 0 >>= _) _ _ s
  refine wpAny_bind (wpAny_field ho hd (x := .ref l) rfl ?_)
  show wpAny (model prog w) _ (if (Value.ref l == Value.none) = true then _ else _) _ _ s
  rw [if_neg (show ¬ (Value.ref l == Value.none) = true from Bool.false_ne_true)]
  show wpAny (model prog w) _ (field (.ref it) 1 >>= _) _ _ s
  refine wpAny_bind (wpAny_field ho hd (x := .int i 0) rfl ?_)
  show wpAny (model prog w) _ (seqItems? (.ref l) >>= _) _ _ s
  refine wpAny_bind (wpAny_seqItems hol hdl ?_)
  simp only [Int.toNat_natCast, hx]
  refine wpAny_bind (wpAny_rule (wpAny_bind (wpAny_setField ho hd (by simp) ?_)))
  exact stop_made (A := A.in1) (hb.upd na) fun h' e k he => wpAny_bind (is_stop he (wpAny_pure (hQ h' (ext_upd k))))
theorem next_range_end {it : Addr} {x left step : Int} {Q : Option Value → Shared → Prop} (hb : HB s.heap A) (hit : IsRangeIter s.heap it x left step) (hleft : left ≤ 0)
    (hQ : ∀ h', Heap.ExtBut it s.heap h' → Q none { s with heap := h' }) : wpAny (model prog w) A (pyNext (.ref it)) Q E s := by
  have hT : s.TypeIs (.ref it) "range_iterator" := ⟨_, hit, rfl⟩
  unfold pyNext
  refine wpAny_bind (wpAny_attempt (wpAny_callSpecial?_slot (name := Str.ofString "__next__") hT F.slot_range_iterator_next (wpAny_call_entry F.slot_range_iterator_next hT F.entry_range_iterator_next ?_ (F.args_range_iterator_next_1 _))))
  show wpAny (model prog w) _ (field (.ref it) 0 >>= _) _ _ s
  refine wpAny_bind (wpAny_field hit rfl (x := rawInt x) rfl ?_)
  show wpAny (model prog w) _ (field (.ref it) 1 >>= _) _ _ s
  refine wpAny_bind (wpAny_field hit rfl (x := rawInt left) rfl ?_)
  show wpAny (model prog w) _ (field (.ref it) 2 >>= _) _ _ s
  refine wpAny_bind (wpAny_field hit rfl (x := rawInt step) rfl ?_)
  show wpAny (model prog w) _ (if left ≤ 0 then _ else _) _ _ s
  rw [if_pos hleft]
  refine wpAny_bind (wpAny_rule ?_)
  refine wpAny_bind ?_
  exact stop_made (A := A.in1) hb fun h' e k he => wpAny_bind (is_stop he (wpAny_pure (hQ h' fun b o _ eb => k b o eb)))
theorem next_ascii_end {it : Addr} {x : Str} {t : Tok} {i : Nat} {Q : Option Value → Shared → Prop} (hb : HB s.heap A) (na : ∀ a, A.handled = some (.ref a) → a ≠ it) (hit : s.heap.IsStrIter it "str_ascii_iterator" x t i) (hx : x.cps[i]? = none)
    (hQ : ∀ h', Heap.ExtBut it s.heap h' → Q none { s with heap := h' }) : wpAny (model prog w) A (pyNext (.ref it)) Q E s := by
  obtain ⟨o, ho, hc, hd⟩ := id hit
  unfold pyNext
  refine wpAny_bind (wpAny_attempt (wpAny_callSpecial?_slot (name := Str.ofString "__next__") hit.typeIs F.slot_str_ascii_iterator_next (wpAny_call_entry F.slot_str_ascii_iterator_next hit.typeIs F.entry_str_ascii_iterator_next ?_ (F.args_str_ascii_iterator_next_1 _))))
  show wpAny (model prog w) _ (field (.ref it) 0 >>= _) _ _ s
  refine wpAny_bind (wpAny_field ho hd (x := .str x t) rfl ?_)
  show wpAny (model prog w) _ (field (.ref it) 1 >>= _) _ _ s
  refine wpAny_bind (wpAny_field ho hd (x := .int i 0) rfl ?_)
  simp only [Int.toNat_natCast, hx]
  refine wpAny_bind (wpAny_rule (wpAny_bind (wpAny_setField ho hd (by simp) (wpAny_bind (wpAny_letGo ?_)))))
  exact stop_made (A := A.in1) (hb.upd na) fun h' e k he => wpAny_bind (is_stop he (wpAny_pure (hQ h' (ext_upd k))))
theorem next_wide_end {it : Addr} {x : Str} {t : Tok} {i : Nat} {Q : Option Value → Shared → Prop} (hb : HB s.heap A) (na : ∀ a, A.handled = some (.ref a) → a ≠ it) (hit : s.heap.IsStrIter it "str_iterator" x t i) (hx : x.cps[i]? = none)
    (hQ : ∀ h', Heap.ExtBut it s.heap h' → Q none { s with heap := h' }) : wpAny (model prog w) A (pyNext (.ref it)) Q E s := by
  obtain ⟨o, ho, hc, hd⟩ := id hit
  unfold pyNext
  refine wpAny_bind (wpAny_attempt (wpAny_callSpecial?_slot (name := Str.ofString "__next__") hit.typeIs F.slot_str_iterator_next (wpAny_call_entry F.slot_str_iterator_next hit.typeIs F.entry_str_iterator_next ?_ (F.args_str_iterator_next_1 _))))
  show wpAny (model prog w) _ (field (.ref it) 0 >>= _) _ _ s
  refine wpAny_bind (wpAny_field ho hd (x := .str x t) rfl ?_)
  show wpAny (model prog w) _ (field (.ref it) 1 >>= _) _ _ s
  refine wpAny_bind (wpAny_field ho hd (x := .int i 0) rfl ?_)
  simp only [Int.toNat_natCast, hx]
  refine wpAny_bind (wpAny_rule (wpAny_bind (wpAny_setField ho hd (by simp) (wpAny_bind (wpAny_letGo ?_)))))
  exact stop_made (A := A.in1) (hb.upd na) fun h' e k he => wpAny_bind (is_stop he (wpAny_pure (hQ h' (ext_upd k))))
theorem unpackH {t : Addr} {items : Array Value} {Q : List Value → Shared → Prop} (hb : HB s.heap A) (ht : s.heap.IsTuple t items)
    (hQ : ∀ h', Heap.ExtBut s.heap.objs.size s.heap h' → Q items.toList { s with heap := h' }) : wpAny (model prog w) A (unpackItems (.ref t) items.size none) Q E s := by
  have hlt : t ≠ s.heap.objs.size := by obtain ⟨o, ho, _⟩ := ht; exact Nat.ne_of_lt (Heap.lt_size ho)
  have lta : ∀ a, A.handled = some (.ref a) → a ≠ s.heap.objs.size := fun a ea => by
    rcases hb with hb | ⟨a', oe, vs, e1, e2, _⟩
    · rw [hb] at ea; cases ea
    · rw [e1] at ea; cases ea; exact Nat.ne_of_lt (Heap.lt_size e2)
  unfold unpackItems
  refine wpAny_bind ?_
  unfold notIterableAtAll
  refine wpAny_bind (wpAny_specialOf ht.typeIs F.slot_tuple_iter.lookup (wpAny_pure ?_))
  simp only [Bool.false_eq_true, if_false]
  refine wpAny_bind (wpAny_holding (wpAny_pyIter_tuple ht ?_))
  refine wpAny_bind (wpAny_holding (wpAny_draw_tuple hlt items.size 0 _ _ ⟨_, Heap.get?_push_size _ rfl, rfl, rfl⟩ (ht.push _) (by omega) fun h₁ hit₁ hs₁ => ?_))
  rw [show List.take items.size (List.drop 0 items.toList) = items.toList by rw [List.drop_zero]; exact List.take_of_length_le (by simp), if_neg (by simp)]
  have ht₁ : h₁.IsTuple t items := (ht.push _).extBut hs₁.extBut hlt
  have hb₁ : HB h₁ A := hb.mono fun a o ea eo => hs₁.extBut a o (lta a ea) (Heap.get?_push_of_some _ eo)
  refine wpAny_bind (wpAny_holding (next_tuple_end (s := { s with heap := h₁ }) hb₁ lta hit₁ ht₁ (by simp) fun h₂ he₂ => ?_))
  simp only [Option.isSome_none, Bool.false_eq_true, if_false]
  exact wpAny_pure (hQ h₂ fun b o hb e => he₂ b o hb (hs₁.extBut b o hb (Heap.get?_push_of_some _ e)))
theorem assignH {env : Env} {elts : List Expr} {x1} {pos : Pos} {t : Addr} {items : Array Value} {Q : Unit → Shared → Prop} (hb : HB s.heap A) (ht : s.heap.IsTuple t items)
    (hn : (assignEach elts env).length = items.size) (hstar : (assignEach elts env).findIdx? (·.1) = none)
    (h : ∀ h', Heap.ExtBut s.heap.objs.size s.heap h' → wpAny (model prog w) A (assignInOrder ((assignEach elts env).map (·.2)) items.toList) Q E { s with heap := h' }) : wpAny (model prog w) A (assign (.Tuple elts x1 pos) env (.ref t)) Q E s := by
  rw [arm_assign_Tuple]
  refine wpAny_bind (wpAny_standAt ?_)
  unfold unpack
  rw [hn, hstar]
  exact wpAny_bind (wpAny_holding (unpackH hb ht h))
end
theorem range_item {prog : Program} {w : World} {A : Around} {s : Shared} {Q : Option Value → Shared → Prop} {E : Value → Shared → Prop} {I : Addr} {a c : Int} {n i : Nat} (hi : i < n) (st : IsRangeIter s.heap I (a + (i : Nat) * c) ((n : Int) - (i : Nat)) c)
    (hQ : ∀ v h' tk, (∃ t, v = .int (a + i * c) t) → IsRangeIter h' I (a + ((i + 1 : Nat) : Int) * c) ((n : Int) - ((i + 1 : Nat) : Int)) c → (∀ b o, b ∉ [I] → s.heap.get? b = some o → h'.get? b = some o) → Q (some v) { s with heap := h', toks := tk }) :
    wpAny (model prog w) A (pyNext (.ref I)) Q E s := by
  refine wpAny_pyNext_range_item st (by omega) fun h' hit' hs' => hQ _ h' _ ⟨_, rfl⟩ ?_ fun b o hb e => hs'.extBut b o (fun h => hb (by simp [h])) e
  rw [show a + ((i + 1 : Nat) : Int) * c = a + (i : Int) * c + c by push_cast; rw [Int.add_mul, Int.one_mul, Int.add_assoc], show (n : Int) - ((i + 1 : Nat) : Int) = (n : Int) - (i : Int) - 1 by push_cast; omega]
  exact hit'
def hAdr (A : Around) : List Addr := match A.handled with
  | some (.ref a) => [a]
  | _ => []
theorem mem_hAdr {A : Around} {d : Addr} (h : d ∈ hAdr A) : A.handled = some (.ref d) := by
  unfold hAdr at h
  split at h
  · rename_i a e
    rw [List.mem_singleton.mp h]
    exact e
  · cases h
theorem HB.frame {A : Around} {h h' : Heap} (hb : HB h A) (k : ∀ b ∈ hAdr A, ∀ o, h.get? b = some o → h'.get? b = some o) : HB h' A := hb.mono fun a o ea eo => k a (by unfold hAdr; rw [ea]; simp) o eo
theorem walks_list {prog : Program} {w : World} {A : Around} (I ax : Addr) (hne : ax ≠ I) (items : Array Value) (na : ∀ a, A.handled = some (.ref a) → a ≠ I) :
    Walks prog w A I (I :: ax :: hAdr A) [I] items.size (fun i v => items[i]? = some v) (fun i h => h.IsListIter I ax i ∧ h.IsList ax items ∧ HB h A) where
  sub := fun b hb => by simp at hb; simp [hb]
  frame := fun _ _ _ st hk => ⟨st.1.at fun o e => hk I (by simp) o e, st.2.1.at fun o e => hk ax (by simp) o e, st.2.2.frame fun b hb => hk b (by simp [hb])⟩
  item := fun i s Q E hi st hQ => by
    refine wpAny_pyNext_list_item st.1 st.2.1 (x := items[i]) (by simp [hi]) fun h' hit' hs' => ?_
    exact hQ _ h' s.toks (by simp [hi]) ⟨hit', st.2.1.extBut hs'.extBut hne, st.2.2.mono fun a o ea eo => hs'.extBut a o (na a ea) eo⟩ fun b o hb e => hs'.extBut b o (fun h => hb (by simp [h])) e
  done := fun s Q E st hQ => next_list_end st.2.2 na st.1 st.2.1 (by simp) fun h' he' => hQ h' s.toks fun b o hb e => he' b o (fun h => hb (by simp [h])) e
  self := fun _ _ _ _ st hQ => wpAny_pyIter_listiter st.1 hQ
end L2
end
section
namespace L2
open PySem PySem.Spec PyProof.Rows
abbrev Key := Sum Int Str
def keyIs : Key → Value → Bool
  | .inl k, v => Value.isInt k v
  | .inr x, v => Value.isStrOf x v
def keyH (w : World) : Key → Int
  | .inl k => hashInt k
  | .inr x => hashStr w x
theorem keyIs_shape : ∀ {k : Key} {v : Value}, keyIs k v = true → (∃ i t, k = Sum.inl i ∧ v = Value.int i t) ∨ (∃ x t, k = Sum.inr x ∧ v = Value.str x t)
  | .inl i, v, h => by
    obtain ⟨t, e⟩ := Value.isInt_shape (k := i) (v := v) h
    exact .inl ⟨i, t, rfl, e⟩
  | .inr x, v, h => by
    obtain ⟨t, e⟩ := Value.isStrOf_shape (x := x) (v := v) h
    exact .inr ⟨x, t, rfl, e⟩
theorem keyIs_int (i : Int) (t : Tok) : keyIs (.inl i) (.int i t) = true := by simp [keyIs, Value.isInt]
theorem keyIs_str (x : Str) (t : Tok) : keyIs (.inr x) (.str x t) = true := by simp [keyIs, Value.isStrOf]
theorem key_ll (a b : Int) : decide ((Sum.inl a : Key) = Sum.inl b) = (a == b) := by
  by_cases e : a = b
  · subst e; simp
  · have h : ¬ (Sum.inl a : Key) = Sum.inl b := fun q => e (Sum.inl.inj q)
    rw [decide_eq_false h]
    exact (beq_eq_false_iff_ne.mpr e).symm
theorem key_rr (a b : Str) : decide ((Sum.inr a : Key) = Sum.inr b) = decide (a = b) := by
  by_cases e : a = b
  · subst e; simp
  · have h : ¬ (Sum.inr a : Key) = Sum.inr b := fun q => e (Sum.inr.inj q)
    rw [decide_eq_false h, decide_eq_false e]
theorem key_lr (a : Int) (b : Str) : decide ((Sum.inl a : Key) = Sum.inr b) = false := decide_eq_false (fun q => nomatch q)
theorem key_rl (a : Str) (b : Int) : decide ((Sum.inr a : Key) = Sum.inl b) = false := decide_eq_false (fun q => nomatch q)
def mixKind (prog : Program) (w : World) : PySem.KeyKind prog w Key where
  is := keyIs
  hash := keyH w
  inj := fun v a b ha hb => by
    rcases keyIs_shape ha with ⟨i, t, rfl, rfl⟩ | ⟨x, t, rfl, rfl⟩
    · rcases keyIs_shape hb with ⟨j, u, rfl, e⟩ | ⟨y, u, rfl, e⟩
      · injection e with e1 _; rw [e1]
      · exact nomatch e
    · rcases keyIs_shape hb with ⟨j, u, rfl, e⟩ | ⟨y, u, rfl, e⟩
      · exact nomatch e
      · injection e with e1 _; rw [e1]
  byValue := fun k v h => by
    rcases keyIs_shape h with ⟨i, t, rfl, rfl⟩ | ⟨x, t, rfl, rfl⟩ <;> rfl
  pyHash := fun hv h => by
    rcases keyIs_shape hv with ⟨i, t, rfl, rfl⟩ | ⟨x, t, rfl, rfl⟩
    · exact wpAny_pyHash_int h
    · exact wpAny_pyHash_str h
  eqBool := fun hu hv h => by
    rcases keyIs_shape hu with ⟨i, t, rfl, rfl⟩ | ⟨x, t, rfl, rfl⟩
    · rcases keyIs_shape hv with ⟨j, u, rfl, rfl⟩ | ⟨y, u, rfl, rfl⟩
      · rw [key_ll] at h; exact wpAny_eqBool_int h
      · rw [key_lr] at h; exact SeqAt.EqAt.int_str i t y u _ _ _ _ h
    · rcases keyIs_shape hv with ⟨j, u, rfl, rfl⟩ | ⟨y, u, rfl, rfl⟩
      · rw [key_rl] at h; exact SeqAt.EqAt.str_int x t j u _ _ _ _ h
      · rw [key_rr] at h; exact wpAny_eqBool_str h
  «strs» := fun k x t v h => by
    rcases keyIs_shape h with ⟨i, u, rfl, e⟩ | ⟨y, u, rfl, e⟩
    · exact nomatch e
    · injection e with e1 _
      subst e1
      cases v <;> rfl
theorem mixKind_int (prog : Program) (w : World) (i : Int) (t : Tok) : (mixKind prog w).is (.inl i) (.int i t) = true := keyIs_int i t
theorem mixKind_str (prog : Program) (w : World) (x : Str) (t : Tok) : (mixKind prog w).is (.inr x) (.str x t) = true := keyIs_str x t
end L2
namespace L2
open PySem PySem.Spec PyProof.Rows
inductive V where
  | non | bl (b : Bool) | int (i : Int) | str (x : Str) | byt (b : Array UInt8) | flt (b : UInt64) | ref (a : Addr) | ty (n : String)
  deriving DecidableEq
def RelV : V → Value → Prop
  | .non, u => u = Value.none
  | .bl b, u => u = Value.bool b
  | .int i, u => ∃ t, u = Value.int i t
  | .str x, u => ∃ t, u = Value.str x t
  | .byt b, u => ∃ t, u = Value.bytes b t
  | .flt b, u => ∃ t, u = Value.float b t
  | .ref a, u => u = Value.ref a
  | .ty n, u => u = Value.type n
abbrev Vals : List V → List Value → Prop := Paired RelV
theorem Vals.length {xs : List V} {us : List Value} (r : Vals xs us) : xs.length = us.length := Paired.length r
theorem Vals.get : ∀ {xs : List V} {us : List Value} {i : Nat} {x : V}, Vals xs us → xs[i]? = some x → ∃ u, us[i]? = some u ∧ RelV x u
  | _, _, _, _, .nil, e => by simp at e
  | _, _, 0, _, .cons r _, e => by simp at e; subst e; exact ⟨_, rfl, r⟩
  | _, _, i + 1, x, .cons _ t, e => by
    obtain ⟨u, h1, h2⟩ := Vals.get (i := i) (x := x) t (by simpa using e)
    exact ⟨u, by simpa using h1, h2⟩
theorem Vals.set {x : V} {u : Value} (r : RelV x u) : ∀ {xs : List V} {us : List Value} (i : Nat), Vals xs us → Vals (xs.set i x) (us.set i u)
  | _, _, _, .nil => .nil
  | _, _, 0, .cons _ t => .cons r t
  | _, _, i + 1, .cons q t => .cons q (Vals.set r i t)
theorem Vals.append : ∀ {xs ys : List V} {us ws : List Value}, Vals xs us → Vals ys ws → Vals (xs ++ ys) (us ++ ws)
  | _, _, _, _, .nil, s => s
  | _, _, _, _, .cons r t, s => .cons r (Vals.append t s)
theorem Vals.take : ∀ {xs : List V} {us : List Value} (n : Nat), Vals xs us → Vals (xs.take n) (us.take n)
  | _, _, 0, _ => .nil
  | _, _, _ + 1, .nil => .nil
  | _, _, n + 1, .cons r t => .cons r (Vals.take n t)
theorem Vals.drop : ∀ {xs : List V} {us : List Value} (n : Nat), Vals xs us → Vals (xs.drop n) (us.drop n)
  | _, _, 0, r => r
  | _, _, _ + 1, .nil => .nil
  | _, _, n + 1, .cons _ t => Vals.drop n t
def RelO : Option V → Option Value → Prop
  | some v, some u => RelV v u
  | none, none => True
  | _, _ => False
def KV {κ : Type} : List (κ × V) → List (κ × Value) → Prop := Paired fun (p : κ × V) (q : κ × Value) => p.1 = q.1 ∧ RelV p.2 q.2
def kV : Key → V
  | .inl i => .int i
  | .inr x => .str x
inductive TabS where
  | tab (q : Str) (ln cl : Value)
  | code (q : Str)
inductive HO where
  /-- a list -/
  | lst (xs : List V)
  /-- a tuple (never changes) -/
  | tup (xs : List V)
  /-- a dict whose keys are ints and texts; one whose keys are tuples of ints and texts (the empty one is both) -/
  | dK (kvs : List (Key × V)) | dT (kvs : List (List Key × V))
  /-- a set of ints: its members, its size -/
  | set (S : Int → Bool) (n : Nat)
  /-- an instance of the class at C, its dict at dx, its attributes -/
  | ins (C dx : Addr) (fs : List (Str × V))
  /-- the dict of the instance at x -/
  | own (x : Addr)
  /-- the dict of an exception -/
  | xd (fs : List (Str × V))
  /-- a bound method, f of x -/
  | met (f x : Addr)
  /-- a range object lo, lo + 1, .. below hi -/
  | rng (lo hi : Int)
  /-- a thing that is known to the object (the script; a dict while a loop walks it): read, never written while it is so -/
  | frz (o : Obj) (u : HO)
  /-- a code object's table -/
  | tbl (ps : TabS)
  /-- any other thing, by what is true of its one object (a def of one's own: SetO a S n := HO.ext fun h => ..) -/
  | ext (φ : Heap → Prop)
abbrev Hp := Addr → Option HO
def upd (H : Hp) (a : Addr) (o : HO) : Hp := fun b => if b = a then some o else H b
theorem upd_same {H : Hp} {a : Addr} {o : HO} : upd H a o a = some o := by unfold upd; rw [if_pos rfl]
theorem upd_ne {H : Hp} {a b : Addr} {o : HO} (h : b ≠ a) : upd H a o b = H b := by unfold upd; rw [if_neg h]
theorem upd_upd {H : Hp} {a : Addr} {o u : HO} : upd (upd H a o) a u = upd H a u := by
  funext b; unfold upd; split <;> rfl
theorem ne_of {H : Hp} {a b : Addr} {o u : HO} (h : H a = some o) (h' : H b = some u) (d : o ≠ u) : a ≠ b := by
  intro e; subst e; rw [h] at h'; exact d (Option.some.inj h')
theorem ne_of_none {H : Hp} {a b : Addr} {o : HO} (h : H a = some o) (h' : H b = none) : a ≠ b := by
  intro e; subst e; rw [h] at h'; cases h'
section
variable (P : Program) (w : World)
def ObjOk (H : Hp) (h : Heap) (a : Addr) : HO → Prop
  | .lst xs => xs.length ≤ sizeLine ∧ ∃ (its : List Value) (n : Nat), Vals xs its ∧ h.get? a = some { cls := .type "list", data := .seq its.toArray n }
  | .tup xs => xs.length ≤ sizeLine ∧ ∃ its : List Value, Vals xs its ∧ IsTup h a its.toArray
  | .dK kvs => kvs.length ≤ sizeLine ∧ (a == sysModules) = false ∧ ∃ vs, KV kvs vs ∧ h.DictOf (mixKind P w) a vs
  | .dT kvs => kvs.length ≤ sizeLine ∧ (a == sysModules) = false ∧ ∃ xs : List (List Key × Addr × Value),
      Paired (fun (p : List Key × V) (q : List Key × Addr × Value) => p.1 = q.1 ∧ H q.2.1 = some (.tup (p.1.map kV)) ∧ RelV p.2 q.2.2) kvs xs ∧
      ∃ o es ep, h.get? a = some o ∧ o.ExactDict ∧ o.data = .dict es ep ∧ es.toList = xs.map (entryOfKey (tupleKind (mixKind P w))) ∧ (xs.map (·.1)).Nodup
  | .set S n => h.SetOf (intKind P w) a S n
  | .ins C dx fs => H dx = some (.own a) ∧ fs.length ≤ 1000 ∧ dx ≠ a ∧ h.get? a = some (PySem.W.instObj C dx) ∧
      ∃ mA, h.Ns1 dx mA ∧ (∀ f, RelO (fs.lookup f) (mA f)) ∧ PySem.Within mA (fs.map (·.1))
  | .own _ => ∃ o, h.get? a = some o
  | .xd fs => ∃ mA, h.Ns1 a mA ∧ ∀ f, RelO (fs.lookup f) (mA f)
  | .rng lo hi => ∃ t u v, h.get? a = some { cls := .type "range", data := .fields #[.int lo t, .int hi u, .int 1 v] }
  | .frz o u => h.get? a = some o ∧ ObjOk H h a u
  | .tbl (.tab q ln cl) => h.get? a = some { cls := .none, data := .fields #[] } ∨ ∃ c, h.get? a = some { cls := .none, data := .fields #[ln, cl, .ref c] } ∧ H c = some (.tbl (.code q))
  | .tbl (.code q) => h.CodeRec (.ref a) q
  | .met f x => h.get? a = some (PySem.W.methodObj (.ref f) (.ref x))
  | .ext φ => φ h ∧ (∃ o, h.get? a = some o) ∧ ∀ h1 h2 : Heap, φ h1 → (∀ o, h1.get? a = some o → h2.get? a = some o) → φ h2
def HOk (H : Hp) (h : Heap) : Prop := ∀ a o, H a = some o → ObjOk P w H h a o
end
section
variable {P : Program} {w : World} {H H' : Hp} {h h' : Heap} {a : Addr} {o : HO}
theorem ObjOk.lt (x : ObjOk P w H h a o) : a < h.objs.size := by
  cases o with
  | lst xs => obtain ⟨_, _, _, _, e⟩ := x; exact Heap.lt_size e
  | tup xs => obtain ⟨_, _, _, p⟩ := x; exact p.lt
  | dK kvs => obtain ⟨_, _, _, _, o, _, _, e, _⟩ := x; exact Heap.lt_size e
  | dT kvs => obtain ⟨_, _, _, _, o, _, _, e, _⟩ := x; exact Heap.lt_size e
  | set S n => obtain ⟨o, _, _, _, e, _⟩ := x; exact Heap.lt_size e
  | ins C dx fs => obtain ⟨_, _, _, e, _⟩ := x; exact Heap.lt_size e
  | own y => obtain ⟨_, e⟩ := x; exact Heap.lt_size e
  | xd fs => obtain ⟨_, ⟨_, _, _, e, _⟩, _⟩ := x; exact Heap.lt_size e
  | rng lo hi => obtain ⟨_, _, _, e⟩ := x; exact Heap.lt_size e
  | frz ob u => obtain ⟨e, _⟩ := x; exact Heap.lt_size e
  | tbl ps => cases ps with
    | tab q ln cl => rcases x with e | ⟨c, e, _⟩ <;> exact Heap.lt_size e
    | code q => obtain ⟨c, o, vs, t, e1, e2, _⟩ := x; cases e1; exact Heap.lt_size e2
  | met f y => exact Heap.lt_size (show h.get? a = some _ from x)
  | ext φ => obtain ⟨_, ⟨_, e⟩, _⟩ := x; exact Heap.lt_size e
theorem Paired.mapP {α β : Type} {F G : α → β → Prop} : ∀ {l₁ : List α} {l₂ : List β}, Paired F l₁ l₂ → (∀ a b, F a b → G a b) → Paired G l₁ l₂
  | _, _, .nil, _ => .nil
  | _, _, .cons r t, f => .cons (f _ _ r) (Paired.mapP t f)
def Fix : HO → Prop
  | .tup _ => True
  | .tbl _ => True
  | _ => False
abbrev FixO := { u : HO // Fix u }
theorem ObjOk.stay (x : ObjOk P w H h a o) (k : ∀ b u, (b = a ∨ H b = some (.own a)) → h.get? b = some u → h'.get? b = some u)
    (ho : ∀ b, H b = some (.own a) → H' b = some (.own a)) (ht : ∀ (b : Addr) (u : FixO), H b = some u.1 → H' b = some u.1) : ObjOk P w H' h' a o := by
  induction o with
  | lst xs => obtain ⟨z, its, n, r, e⟩ := x; exact ⟨z, its, n, r, k _ _ (.inl rfl) e⟩
  | tup xs => obtain ⟨z, its, r, ob, e, c⟩ := x; exact ⟨z, its, r, ob, k _ _ (.inl rfl) e, c⟩
  | dK kvs => obtain ⟨z, y, vs, r, ob, es, ep, e, c⟩ := x; exact ⟨z, y, vs, r, ob, es, ep, k _ _ (.inl rfl) e, c⟩
  | dT kvs =>
    obtain ⟨z, y, xs, r, ob, es, ep, e, c⟩ := x
    exact ⟨z, y, xs, Paired.mapP r fun p q z => ⟨z.1, ht _ ⟨.tup _, trivial⟩ z.2.1, z.2.2⟩, ob, es, ep, k _ _ (.inl rfl) e, c⟩
  | set S n => obtain ⟨ob, es, ep, t, e, c⟩ := x; exact ⟨ob, es, ep, t, k _ _ (.inl rfl) e, c⟩
  | ins C dx fs =>
    obtain ⟨d, z, ne, e, mA, ⟨od, es, ep, e2, c⟩, r⟩ := x
    exact ⟨ho _ d, z, ne, k _ _ (.inl rfl) e, mA, ⟨od, es, ep, k _ _ (.inr d) e2, c⟩, r⟩
  | own y => obtain ⟨ob, e⟩ := x; exact ⟨ob, k _ _ (.inl rfl) e⟩
  | xd fs => obtain ⟨mA, ⟨od, es, ep, e, c⟩, r⟩ := x; exact ⟨mA, ⟨od, es, ep, k _ _ (.inl rfl) e, c⟩, r⟩
  | rng lo hi => obtain ⟨t, u, v, e⟩ := x; exact ⟨t, u, v, k _ _ (.inl rfl) e⟩
  | frz ob u ih => obtain ⟨e, q⟩ := x; exact ⟨k _ _ (.inl rfl) e, ih q⟩
  | tbl ps => cases ps with
    | tab q ln cl =>
      rcases x with e | ⟨c, e, r⟩
      · exact .inl (k a _ (.inl rfl) e)
      · exact .inr ⟨c, k a _ (.inl rfl) e, ht c ⟨.tbl (.code q), trivial⟩ r⟩
    | code q =>
      obtain ⟨c, o, vs, t, e1, e2, e3⟩ := x
      cases e1
      exact ⟨_, o, vs, t, rfl, k a _ (.inl rfl) e2, e3⟩
  | met f y =>
    have e : h.get? a = some (PySem.W.methodObj (.ref f) (.ref y)) := x
    show h'.get? a = some (PySem.W.methodObj (.ref f) (.ref y))
    exact k a _ (.inl rfl) e
  | ext φ => obtain ⟨p, ⟨o, e⟩, st⟩ := x; exact ⟨st _ _ p fun o q => k _ _ (.inl rfl) q, ⟨o, k _ _ (.inl rfl) e⟩, st⟩
theorem HOk.lt (x : HOk P w H h) (e : H a = some o) : a < h.objs.size := (x a o e).lt
theorem HOk.fresh (x : HOk P w H h) (e : h.objs.size ≤ a) : H a = none := by
  cases q : H a with
  | none => rfl
  | some u => exact absurd (Nat.lt_of_lt_of_le (x.lt q) e) (Nat.lt_irrefl _)
theorem HOk.kept (x : HOk P w H h) (k : ∀ b u, h.get? b = some u → h'.get? b = some u) : HOk P w H h' := fun a o e =>
  (x a o e).stay (fun b u _ q => k b u q) (fun _ q => q) fun _ _ q => q
theorem HOk.laid (x : HOk P w H h) (k : ∀ b u, h.get? b = some u → h'.get? b = some u) (hp : h.objs.size ≤ a) (new : ObjOk P w (upd H a o) h' a o) : HOk P w (upd H a o) h' := fun b u e => by
  have hn := x.fresh hp
  by_cases hb : b = a
  · subst hb; rw [upd_same] at e; cases e; exact new
  · rw [upd_ne hb] at e
    exact (x b u e).stay (fun c v _ q => k c v q) (fun c q => by rw [upd_ne (ne_of_none q hn)]; exact q) fun c xs q => by rw [upd_ne (ne_of_none q hn)]; exact q
end
def Rd (H : Hp) (a : Addr) (u : HO) : Prop := H a = some u ∨ ∃ o, H a = some (.frz o u)
theorem Rd.ok {P : Program} {w : World} {H : Hp} {h : Heap} {a : Addr} {u : HO} (r : Rd H a u) (x : HOk P w H h) : ObjOk P w H h a u := by
  rcases r with r | ⟨o, r⟩
  · exact x a u r
  · obtain ⟨_, q⟩ := x a _ r
    exact q
def Mut : Option HO → Prop
  | some (.lst _) => True
  | some (.dK _) => True
  | some (.dT _) => True
  | some (.set _ _) => True
  | some (.ins _ _ _) => True
  | some (.ext _) => True
  | _ => False
section
variable {P : Program} {w : World} {H : Hp} {h h' : Heap} {x e : Addr} {o' : HO}
theorem HOk.write (ok : HOk P w H h) (mu : Mut (H x)) (he : e = x ∨ H e = some (.own x)) (k : ∀ b u, b ≠ e → h.get? b = some u → h'.get? b = some u) (heo : ∃ u, h'.get? e = some u)
    (new : ObjOk P w (upd H x o') h' x o') : HOk P w (upd H x o') h' := fun b u q => by
  have nown : ∀ c y, H c = some (.own y) → c ≠ x := fun c y r z => by subst z; rw [r] at mu; exact mu
  have ntup : ∀ (c : Addr) (u : FixO), H c = some u.1 → c ≠ x := fun c ⟨u, f⟩ r z => by subst z; rw [show H c = some u from r] at mu; cases u <;> first | exact mu | exact f
  by_cases hb : b = x
  · subst hb; rw [upd_same] at q; cases q; exact new
  · rw [upd_ne hb] at q
    by_cases hbe : b = e
    · have q' : H b = some (.own x) := by
        rcases he with z | z
        · exact absurd (hbe.trans z) hb
        · rw [hbe]; exact z
      rw [q] at q'; cases q'
      obtain ⟨v, hv⟩ := heo
      exact ⟨v, by rw [hbe]; exact hv⟩
    · refine (ok b u q).stay (fun c v hc r => k c v ?_ r) (fun c r => by rw [upd_ne (nown c b r)]; exact r) fun c xs r => by rw [upd_ne (ntup c xs r)]; exact r
      rcases hc with rfl | hc
      · exact hbe
      · rintro rfl
        rcases he with z | z
        · exact nown c b hc z
        · rw [hc] at z; cases z; exact hb rfl
end
structure Un (fs ex : List Addr) (H H' : Hp) (h h' : Heap) : Prop where
  keep : ∀ b o, h.get? b = some o → H b = none → b ∉ fs → b ∉ ex → h'.get? b = some o
  slot : ∀ b o, h.get? b = some o → H b = none → b ∈ fs → b ∉ ex → ∃ sl, h'.get? b = some { o with slots := sl }
  free : ∀ b o, h.get? b = some o → H b = none → b ∉ ex → H' b = none
  there : ∀ b o, h.get? b = some o → b ∉ ex → ∃ o', h'.get? b = some o'
  tups : ∀ b xs, H b = some (.tup xs) → H' b = some (.tup xs)
  frzs : ∀ b o u, H b = some (.frz o u) → H' b = some (.frz o u)
  tbls : ∀ b ps, H b = some (.tbl ps) → H' b = some (.tbl ps)
section
variable {fs fs' ex ex' : List Addr} {H H1 H2 : Hp} {h h1 h2 h' : Heap} {a x e : Addr} {o : HO}
theorem Un.any (u : Un fs ex H H1 h h1) {b : Addr} {ob : Obj} (q : h.get? b = some ob) (n : H b = none) (hx : b ∉ ex) : ∃ sl, h1.get? b = some { ob with slots := sl } := by
  by_cases hb : b ∈ fs
  · exact u.slot b ob q n hb hx
  · exact ⟨ob.slots, u.keep b ob q n hb hx⟩
theorem Un.kept (k : ∀ b u, h.get? b = some u → h'.get? b = some u) : Un fs ex H H h h' :=
  ⟨fun b ob q _ _ _ => k b ob q, fun b ob q _ _ _ => ⟨ob.slots, k b ob q⟩, fun _ _ _ n _ => n, fun b ob q _ => ⟨ob, k b ob q⟩, fun _ _ q => q, fun _ _ _ q => q, fun _ ps q => (by rw [q])⟩
theorem Un.refl : Un fs ex H H h h := Un.kept fun _ _ q => q
theorem Un.laid (k : ∀ b u, h.get? b = some u → h'.get? b = some u) (hp : h.objs.size ≤ a) (hn : H a = none) : Un fs ex H (upd H a o) h h' where
  keep := fun b u q _ _ _ => k b u q
  slot := fun b u q _ _ _ => ⟨u.slots, k b u q⟩
  free := fun b u q n _ => by rw [upd_ne (Nat.ne_of_lt (Nat.lt_of_lt_of_le (Heap.lt_size q) hp))]; exact n
  there := fun b u q _ => ⟨u, k b u q⟩
  tups := fun b xs q => by rw [upd_ne (ne_of_none q hn)]; exact q
  frzs := fun b u xs q => by rw [upd_ne (ne_of_none q hn)]; exact q
  tbls := fun b ps q => (by rw [upd_ne (ne_of_none q hn), q])
theorem Un.write (mu : Mut (H x)) (he : e = x ∨ H e = some (.own x)) (k : ∀ b u, b ≠ e → h.get? b = some u → h'.get? b = some u) (heo : ∃ u, h'.get? e = some u) : Un fs ex H (upd H x o) h h' := by
  have hx : ∀ b, H b = none → b ≠ x := fun b n z => by subst z; rw [n] at mu; exact mu
  have hb : ∀ b, H b = none → b ≠ e := fun b n z => by
    subst z
    rcases he with r | r
    · exact hx b n r
    · rw [n] at r; cases r
  have hm : ∀ b u, H b = some u → ¬ Mut (some u) → b ≠ x := fun b u q nm z => by subst z; rw [q] at mu; exact nm mu
  refine ⟨fun b u q n _ _ => k b u (hb b n) q, fun b u q n _ _ => ⟨u.slots, k b u (hb b n) q⟩, fun b u q n _ => by rw [upd_ne (hx b n)]; exact n, fun b u q _ => ?_,
    fun b xs q => by rw [upd_ne (hm b _ q fun z => z)]; exact q, fun b u xs q => by rw [upd_ne (hm b _ q fun z => z)]; exact q, fun b ps q => (by rw [upd_ne (hm b _ q fun z => z), q])⟩
  by_cases hbe : b = e
  · subst hbe; exact heo
  · exact ⟨u, k b u hbe q⟩
end
def trk (h : Heap) (H : Hp) : List Addr := (List.range h.objs.size).filter fun a => (H a).isSome
def hidT (h : Heap) (H : Hp) : Heap := PySem.W.hideAll h (trk h H)
theorem hidT_size (h : Heap) (H : Hp) : (hidT h H).objs.size = h.objs.size := PySem.W.hideAll_size _ _
theorem hidT_get {h : Heap} {H : Hp} {b : Addr} {o : Obj} (e : h.get? b = some o) (n : H b = none) : (hidT h H).get? b = some o :=
  PySem.W.hideAll_get _ e fun hm => by
    have q : (H b).isSome = true := (List.mem_filter.mp hm).2
    rw [n] at q; simp at q
theorem of_hidT {h : Heap} {H : Hp} {b : Addr} {o : Obj} (e : (hidT h H).get? b = some o) : h.get? b = some o ∧ H b = none := by
  have e' : h.get? b = some o := PySem.W.of_hideAll (trk h H) e
  refine ⟨e', ?_⟩
  cases q : H b with
  | none => rfl
  | some x =>
    have hm : b ∈ trk h H := List.mem_filter.mpr ⟨List.mem_range.mpr (Heap.lt_size e'), by simp [q]⟩
    have z : (hidT h H).get? b = none := PySem.W.hideAll_none (trk h H) hm
    rw [z] at e; cases e
def allNews (g h : Heap) (L : Addr) : List (Addr × Obj) := (List.range h.objs.size).filterMap fun a => if a = L ∨ (g.get? a).isSome = true then none else (h.get? a).map fun o => (a, o)
def rest (g h : Heap) (L d : Addr) : List (Addr × Obj) := (allNews g h L).filter fun p => decide (p.1 ≠ d)
end L2
namespace L2
open PySem PySem.Spec PyProof.Rows
def BmK (mg : Str → Option Value) (h : Heap) : Prop := ∃ bm ob, mg "__builtins__" = some (.ref bm) ∧ bm ≠ builtinsNs ∧ h.get? bm = some ob ∧ ob.cls = .type "module" ∧ ob.dict = some builtinsNs ∧ ob.data = .plain
theorem BmK.keeps {mg : Str → Option Value} {h h' : Heap} (x : BmK mg h) (k : ∀ b o, h.get? b = some o → h'.get? b = some o) : BmK mg h' := let ⟨bm, ob, a, b, c, d⟩ := x; ⟨bm, ob, a, b, k _ _ c, d⟩
structure Mod (K : PySem.W.Frag) (mg : Str → Option Value) (base : Heap) : Prop where
  kin : K.In base
  glob : base.Ns mainGlobals mg
  blt : ∃ mb, base.Ns builtinsNs mb ∧ ∀ x : Str, x ≠ "__name__" → mb x = bootBuiltins x
  nolimit : base.NoLimit
  bm : BmK mg base
structure Cx where
  prog : Program
  w : World
  K : PySem.W.Frag
  mg : Str → Option Value
  base : Heap
  A : Around
  N : List Str
  s₀ : Shared
  H₀ : Hp
  env : Env
  outer : List Env
  stack : List Env
  ex : List Addr
  fn : Str → Bool
  calm : Bool
  pn : List (Addr × Obj)
  xe : Value → Shared → Prop
def frs (l : List Env) : List Addr := l.filterMap (·.frame)
abbrev Cx.fs (X : Cx) : List Addr := frs X.outer
def Vis (sc : Scope) (x : Str) : Prop := sc.names.lookup x = some .local ∨ sc.names.lookup x = some .cell ∨ sc.names.lookup x = some .free
def Loc (sc : Scope) (x : Str) : Prop := sc.names.lookup x = some .local ∨ sc.names.lookup x = some .cell
def Look (env : Env) (h : Heap) (m : Str → Option Value) (x : Str) (u : Value) : Prop :=
  (env.kindOf x = some .local ∧ m x = some u) ∨ ((env.kindOf x = some .cell ∨ env.kindOf x = some .free) ∧ ∃ c, env.cells.lookup x = some c ∧ h.IsCell c (some u))
structure Cx.Ok (X : Cx) : Prop where
  mod : Mod X.K X.mg X.base
  kind : X.env.scope.kind = .function
  glob : X.env.globals = mainGlobals
  blt : X.env.builtins = builtinsNs
  above : X.s₀.heap.objs.size ≤ X.env.locals
  inj : ∀ x y c, X.env.cells.lookup x = some c → X.env.cells.lookup y = some c → x = y
  has : ∀ x, (X.env.kindOf x = some .cell ∨ X.env.kindOf x = some .free) → ∃ c, X.env.cells.lookup x = some c
  cab : ∀ x c, X.fn x = true → X.env.cells.lookup x = some c → X.s₀.heap.objs.size ≤ c
  hd : X.calm = true → HBp X.base X.pn X.A
  frames : X.A.frames = some X.stack
  stk : X.stack = X.outer ∨ (X.stack = X.env :: X.outer ∧ X.env.frame = some X.env.locals)
  exf : ∀ b ∈ X.ex, b ≠ X.env.locals ∧ ∀ x c, X.env.cells.lookup x = some c → c ≠ b
  bs : ∀ b o, X.base.get? b = some o → X.s₀.heap.get? b = some o ∧ X.H₀ b = none
  bsz : X.base.objs.size ≤ X.s₀.heap.objs.size
  noex : ∀ b o, X.base.get? b = some o → b ∉ X.ex
  exfs : ∀ b ∈ X.ex, b ∉ X.fs
  funs : X.s₀.heap.FunFrames X.base X.outer
  frf : ∀ b ∈ X.fs, X.H₀ b = none
structure Inv (X : Cx) (pins : List (Addr × Obj)) (σ : List (Option V)) (H : Hp) (s : Shared) : Prop where
  ok : X.Ok
  os : s.os = X.s₀.os
  bare : AllBare s.gens
  base : Un X.fs X.ex X.H₀ H X.s₀.heap s.heap
  loc : ∃ m, s.heap.Ns X.env.locals m ∧ ∀ (i : Nat) (x : Str) (v : V), X.N[i]? = some x → σ[i]? = some (some v) → Vis X.env.scope x → ∃ u, RelV v u ∧ Look X.env s.heap m x u
  cell : ∀ x c, X.env.cells.lookup x = some c → ∃ v, s.heap.IsCell c v
  free : H X.env.locals = none
  freeC : ∀ x c, X.env.cells.lookup x = some c → H c = none
  pin : ∀ p ∈ X.pn ++ pins, s.heap.get? p.1 = some p.2 ∧ H p.1 = none ∧ p.1 ≠ X.env.locals ∧ p.1 ∉ X.fs ∧ ∀ v, p.2.data ≠ .cell v
  hok : HOk X.prog X.w H s.heap
  len : σ.length = X.N.length
section
variable {X : Cx} {pins : List (Addr × Obj)} {σ : List (Option V)} {H H' : Hp} {s : Shared} {h' : Heap}
theorem Cx.Ok.nofr (ok : X.Ok) {b : Addr} {o : Obj} (e : X.base.get? b = some o) : b ∉ X.fs := fun hb => by
  have := (ok.funs.mem hb).1
  rw [e] at this; cases this
theorem Inv.bs (I : Inv X pins σ H s) : ∀ b o, X.base.get? b = some o → s.heap.get? b = some o ∧ H b = none := fun b o e =>
  ⟨I.base.keep b o (I.ok.bs b o e).1 (I.ok.bs b o e).2 (I.ok.nofr e) (I.ok.noex b o e), I.base.free b o (I.ok.bs b o e).1 (I.ok.bs b o e).2 (I.ok.noex b o e)⟩
theorem Inv.bk (I : Inv X pins σ H s) : ∀ b o, X.base.get? b = some o → s.heap.get? b = some o := fun b o e => (I.bs b o e).1
theorem Inv.mod (I : Inv X pins σ H s) : Mod X.K X.mg X.base := I.ok.mod
theorem Inv.hb (I : Inv X pins σ H s) (hc : X.calm = true) : HB s.heap X.A := by
  rcases I.ok.hd hc with h | ⟨a, oe, vs, e1, e2, e3⟩
  · exact .inl h
  · exact .inr ⟨a, oe, vs, e1, e2.elim (I.bk a oe) fun m => (I.pin (a, oe) (List.mem_append_left _ m)).1, e3⟩
theorem Inv.hna (I : Inv X pins σ H s) (hc : X.calm = true) {it : Addr} (f3 : it ∈ X.ex ∨ X.s₀.heap.objs.size ≤ it) (f5 : ∀ p ∈ X.pn ++ pins, p.1 ≠ it) : ∀ a, X.A.handled = some (.ref a) → a ≠ it := fun a ea z => by
  subst z
  rcases I.ok.hd hc with h | ⟨b, oe, vs, e1, e2, e3⟩
  · rw [h] at ea; cases ea
  · rw [e1] at ea
    cases ea
    rcases e2 with e2 | e2
    · rcases f3 with z | z
      · exact I.ok.noex _ _ e2 z
      · exact absurd (Nat.lt_of_lt_of_le (Heap.lt_size e2) I.ok.bsz) (Nat.not_lt.mpr z)
    · exact f5 _ (List.mem_append_left _ e2) rfl
theorem Inv.kIn (I : Inv X pins σ H s) : X.K.In s.heap := I.ok.mod.kin.keeps I.bk
theorem Inv.fr (I : Inv X pins σ H s) : ∃ m, Fr X.base X.env.locals s.heap m :=
  let ⟨m, hn, _⟩ := I.loc
  ⟨m, hn, I.bk, Nat.le_trans I.ok.bsz I.ok.above⟩
theorem Inv.lt (I : Inv X pins σ H s) : X.env.locals < s.heap.objs.size := let ⟨_, hn, _⟩ := I.loc; hn.lt
theorem Inv.sz (I : Inv X pins σ H s) : X.s₀.heap.objs.size ≤ s.heap.objs.size := Nat.le_trans I.ok.above (Nat.le_of_lt I.lt)
theorem Inv.nofs (I : Inv X pins σ H s) {a : Addr} (h : s.heap.objs.size ≤ a) : a ∉ X.fs := fun hb => by
  obtain ⟨_, o, ho, _⟩ := I.ok.funs.mem hb
  exact absurd (Nat.lt_of_lt_of_le (Heap.lt_size ho) (Nat.le_trans I.sz h)) (Nat.lt_irrefl _)
theorem Inv.cne (I : Inv X pins σ H s) : ∀ x c, X.env.cells.lookup x = some c → c ≠ X.env.locals := fun x c e z => by
  obtain ⟨v, o, ho, hd⟩ := I.cell x c e
  obtain ⟨m, ⟨o', es, ep, ho', hd', _⟩, _⟩ := I.loc
  rw [z, ho'] at ho; cases ho; rw [hd'] at hd; cases hd
theorem Inv.funs (I : Inv X pins σ H s) : s.heap.FunFrames X.base X.outer := by
  have all : ∀ (l : List Env), (∀ b ∈ frs l, b ∈ X.fs) → X.s₀.heap.FunFrames X.base l → s.heap.FunFrames X.base l := by
    intro l
    induction l with
    | nil => intro _ _; trivial
    | cons env r ih =>
      intro hs hl
      obtain ⟨hk, ⟨L, o, hf, hn, ho, hd⟩, hr⟩ := hl
      have hL : L ∈ X.fs := hs L (by unfold frs; rw [List.filterMap_cons, hf]; exact List.mem_cons_self)
      obtain ⟨sl, e⟩ := I.base.slot L o ho (I.ok.frf L hL) hL fun z => I.ok.exfs L z hL
      exact ⟨hk, ⟨L, _, hf, hn, e, hd⟩, ih (fun b hb => hs b (by unfold frs; rw [List.filterMap_cons, hf]; exact List.mem_cons_of_mem _ hb)) hr⟩
  exact all X.outer (fun _ hb => hb) I.ok.funs
theorem Inv.stack (I : Inv X pins σ H s) : s.heap.FunFrames X.base X.stack := by
  rcases I.ok.stk with e | ⟨e, hf⟩
  · rw [e]; exact I.funs
  · rw [e]
    obtain ⟨m, hn, _⟩ := I.loc
    refine .cons (by rw [I.ok.kind]; decide) hf hn ?_ I.funs
    exact Heap.get?_none_of_le (Nat.le_trans I.ok.bsz I.ok.above)
theorem Inv.stkSub (I : Inv X pins σ H s) : ∀ b ∈ frs X.stack, b ∈ X.env.locals :: X.fs := fun b hb => by
  rcases I.ok.stk with e | ⟨e, hf⟩
  · rw [e] at hb; exact List.mem_cons_of_mem _ hb
  · rw [e] at hb
    unfold frs at hb
    rw [List.filterMap_cons, hf] at hb
    exact hb
theorem Inv.stkFree (I : Inv X pins σ H s) : ∀ b ∈ frs X.stack, H b = none := fun b hb => by
  rcases List.mem_cons.mp (I.stkSub b hb) with e | hb
  · rw [e]; exact I.free
  · obtain ⟨_, o, ho, _⟩ := I.ok.funs.mem hb
    exact I.base.free b o ho (I.ok.frf b hb) fun z => I.ok.exfs b z hb
theorem Inv.step {g' : Array GenState} {t' : Nat} {d' : Drawn} {ch : List Addr} (I : Inv X pins σ H s)
    (hch : ∀ b ∈ ch, (b ∈ X.ex ∨ X.s₀.heap.objs.size ≤ b) ∧ b ≠ X.env.locals ∧ (∀ x c, X.env.cells.lookup x = some c → c ≠ b) ∧ ∀ p ∈ X.pn ++ pins, p.1 ≠ b)
    (keep : ∀ b o, b ≠ X.env.locals → b ∉ X.fs → b ∉ ch → s.heap.get? b = some o → H b = none → h'.get? b = some o)
    (slot : ∀ b o, b ≠ X.env.locals → b ∈ X.fs → b ∉ ch → s.heap.get? b = some o → H b = none → ∃ sl, h'.get? b = some { o with slots := sl }) (free : ∀ b o, b ∉ ch → s.heap.get? b = some o → H b = none → H' b = none)
    (there : ∀ b o, b ∉ ch → s.heap.get? b = some o → ∃ o', h'.get? b = some o')
    (tups : ∀ b xs, H b = some (.tup xs) → H' b = some (.tup xs)) (frzs : ∀ b o u, H b = some (.frz o u) → H' b = some (.frz o u)) (tbls : ∀ b ps, H b = some (.tbl ps) → H' b = some (.tbl ps))
    (ns : ∀ m, s.heap.Ns X.env.locals m → h'.Ns X.env.locals m) (hok : HOk X.prog X.w H' h') (hg : AllBare g') :
    Inv X pins σ H' { s with heap := h', gens := g', drawn := d', toks := t' } := by
  have neL : ∀ b o, X.s₀.heap.get? b = some o → b ≠ X.env.locals := fun b o e => Nat.ne_of_lt (Nat.lt_of_lt_of_le (Heap.lt_size e) I.ok.above)
  have neC : ∀ b o, X.s₀.heap.get? b = some o → b ∉ X.ex → b ∉ ch := fun b o e hx hb => by
    rcases (hch b hb).1 with z | z
    · exact hx z
    · exact absurd (Nat.lt_of_lt_of_le (Heap.lt_size e) z) (Nat.lt_irrefl _)
  have cellK : ∀ x c, X.env.cells.lookup x = some c → ∀ v, s.heap.IsCell c v → h'.IsCell c v := fun x c e v ⟨o, ho, hd⟩ => by
    have nch : c ∉ ch := fun z => (hch c z).2.2.1 x c e rfl
    by_cases hc : c ∈ X.fs
    · obtain ⟨sl, q⟩ := slot c o (I.cne x c e) hc nch ho (I.freeC x c e)
      exact ⟨_, q, hd⟩
    · exact ⟨o, keep c o (I.cne x c e) hc nch ho (I.freeC x c e), hd⟩
  refine ⟨I.ok, I.os, hg, ⟨fun b o e n hb hx => ?_, fun b o e n hb hx => ?_, fun b o e n hx => ?_, fun b o e hx => ?_, fun b xs e => tups b xs (I.base.tups b xs e), fun b o xs e => frzs b o xs (I.base.frzs b o xs e), fun b ps e => ?_⟩, ?_, fun x c e => ?_, ?_, fun x c e => ?_, fun p hp => ?_, hok, I.len⟩
  · exact keep b o (neL b o e) hb (neC b o e hx) (I.base.keep b o e n hb hx) (I.base.free b o e n hx)
  · obtain ⟨sl, e1⟩ := I.base.slot b o e n hb hx
    obtain ⟨sl', e2⟩ := slot b _ (neL b o e) hb (neC b o e hx) e1 (I.base.free b o e n hx)
    exact ⟨sl', e2⟩
  · obtain ⟨o', e1⟩ := I.base.there b o e hx
    exact free b o' (neC b o e hx) e1 (I.base.free b o e n hx)
  · obtain ⟨o', e1⟩ := I.base.there b o e hx
    exact there b o' (neC b o e hx) e1
  · exact tbls b ps (I.base.tbls b ps e)
  · obtain ⟨m, hn, hl⟩ := I.loc
    refine ⟨m, ns m hn, fun i x v e1 e2 e3 => ?_⟩
    obtain ⟨u, r, l⟩ := hl i x v e1 e2 e3
    refine ⟨u, r, ?_⟩
    rcases l with l | ⟨k, c, e, z⟩
    · exact .inl l
    · exact .inr ⟨k, c, e, cellK x c e _ z⟩
  · obtain ⟨v, z⟩ := I.cell x c e
    exact ⟨v, cellK x c e v z⟩
  · obtain ⟨m, ⟨o, _, _, ho, _⟩, _⟩ := I.loc
    exact free _ o (fun z => (hch _ z).2.1 rfl) ho I.free
  · obtain ⟨v, o, ho, hd⟩ := I.cell x c e
    exact free c o (fun z => (hch c z).2.2.1 x c e rfl) ho (I.freeC x c e)
  · obtain ⟨e, n, ne, nf, d⟩ := I.pin p hp
    have nch : p.1 ∉ ch := fun z => (hch p.1 z).2.2.2 p hp rfl
    exact ⟨keep p.1 p.2 ne nf nch e n, free p.1 p.2 nch e n, ne, nf, d⟩
theorem Inv.un {t' : Nat} (I : Inv X pins σ H s) (u : Un X.fs [] H H' s.heap h') (hok : HOk X.prog X.w H' h') : Inv X pins σ H' { s with heap := h', toks := t' } := by
  obtain ⟨m, ⟨o, es, ep, ho, r⟩, _⟩ := id I.loc
  obtain ⟨sl, hL⟩ := u.any ho I.free (by simp)
  exact I.step (g' := s.gens) (d' := s.drawn) (ch := []) (fun _ z => nomatch z) (fun b o _ hb _ e n => u.keep b o e n hb (by simp)) (fun b o _ hb _ e n => u.slot b o e n hb (by simp)) (fun b o _ e n => u.free b o e n (by simp)) (fun b o _ e => u.there b o e (by simp)) u.tups u.frzs u.tbls (fun m' hm => by
    obtain ⟨o', es', ep', ho', r'⟩ := hm
    rw [ho] at ho'; cases ho'
    exact ⟨_, es', ep', hL, r'⟩) hok I.bare
theorem Inv.call {g' : Array GenState} {t' : Nat} {d' : Drawn} {ch : List Addr} (I : Inv X pins σ H s) (u : Un (frs X.stack) ch H H' s.heap h') (hok : HOk X.prog X.w H' h') (hg : AllBare g')
    (hch : ∀ b ∈ ch, (b ∈ X.ex ∨ X.s₀.heap.objs.size ≤ b) ∧ b ≠ X.env.locals ∧ (∀ x c, X.env.cells.lookup x = some c → c ≠ b) ∧ ∀ p ∈ X.pn ++ pins, p.1 ≠ b) :
    Inv X pins σ H' { s with heap := h', gens := g', drawn := d', toks := t' } := by
  obtain ⟨m, ⟨o, es, ep, ho, r⟩, _⟩ := id I.loc
  obtain ⟨sl, hL⟩ := u.any ho I.free fun z => (hch _ z).2.1 rfl
  exact I.step (ch := ch) hch (fun b o hL hb hc e n => u.keep b o e n (fun z => (List.mem_cons.mp (I.stkSub b z)).elim hL hb) hc) (fun b o _ _ hc e n => u.any e n hc) (fun b o hc e n => u.free b o e n hc) (fun b o hc e => u.there b o e hc) u.tups u.frzs u.tbls (fun m' hm => by
    obtain ⟨o', es', ep', ho', r'⟩ := hm
    rw [ho] at ho'; cases ho'
    exact ⟨_, es', ep', hL, r'⟩) hok hg
theorem Inv.turned {t' : Nat} {it : Addr} (I : Inv X pins σ H s) (k : ∀ b o, b ≠ it → s.heap.get? b = some o → h'.get? b = some o) (hn : H it = none) (hL : it ≠ X.env.locals)
    (h1 : it ∈ X.ex ∨ X.s₀.heap.objs.size ≤ it) (h2 : ∀ x c, X.env.cells.lookup x = some c → c ≠ it) (h3 : ∀ p ∈ X.pn ++ pins, p.1 ≠ it) : Inv X pins σ H { s with heap := h', toks := t' } := by
  have nit : ∀ b u, H b = some u → b ≠ it := fun b u e z => by rw [z, hn] at e; cases e
  refine I.step (g' := s.gens) (d' := s.drawn) (ch := [it]) (fun b hb => ?_) (fun b o _ _ hc e _ => k b o (fun z => hc (by simp [z])) e) (fun b o _ _ hc e _ => ⟨o.slots, k b o (fun z => hc (by simp [z])) e⟩) (fun _ _ _ _ n => n)
    (fun b o hc e => ⟨o, k b o (fun z => hc (by simp [z])) e⟩) (fun _ _ e => e) (fun _ _ _ e => e) (fun b ps e => (by rw [e])) (fun m hm => ?_) (fun b u e => ?_) I.bare
  · have e : b = it := by simpa using hb
    subst e
    exact ⟨h1, hL, h2, h3⟩
  · obtain ⟨o, es, ep, ho, r⟩ := hm
    exact ⟨o, es, ep, k _ o (Ne.symm hL) ho, r⟩
  · refine (I.hok b u e).stay (fun c v hc q => k c v ?_ q) (fun _ q => q) fun _ _ q => q
    rcases hc with z | z
    · rw [z]; exact nit b u e
    · exact nit c _ z
theorem Inv.tok (I : Inv X pins σ H s) (t : Nat) : Inv X pins σ H { s with toks := t } := I.un (h' := s.heap) (t' := t) Un.refl I.hok
theorem Inv.kept {t' : Nat} (I : Inv X pins σ H s) (k : ∀ b u, s.heap.get? b = some u → h'.get? b = some u) : Inv X pins σ H { s with heap := h', toks := t' } := I.un (Un.kept k) (I.hok.kept k)
theorem Inv.laid {a : Addr} {o : HO} {t' : Nat} (I : Inv X pins σ H s) (k : ∀ b u, s.heap.get? b = some u → h'.get? b = some u) (hp : s.heap.objs.size ≤ a) (new : ObjOk X.prog X.w (upd H a o) h' a o) :
    Inv X pins σ (upd H a o) { s with heap := h', toks := t' } := I.un (Un.laid k hp (I.hok.fresh hp)) (I.hok.laid k hp new)
theorem Inv.write {x e : Addr} {o : HO} {t' : Nat} (I : Inv X pins σ H s) (mu : Mut (H x)) (he : e = x ∨ H e = some (.own x)) (k : ∀ b u, b ≠ e → s.heap.get? b = some u → h'.get? b = some u) (heo : ∃ u, h'.get? e = some u)
    (new : ObjOk X.prog X.w (upd H x o) h' x o) : Inv X pins σ (upd H x o) { s with heap := h', toks := t' } := I.un (Un.write mu he k heo) (I.hok.write mu he k heo new)
theorem Inv.weak {σ' : List (Option V)} (I : Inv X pins σ H s) (hl : σ'.length = σ.length) (w : ∀ (i : Nat) v, σ'[i]? = some (some v) → σ[i]? = some (some v)) : Inv X pins σ' H s :=
  ⟨I.ok, I.os, I.bare, I.base, let ⟨m, hn, hl'⟩ := I.loc; ⟨m, hn, fun i x v e1 e2 e3 => hl' i x v e1 (w i v e2) e3⟩, I.cell, I.free, I.freeC, I.pin, I.hok, hl.trans I.len⟩
theorem Inv.pins_of {pins' : List (Addr × Obj)} (I : Inv X pins σ H s) (h : ∀ p ∈ pins', s.heap.get? p.1 = some p.2 ∧ H p.1 = none ∧ p.1 ≠ X.env.locals ∧ p.1 ∉ X.fs ∧ ∀ v, p.2.data ≠ .cell v) : Inv X pins' σ H s :=
  ⟨I.ok, I.os, I.bare, I.base, I.loc, I.cell, I.free, I.freeC, fun p hp => (List.mem_append.mp hp).elim (fun z => I.pin p (List.mem_append_left _ z)) (h p), I.hok, I.len⟩
theorem nodup_ix {N : List Str} (hN : N.Nodup) {i j : Nat} {x : Str} (a : N[i]? = some x) (b : N[j]? = some x) : i = j := by
  obtain ⟨h1, e1⟩ := List.getElem?_eq_some_iff.mp a
  obtain ⟨h2, e2⟩ := List.getElem?_eq_some_iff.mp b
  exact (List.getElem_inj hN).mp (e1.trans e2.symm)
theorem store_ok2 {M : Model} {A : Around} {E : Value → Shared → Prop} {i : Nat} {x : Str} {v : V} {u : Value} {Q : Unit → Shared → Prop} (I : Inv X pins σ H s) (hN : X.N.Nodup) (hi : X.N[i]? = some x) (hx : Loc X.env.scope x) (r : RelV v u)
    (h : ∀ s', Inv X pins (σ.set i (some v)) H s' → (∃ a, Heap.SameBut a s.heap s'.heap ∧ (a = X.env.locals ∨ X.env.cells.lookup x = some a)) → Q () s') (hf : X.fn x = true ∨ X.env.scope.names.lookup x = some .local := by first | exact .inl rfl | exact .inr rfl | assumption) : wpAny M A (storeName X.env x u) Q E s := by
  obtain ⟨m, hn, hl⟩ := id I.loc
  have hcls : (X.env.scope.kind == .class || (X.env.scope.kind == .module && X.env.locals != X.env.globals)) = false := by rw [I.ok.kind]; rfl
  have hiσ : i < σ.length := by rw [I.len]; exact (List.getElem?_eq_some_iff.mp hi).1
  have cne := I.cne
  have tracked : ∀ {a : Addr} {h' : Heap}, (∃ o, s.heap.get? a = some o ∧ H a = none) → Heap.SameBut a s.heap h' → HOk X.prog X.w H h' := fun {a h'} ha hs b ob e => by
    obtain ⟨_, _, hfree⟩ := ha
    refine (I.hok b ob e).stay (fun c w' hc q => (hs.2 c ?_).trans q) (fun _ q => q) fun _ _ q => q
    rintro rfl
    rcases hc with rfl | hc
    · rw [hfree] at e; cases e
    · rw [hfree] at hc; cases hc
  rcases hx with hk | hk
  · refine wpAny_storeName_local hk hn (fun h' hn' hs => ?_) hcls
    obtain ⟨oL, _, _, hoL, _⟩ := id hn
    refine h _ ⟨I.ok, I.os, I.bare, ⟨fun b o e n hb hx => ?_, fun b o e n hb hx => ?_, I.base.free, fun b o e hx => ?_, I.base.tups, I.base.frzs, I.base.tbls⟩, ⟨_, hn', fun j y v' e1 e2 e3 => ?_⟩, fun y c e => ?_, I.free, I.freeC, fun p hp => ?_, tracked ⟨oL, hoL, I.free⟩ hs, by simpa using I.len⟩ ⟨_, hs, .inl rfl⟩
    · exact (hs.2 b (Nat.ne_of_lt (Nat.lt_of_lt_of_le (Heap.lt_size e) I.ok.above))).trans (I.base.keep b o e n hb hx)
    · obtain ⟨sl, e1⟩ := I.base.slot b o e n hb hx
      exact ⟨sl, (hs.2 b (Nat.ne_of_lt (Nat.lt_of_lt_of_le (Heap.lt_size e) I.ok.above))).trans e1⟩
    · obtain ⟨o', e1⟩ := I.base.there b o e hx
      exact ⟨o', (hs.2 b (Nat.ne_of_lt (Nat.lt_of_lt_of_le (Heap.lt_size e) I.ok.above))).trans e1⟩
    · by_cases hj : j = i
      · subst hj
        rw [hi] at e1; cases e1
        rw [List.getElem?_set_self hiσ] at e2
        cases e2
        exact ⟨u, r, .inl ⟨hk, by simp⟩⟩
      · rw [List.getElem?_set_ne (Ne.symm hj)] at e2
        obtain ⟨u', r', q⟩ := hl j y v' e1 e2 e3
        refine ⟨u', r', ?_⟩
        rcases q with ⟨k, e⟩ | ⟨k, c, e, z⟩
        · refine .inl ⟨k, ?_⟩
          have : y ≠ x := fun e => hj (nodup_ix hN e1 (e ▸ hi))
          simp [this, e]
        · exact .inr ⟨k, c, e, z.sameBut hs (cne y c e)⟩
    · obtain ⟨w', z⟩ := I.cell y c e
      exact ⟨w', z.sameBut hs (cne y c e)⟩
    · obtain ⟨e, n, ne, nf, d⟩ := I.pin p hp
      exact ⟨(hs.2 p.1 ne).trans e, n, ne, nf, d⟩
  · have hfn : X.fn x = true := by
      rcases hf with z | z
      · exact z
      · rw [z] at hk; cases hk
    obtain ⟨c, hc⟩ := I.ok.has x (.inl hk)
    obtain ⟨w', z⟩ := I.cell x c hc
    refine wpAny_storeName_cell I.ok.kind hk hc z (fun h' hc' hs => ?_)
    obtain ⟨oc, hoc, hocd⟩ := id z
    refine h { s with heap := h' } ⟨I.ok, I.os, I.bare, ⟨fun b o e n hb hx => ?_, fun b o e n hb hx => ?_, I.base.free, fun b o e hx => ?_, I.base.tups, I.base.frzs, I.base.tbls⟩, ⟨m, hn.sameBut hs (Ne.symm (cne x c hc)), fun j y v' e1 e2 e3 => ?_⟩, fun y c' e => ?_, I.free, I.freeC, fun p hp => ?_, tracked ⟨oc, hoc, I.freeC x c hc⟩ hs, by simpa using I.len⟩ ⟨c, hs, .inr hc⟩
    · exact (hs.2 b (Nat.ne_of_lt (Nat.lt_of_lt_of_le (Heap.lt_size e) (I.ok.cab x c hfn hc)))).trans (I.base.keep b o e n hb hx)
    · obtain ⟨sl, e1⟩ := I.base.slot b o e n hb hx
      exact ⟨sl, (hs.2 b (Nat.ne_of_lt (Nat.lt_of_lt_of_le (Heap.lt_size e) (I.ok.cab x c hfn hc)))).trans e1⟩
    · obtain ⟨o', e1⟩ := I.base.there b o e hx
      exact ⟨o', (hs.2 b (Nat.ne_of_lt (Nat.lt_of_lt_of_le (Heap.lt_size e) (I.ok.cab x c hfn hc)))).trans e1⟩
    · by_cases hj : j = i
      · subst hj
        rw [hi] at e1; cases e1
        rw [List.getElem?_set_self hiσ] at e2
        cases e2
        exact ⟨u, r, .inr ⟨.inl hk, c, hc, hc'⟩⟩
      · rw [List.getElem?_set_ne (Ne.symm hj)] at e2
        obtain ⟨u', r', q⟩ := hl j y v' e1 e2 e3
        refine ⟨u', r', ?_⟩
        rcases q with q | ⟨k, c', e, z'⟩
        · exact .inl q
        · refine .inr ⟨k, c', e, z'.sameBut hs ?_⟩
          rintro rfl
          exact hj (nodup_ix hN e1 (I.ok.inj _ _ _ e hc ▸ hi))
    · by_cases hcc : c' = c
      · subst hcc; exact ⟨_, hc'⟩
      · obtain ⟨w2, z2⟩ := I.cell y c' e
        exact ⟨w2, z2.sameBut hs hcc⟩
    · obtain ⟨e, n, ne, nf, d⟩ := I.pin p hp
      refine ⟨(hs.2 p.1 ?_).trans e, n, ne, nf, d⟩
      intro q
      rw [q, hoc] at e
      have q' : oc = p.2 := Option.some.inj e
      exact d w' (by rw [← q']; exact hocd)
theorem store_ok {M : Model} {A : Around} {E : Value → Shared → Prop} {i : Nat} {x : Str} {v : V} {u : Value} {Q : Unit → Shared → Prop} (I : Inv X pins σ H s) (hN : X.N.Nodup) (hi : X.N[i]? = some x) (hx : Loc X.env.scope x) (r : RelV v u)
    (h : ∀ s', Inv X pins (σ.set i (some v)) H s' → Q () s') (hf : X.fn x = true ∨ X.env.scope.names.lookup x = some .local := by first | exact .inl rfl | exact .inr rfl | assumption) : wpAny M A (storeName X.env x u) Q E s :=
  store_ok2 I hN hi hx r (fun s' I' _ => h s' I') hf
theorem Inv.call' {s' : Shared} {ch : List Addr} (I : Inv X pins σ H s) (ho : s'.os = s.os) (u : Un (frs X.stack) ch H H' s.heap s'.heap) (hok : HOk X.prog X.w H' s'.heap) (hg : AllBare s'.gens)
    (hch : ∀ b ∈ ch, (b ∈ X.ex ∨ X.s₀.heap.objs.size ≤ b) ∧ b ≠ X.env.locals ∧ (∀ x c, X.env.cells.lookup x = some c → c ≠ b) ∧ ∀ p ∈ X.pn ++ pins, p.1 ≠ b) : Inv X pins σ H' s' := by
  obtain ⟨h', g', d', t', o'⟩ := s'
  have e : o' = s.os := ho
  subst e
  exact I.call (g' := g') (t' := t') (d' := d') u hok hg hch
end
abbrev XK := Value → Option Addr → Hp → Prop
abbrev St := List (Option V)
abbrev VK := V → Hp → Prop
abbrev TE := St → Hp → VK → Prop
abbrev TT := St → Hp → (Bool → Hp → Prop) → Prop
abbrev TA := St → Hp → (List V → Hp → Prop) → Prop
structure Ends where
  nx : St → Hp → Prop
  rt : VK
  bk : St → Hp → Prop := fun _ _ => False
  ct : St → Hp → Prop := fun _ _ => False
abbrev TS := Ends → St → Hp → Prop
def EP (X : Cx) (pins : List (Addr × Obj)) (σ : St) (Q : VK) (u : Value) (s' : Shared) : Prop := ∃ v H', Inv X pins σ H' s' ∧ RelV v u ∧ Q v H'
def TP (X : Cx) (pins : List (Addr × Obj)) (σ : St) (Q : Bool → Hp → Prop) (b : Bool) (s' : Shared) : Prop := ∃ H', Inv X pins σ H' s' ∧ Q b H'
def AP (X : Cx) (pins : List (Addr × Obj)) (σ : St) (Q : List V → Hp → Prop) (us : List Value) (s' : Shared) : Prop := ∃ vs H', Inv X pins σ H' s' ∧ Vals vs us ∧ Q vs H'
def SP (X : Cx) (pins : List (Addr × Obj)) (D : Ends) (f : Flow) (s' : Shared) : Prop :=
  match f with
  | .next => ∃ σ' H', Inv X pins σ' H' s' ∧ D.nx σ' H'
  | .brk => ∃ σ' H', Inv X pins σ' H' s' ∧ D.bk σ' H'
  | .cont => ∃ σ' H', Inv X pins σ' H' s' ∧ D.ct σ' H'
  | .ret u => ∃ v σ' H', Inv X pins σ' H' s' ∧ RelV v u ∧ D.rt v H'
def PE (X : Cx) (e : Expr) (t : TE) : Prop :=
  ∀ (pins : List (Addr × Obj)) (s : Shared) (σ : St) (H : Hp) (Q : VK), Inv X pins σ H s → t σ H Q → wpAny (model X.prog X.w) X.A (eval e X.env) (EP X pins σ Q) X.xe s
def PT (X : Cx) (e : Expr) (t : TT) : Prop :=
  ∀ (pins : List (Addr × Obj)) (s : Shared) (σ : St) (H : Hp) (Q : Bool → Hp → Prop), Inv X pins σ H s → t σ H Q → wpAny (model X.prog X.w) X.A (isTrue e X.env (eval e X.env)) (TP X pins σ Q) X.xe s
def PW (X : Cx) (e : Expr) (t : TT) : Prop :=
  ∀ (whole : Sem Value) (pins : List (Addr × Obj)) (s : Shared) (σ : St) (H : Hp) (Q : Bool → Hp → Prop), Inv X pins σ H s → t σ H Q → wpAny (model X.prog X.w) X.A (isTrue e X.env whole) (TP X pins σ Q) X.xe s
theorem PW.pt {X : Cx} {e : Expr} {t : TT} (h : PW X e t) : PT X e t := h _
def PA (X : Cx) (es : List Expr) (t : TA) : Prop :=
  ∀ (pos : Pos) (pins : List (Addr × Obj)) (s : Shared) (σ : St) (H : Hp) (Q : List V → Hp → Prop), Inv X pins σ H s → t σ H Q → wpAny (model X.prog X.w) X.A (spliced (backTo pos (starEach es X.env))) (AP X pins σ Q) X.xe s
def PS (X : Cx) (st : Stmt) (t : TS) : Prop :=
  ∀ (pins : List (Addr × Obj)) (s : Shared) (σ : St) (H : Hp) (D : Ends), Inv X pins σ H s → t D σ H → wpAny (model X.prog X.w) X.A (exec st X.env) (SP X pins D) X.xe s
def PSs (X : Cx) (st : List Stmt) (t : TS) : Prop :=
  ∀ (pins : List (Addr × Obj)) (s : Shared) (σ : St) (H : Hp) (D : Ends), Inv X pins σ H s → t D σ H → wpAny (model X.prog X.w) X.A (execs st X.env) (SP X pins D) X.xe s
theorem thn {α : Type} {t : Sem α} {Q Q' : α → Shared → Prop} {M : Model} {A : Around} {E : Value → Shared → Prop} {s : Shared} (h : wpAny M A t Q E s) (hQ : ∀ a s, Q a s → Q' a s) : wpAny M A t Q' E s := wpAny_mono h hQ fun _ _ x => x
end L2
namespace L2
open PySem PySem.Spec PyProof.Rows
section
variable {X : Cx}
theorem bin {a b : Expr} {ta tb : TE} (ha : PE X a ta) (hb : PE X b tb) {pins : List (Addr × Obj)} {s : Shared} {σ : St} {H : Hp} {R : V → V → Hp → Prop} (I : Inv X pins σ H s) (h : ta σ H fun x H1 => tb σ H1 fun y H2 => R x y H2)
    {α : Type} {Q : α → Shared → Prop} {f : Value → Value → Sem α}
    (hf : ∀ v u s2 x y H2, Inv X pins σ H2 s2 → RelV x v → RelV y u → R x y H2 → wpAny (model X.prog X.w) X.A (f v u) Q X.xe s2) :
    wpAny (model X.prog X.w) X.A (eval a X.env) (fun v s₁ => wpAny (model X.prog X.w) X.A (eval b X.env) (fun u s₂ => wpAny (model X.prog X.w) X.A (f v u) Q X.xe s₂) X.xe s₁) X.xe s := by
  refine thn (ha pins s σ H _ I h) fun v s1 ⟨x, H1, I1, r1, q1⟩ => ?_
  refine thn (hb pins s1 σ H1 _ I1 q1) fun u s2 ⟨y, H2, I2, r2, q2⟩ => ?_
  exact hf v u s2 x y H2 I2 r1 r2 q2
def tVar (i : Nat) : TE := fun σ H Q => ∃ v, σ[i]? = some (some v) ∧ Q v H
def tC (v : V) : TE := fun _ H Q => Q v H
theorem pe_var {i : Nat} {x : Str} {pos : Pos} (hN : X.N[i]? = some x) (hv : Vis X.env.scope x) (hd : (x == ("__debug__" : Str)) = false := by decide) (hcd : (x == ("__classdict__" : Str)) = false := by decide) : PE X (.Name x pos) (tVar i) := by
  intro pins s σ H Q I h
  obtain ⟨v, e, h⟩ := h
  obtain ⟨m, hn, hl⟩ := I.loc
  obtain ⟨u, r, l⟩ := hl i x v hN e hv
  have fin : EP X pins σ Q u s := ⟨v, H, I, r, h⟩
  rcases l with ⟨hk, hm⟩ | ⟨hk, c, hc, hcell⟩
  · exact wpAny_Name (wpAny_loadName_local I.ok.kind hk hn hm fin) hd
  · rcases hk with hk | hk
    · exact wpAny_Name (wpAny_loadName_cell I.ok.kind hk hc hcell fin) hd
    · exact wpAny_Name (wpAny_loadName_free I.ok.kind hk hc hcell fin hcd) hd
theorem pe_int {i j pos} : PE X (.Constant (.int i) j pos) (tC (.int i)) := fun _ _ _ H _ I h => wpAny_Constant_int ⟨.int i, H, I.tok _, ⟨_, rfl⟩, h⟩
theorem pe_bl {b j pos} : PE X (.Constant (.bool b) j pos) (tC (.bl b)) := fun _ _ _ H _ I h => Constant_bool ⟨.bl b, H, I, rfl, h⟩
theorem pe_non {j pos} : PE X (.Constant .none j pos) (tC .non) := fun _ _ _ H _ I h => Constant_none ⟨.non, H, I, rfl, h⟩
theorem pe_str {x j pos} : PE X (.Constant (.str x) j pos) (tC (.str x)) := fun _ _ _ H _ I h => Calls.Constant_str ⟨.str x, H, I.tok _, ⟨_, rfl⟩, h⟩
def Gl (X : Cx) (x : Str) : Prop := X.env.kindOf x = some .globalImplicit
theorem ld_glob {E : Value → Shared → Prop} {pins : List (Addr × Obj)} {s : Shared} {σ : St} {H : Hp} {x : Str} {u : Value} {pos : Pos} {Q : Value → Shared → Prop} (I : Inv X pins σ H s) (hg : Gl X x) (hm : X.mg x = some u) (h : Q u s)
    (hd : (x == ("__debug__" : Str)) = false := by decide) : wpAny (model X.prog X.w) X.A (eval (.Name x pos) X.env) Q E s :=
  Calls.Name_function_global I.ok.kind hg (Calls.loadGlobal_global (by rw [I.ok.glob]; exact I.mod.glob.keeps I.bk) hm h) hd
theorem ld_blt {E : Value → Shared → Prop} {pins : List (Addr × Obj)} {s : Shared} {σ : St} {H : Hp} {x : Str} {u : Value} {pos : Pos} {Q : Value → Shared → Prop} (I : Inv X pins σ H s) (hg : Gl X x) (hm : X.mg x = none) (hv : bootBuiltins x = some u) (h : Q u s)
    (hn : x ≠ "__name__" := by decide) (hd : (x == ("__debug__" : Str)) = false := by decide) : wpAny (model X.prog X.w) X.A (eval (.Name x pos) X.env) Q E s := by
  obtain ⟨mb, h1, h2⟩ := I.mod.blt
  exact Calls.Name_function_global I.ok.kind hg (Calls.loadGlobal_builtin (by rw [I.ok.glob]; exact I.mod.glob.keeps I.bk) hm (by rw [I.ok.blt]; exact h1.keeps I.bk) ((h2 x hn).trans hv) h) hd
theorem pe_glob {x : Str} {v : V} {u : Value} {pos : Pos} (hg : Gl X x) (hm : X.mg x = some u) (r : RelV v u) (hd : (x == ("__debug__" : Str)) = false := by decide) : PE X (.Name x pos) (tC v) :=
  fun _ _ _ H _ I h => ld_glob I hg hm ⟨v, H, I, r, h⟩ hd
theorem pe_bltn {x : Str} {v : V} {u : Value} {pos : Pos} (hg : Gl X x) (hm : X.mg x = none) (hv : bootBuiltins x = some u) (r : RelV v u) (hn : x ≠ "__name__" := by decide) (hd : (x == ("__debug__" : Str)) = false := by decide) : PE X (.Name x pos) (tC v) :=
  fun _ _ _ H _ I h => ld_blt I hg hm hv ⟨v, H, I, r, h⟩ hn hd
variable {a b : Expr} {ta tb : TE} {pos : Pos}
def PC (X : Cx) (op : CmpOp) (a b : Expr) (t : TE) : Prop :=
  ∀ (pins : List (Addr × Obj)) (s : Shared) (σ : St) (H : Hp) (Q : VK), Inv X pins σ H s → t σ H Q →
    wpAny (model X.prog X.w) X.A (eval a X.env) (fun v s₁ => wpAny (model X.prog X.w) X.A (eval b X.env) (fun u s₂ => wpAny (model X.prog X.w) X.A (compareOp op v u) (EP X pins σ Q) X.xe s₂) X.xe s₁) X.xe s
def tB (t : TE) : TT := fun σ H Q => t σ H fun x H1 => ∃ c, x = .bl c ∧ Q c H1
theorem pe_cmp {op : CmpOp} {t : TE} (h : PC X op a b t) (h1 : behindInMarks op b = false := by first | exact nobehind _ (by decide) (by decide) | rfl) : PE X (.Compare a [op] [b] pos) t := fun pins s σ H Q I hw => wpAny_Compare1 (h pins s σ H Q I hw) h1
theorem pt_cmp {op : CmpOp} {t : TE} (h : PC X op a b t) (h1 : behindInMarks op b = false := by first | exact nobehind _ (by decide) (by decide) | rfl) : PT X (.Compare a [op] [b] pos) (tB t) := by
  intro pins s σ H Q I hw
  refine wpAny_isTrue_Compare1 (thn (h pins s σ H _ I hw) fun v s1 h1 => thn h1 fun u s2 h2 => thn h2 fun c s3 ⟨x, H1, I1, r1, q1⟩ => ?_) h1
  obtain ⟨d, rfl, q⟩ := q1
  cases r1
  exact wpAny_truthy_bool ⟨H1, I1, q⟩
theorem pt_val {e : Expr} {t : TE} (h : PE X e t) (he : ∀ whole, isTrue e X.env whole = (do let v ← whole; standAt e.pos; holding [v] (truthy v)) := by intro _; rfl) : PT X e (tB t) := by
  intro pins s σ H Q I hw
  refine isTrue_plain (thn (h pins s σ H _ I hw) fun v s1 ⟨x, H1, I1, r1, q1⟩ => ?_) (he _)
  obtain ⟨d, rfl, q⟩ := q1
  cases r1
  exact wpAny_truthy_bool ⟨H1, I1, q⟩
variable {tA tB' : TT} {rest : List Expr}
def tAnd (t u : TT) : TT := fun σ H Q => t σ H fun c H1 => if c = true then u σ H1 Q else Q false H1
def tOr (t u : TT) : TT := fun σ H Q => t σ H fun c H1 => if c = true then Q true H1 else u σ H1 Q
def tNot (t : TT) : TT := fun σ H Q => t σ H fun c H1 => Q (!c) H1
theorem pw_and1 (ha : PT X a tA) : PW X (.BoolOp .And [a] pos) tA := by
  intro wh pins s σ H Q I h
  refine isTrue_and (thn (ha pins s σ H Q I h) fun c s1 e => ?_)
  cases c with
  | true => exact isTrue_and_nil e
  | false => exact e
theorem pw_or1 (ha : PT X a tA) : PW X (.BoolOp .Or [a] pos) tA := by
  intro wh pins s σ H Q I h
  refine isTrue_or (thn (ha pins s σ H Q I h) fun c s1 e => ?_)
  cases c with
  | false => exact isTrue_or_nil e
  | true => exact e
theorem pw_and (ha : PT X a tA) (hb : PW X (.BoolOp .And (b :: rest) pos) tB') : PW X (.BoolOp .And (a :: b :: rest) pos) (tAnd tA tB') := by
  intro wh pins s σ H Q I h
  refine isTrue_and (thn (ha pins s σ H _ I h) fun c s1 ⟨H1, I1, q1⟩ => ?_)
  cases c with
  | true => exact hb wh pins s1 σ H1 Q I1 q1
  | false => exact ⟨H1, I1, q1⟩
theorem pw_or (ha : PT X a tA) (hb : PW X (.BoolOp .Or (b :: rest) pos) tB') : PW X (.BoolOp .Or (a :: b :: rest) pos) (tOr tA tB') := by
  intro wh pins s σ H Q I h
  refine isTrue_or (thn (ha pins s σ H _ I h) fun c s1 ⟨H1, I1, q1⟩ => ?_)
  cases c with
  | true => exact ⟨H1, I1, q1⟩
  | false => exact hb wh pins s1 σ H1 Q I1 q1
theorem pt_not (ha : PT X a tA) : PT X (.UnaryOp .Not a pos) (tNot tA) := by
  intro pins s σ H Q I h
  exact isTrue_not (ha pins s σ H (fun c H1 => Q (!c) H1) I h)
def tAndV (ta tb : TE) : TE := fun σ H Q => ta σ H fun x H1 => ∃ c, x = .bl c ∧ if c = true then tb σ H1 Q else Q (.bl false) H1
def tOrV (ta tb : TE) : TE := fun σ H Q => ta σ H fun x H1 => ∃ c, x = .bl c ∧ if c = true then Q (.bl true) H1 else tb σ H1 Q
def tNotV (ta : TE) : TE := fun σ H Q => ta σ H fun x H1 => ∃ c, x = .bl c ∧ Q (.bl (!c)) H1
theorem pe_one {op} {t : TE} (h : PE X a t) : PE X (.BoolOp op [a] pos) t := fun pins s σ H Q I hw => BoolOp_one (h pins s σ H Q I hw)
theorem pe_and (ha : PE X a ta) (hb : PE X (.BoolOp .And (b :: rest) pos) tb) : PE X (.BoolOp .And (a :: b :: rest) pos) (tAndV ta tb) := by
  intro pins s σ H Q I h
  refine BoolOp_and (thn (ha pins s σ H _ I h) fun v s1 ⟨x, H1, I1, r1, q1⟩ => ?_)
  obtain ⟨c, rfl, q1⟩ := q1
  cases r1
  refine wpAny_truthy_bool ?_
  cases c with
  | true => exact hb pins s1 σ H1 Q I1 q1
  | false => exact ⟨.bl false, H1, I1, rfl, q1⟩
theorem pe_or (ha : PE X a ta) (hb : PE X (.BoolOp .Or (b :: rest) pos) tb) : PE X (.BoolOp .Or (a :: b :: rest) pos) (tOrV ta tb) := by
  intro pins s σ H Q I h
  refine BoolOp_or (thn (ha pins s σ H _ I h) fun v s1 ⟨x, H1, I1, r1, q1⟩ => ?_)
  obtain ⟨c, rfl, q1⟩ := q1
  cases r1
  refine wpAny_truthy_bool ?_
  cases c with
  | false => exact hb pins s1 σ H1 Q I1 q1
  | true => exact ⟨.bl true, H1, I1, rfl, q1⟩
theorem pe_not (ha : PE X a ta) : PE X (.UnaryOp .Not a pos) (tNotV ta) := by
  intro pins s σ H Q I h
  refine UnaryOp_ (thn (ha pins s σ H _ I h) fun v s1 ⟨x, H1, I1, r1, q1⟩ => ?_)
  obtain ⟨c, rfl, q1⟩ := q1
  cases r1
  exact not_of (wpAny_truthy_bool ⟨.bl (!c), H1, I1, rfl, q1⟩)
def tIf (t : TT) (ta tb : TE) : TE := fun σ H Q => t σ H fun c H1 => if c = true then ta σ H1 Q else tb σ H1 Q
theorem pe_ifExp {c : Expr} (hc : PT X c tA) (ha : PE X a ta) (hb : PE X b tb) : PE X (.IfExp c a b pos) (tIf tA ta tb) := by
  intro pins s σ H Q I h
  refine wpAny_IfExp (thn (hc pins s σ H _ I h) fun d s1 ⟨H1, I1, q1⟩ => ?_)
  cases d with
  | true => exact ha pins s1 σ H1 Q I1 q1
  | false => exact hb pins s1 σ H1 Q I1 q1
end
end L2
namespace L2
open PySem PySem.Spec PyProof.Rows
def SqL (K : PySem.W.Frag) (H : Hp) (a : Addr) (xs : List V) : Prop :=
  Rd H a (.lst xs) ∨
    ∃ (o : Obj) (its : Array Value) (n : Nat), K.lookup a = some o ∧ o.cls = .type "list" ∧ o.dict = none ∧ o.data = .seq its n ∧ its.size ≤ sizeLine ∧ Vals xs its.toList
def SqT (K : PySem.W.Frag) (H : Hp) (a : Addr) (xs : List V) : Prop :=
  Rd H a (.tup xs) ∨
    ∃ (o : Obj) (its : Array Value) (n : Nat), K.lookup a = some o ∧ o.cls = .type "tuple" ∧ o.data = .seq its n ∧ its.size ≤ sizeLine ∧ Vals xs its.toList
def absV : Value → Option V
  | .none => some .non
  | .bool b => some (.bl b)
  | .int i _ => some (.int i)
  | .str x _ => some (.str x)
  | .bytes b _ => some (.byt b)
  | .float b _ => some (.flt b)
  | .ref a => some (.ref a)
  | .type n => some (.ty n)
  | _ => none
theorem RelV.abs {x : V} {u : Value} (r : RelV x u) : absV u = some x := by
  cases x with
  | non => cases r; rfl
  | bl _ => cases r; rfl
  | int _ => obtain ⟨t, rfl⟩ := r; rfl
  | str _ => obtain ⟨t, rfl⟩ := r; rfl
  | byt _ => obtain ⟨t, rfl⟩ := r; rfl
  | flt _ => obtain ⟨t, rfl⟩ := r; rfl
  | ref _ => cases r; rfl
  | ty _ => cases r; rfl
theorem RelV.inj {x y : V} {u : Value} (r : RelV x u) (q : RelV y u) : x = y := Option.some.inj (r.abs.symm.trans q.abs)
theorem Vals.inj : ∀ {xs ys : List V} {us : List Value}, Vals xs us → Vals ys us → xs = ys
  | _, _, _, .nil, .nil => rfl
  | _, _, _, .cons r t, .cons r' t' => by rw [r.inj r', Vals.inj t t']
section
variable {X : Cx} {pins : List (Addr × Obj)} {σ : St} {H : Hp} {s : Shared} {a : Addr} {xs ys : List V}
theorem SqL.of {K : PySem.W.Frag} (h : H a = some (.lst xs)) : SqL K H a xs := .inl (.inl h)
theorem SqT.of {K : PySem.W.Frag} (h : H a = some (.tup xs)) : SqT K H a xs := .inl (.inl h)
theorem Inv.list (I : Inv X pins σ H s) (h : SqL X.K H a xs) : ∃ its : List Value, Vals xs its ∧ PlainL s.heap a its.toArray ∧ xs.length ≤ sizeLine := by
  rcases h with h | ⟨o, its, n, hk, hc, hd, hs, hz, r⟩
  · obtain ⟨z, its, n, r, e⟩ := h.ok I.hok
    exact ⟨its, r, ⟨_, n, e, rfl, rfl, rfl⟩, z⟩
  · refine ⟨its.toList, r, ⟨o, n, I.kIn a o hk, hc, hd, by simpa using hs⟩, ?_⟩
    have e := r.length
    simp only [Array.length_toList] at e
    omega
theorem Inv.tuple (I : Inv X pins σ H s) (h : SqT X.K H a xs) : ∃ its : List Value, Vals xs its ∧ IsTup s.heap a its.toArray ∧ xs.length ≤ sizeLine := by
  rcases h with h | ⟨o, its, n, hk, hc, hs, hz, r⟩
  · obtain ⟨z, its, r, p⟩ := h.ok I.hok
    exact ⟨its, r, p, z⟩
  · refine ⟨its.toList, r, ⟨o, I.kIn a o hk, hc, n, by simpa using hs⟩, ?_⟩
    have e := r.length
    simp only [Array.length_toList] at e
    omega
theorem Inv.list_inj (I : Inv X pins σ H s) (h : SqL X.K H a xs) (h' : SqL X.K H a ys) : xs = ys := by
  obtain ⟨its, r, ⟨o, n, e, _, _, d⟩, _⟩ := I.list h
  obtain ⟨its', r', ⟨o', n', e', _, _, d'⟩, _⟩ := I.list h'
  rw [e] at e'; cases e'
  rw [d] at d'
  injection d' with d1 _
  have : its = its' := by simpa using congrArg Array.toList d1
  subst this
  exact r.inj r'
theorem Inv.tuple_inj (I : Inv X pins σ H s) (h : SqT X.K H a xs) (h' : SqT X.K H a ys) : xs = ys := by
  obtain ⟨its, r, ⟨o, e, _, n, d⟩, _⟩ := I.tuple h
  obtain ⟨its', r', ⟨o', e', _, n', d'⟩, _⟩ := I.tuple h'
  rw [e] at e'; cases e'
  rw [d] at d'
  injection d' with d1 _
  have : its = its' := by simpa using congrArg Array.toList d1
  subst this
  exact r.inj r'
end
abbrev Cx.wish (X : Cx) (E : Value → Shared → Prop) : Cx := { X with xe := E }
abbrev Cx.nox (X : Cx) : Cx := X.wish fun _ _ => False
theorem Cx.Ok.wish {X : Cx} (ok : X.Ok) (E : Value → Shared → Prop) : (X.wish E).Ok :=
  ⟨ok.mod, ok.kind, ok.glob, ok.blt, ok.above, ok.inj, ok.has, ok.cab, ok.hd, ok.frames, ok.stk, ok.exf, ok.bs, ok.bsz, ok.noex, ok.exfs, ok.funs, ok.frf⟩
theorem Cx.Ok.unwish {X : Cx} {E : Value → Shared → Prop} (ok : (X.wish E).Ok) : X.Ok :=
  ⟨ok.mod, ok.kind, ok.glob, ok.blt, ok.above, ok.inj, ok.has, ok.cab, ok.hd, ok.frames, ok.stk, ok.exf, ok.bs, ok.bsz, ok.noex, ok.exfs, ok.funs, ok.frf⟩
section
variable {X : Cx} {pins : List (Addr × Obj)} {σ : St} {H : Hp} {s : Shared} {E : Value → Shared → Prop}
theorem Inv.wish (I : Inv X pins σ H s) (E : Value → Shared → Prop) : Inv (X.wish E) pins σ H s := ⟨I.ok.wish E, I.os, I.bare, I.base, I.loc, I.cell, I.free, I.freeC, I.pin, I.hok, I.len⟩
theorem Inv.unwish (I : Inv (X.wish E) pins σ H s) : Inv X pins σ H s := ⟨I.ok.unwish, I.os, I.bare, I.base, I.loc, I.cell, I.free, I.freeC, I.pin, I.hok, I.len⟩
theorem SP.unwish {D : Ends} {f : Flow} {s' : Shared} (h : SP (X.wish E) pins D f s') : SP X pins D f s' := by
  cases f with
  | next => obtain ⟨σ', H', I, q⟩ := h; exact ⟨σ', H', I.unwish, q⟩
  | brk => obtain ⟨σ', H', I, q⟩ := h; exact ⟨σ', H', I.unwish, q⟩
  | cont => obtain ⟨σ', H', I, q⟩ := h; exact ⟨σ', H', I.unwish, q⟩
  | ret u => obtain ⟨v, σ', H', I, r, q⟩ := h; exact ⟨v, σ', H', I.unwish, r, q⟩
theorem PSs.nox {st : List Stmt} {t : TS} (h : PSs X.nox st t) : PSs X st t := fun pins s σ H D I hw =>
  wpAny_mono (h pins s σ H D (I.wish _) hw) (fun _ _ q => q.unwish) fun _ _ z => False.elim z
end
section
variable {X : Cx} {st : Stmt} {rest : List Stmt} {t u : TS} {e : Expr} {te : TE} {pos : Pos}
def tNext : TS := fun D σ H => D.nx σ H
def tSeq (t u : TS) : TS := fun D σ H => t { D with nx := u D } σ H
theorem pss_nil : PSs X [] tNext := fun _ _ σ H _ I h => wpAny_execs_nil ⟨σ, H, I, h⟩
theorem pss_cons (h1 : PS X st t) (h2 : PSs X rest u) : PSs X (st :: rest) (tSeq t u) := by
  intro pins s σ H D I h
  refine wpAny_execs_cons (thn (h1 pins s σ H { D with nx := u D } I h) fun f s1 q => ?_)
  cases f with
  | next =>
    obtain ⟨σ', H', I', q⟩ := q
    exact h2 pins s1 σ' H' D I' q
  | ret v => exact q
  | brk => exact q
  | cont => exact q
theorem pss_one (h1 : PS X st t) : PSs X [st] t := by
  intro pins s σ H D I h
  refine wpAny_execs_cons (thn (h1 pins s σ H D I h) fun f s1 q => ?_)
  cases f with
  | next => exact wpAny_execs_nil q
  | ret v => exact q
  | brk => exact q
  | cont => exact q
theorem Inv.quiet {pins : List (Addr × Obj)} {σ : St} {H : Hp} {s : Shared} (I : Inv X pins σ H s) : interactive X.env = false := by simp [interactive, I.ok.kind]
def tDrop (te : TE) : TS := fun D σ H => te σ H fun _ H1 => D.nx σ H1
theorem ps_expr (he : PE X e te) (hs : swapsWith e none pos.line X.env = pure false := by rfl) : PS X (.Expr e pos) (tDrop te) := by
  intro pins s σ H D I h
  exact wpAny_Expr_any (thn (he pins s σ H _ I h) fun v s1 ⟨x, H1, I1, r1, q1⟩ => ⟨σ, H1, I1, q1⟩) I.quiet hs
def tRet (te : TE) : TS := fun D σ H => te σ H D.rt
theorem ps_ret (he : PE X e te) : PS X (.Return (some e) pos) (tRet te) := by
  intro pins s σ H D I h
  exact wpAny_Return_some (thn (he pins s σ H _ I h) fun v s1 ⟨x, H1, I1, r1, q1⟩ => ⟨x, σ, H1, I1, r1, q1⟩)
def tIfS (c : TT) (t u : TS) : TS := fun D σ H => c σ H fun b H1 => if b = true then t D σ H1 else u D σ H1
theorem ps_if {c : Expr} {a b : List Stmt} {tc : TT} (hc : PT X c tc) (ha : PSs X a t) (hb : PSs X b u) : PS X (.If c a b pos) (tIfS tc t u) := by
  intro pins s σ H D I h
  refine wpAny_If (thn (hc pins s σ H _ I h) fun d s1 ⟨H1, I1, q1⟩ => ?_)
  cases d with
  | true => exact ha pins s1 σ H1 D I1 q1
  | false => exact hb pins s1 σ H1 D I1 q1
end
abbrev TG := V → St → Hp → (St → Hp → Prop) → Prop
abbrev TGs := List V → St → Hp → (St → Hp → Prop) → Prop
def PG (X : Cx) (target : Expr) (t : TG) : Prop :=
  ∀ (pins : List (Addr × Obj)) (s : Shared) (σ : St) (H : Hp) (v : V) (u : Value) (Q : St → Hp → Prop), Inv X pins σ H s → RelV v u → t v σ H Q →
    wpAny (model X.prog X.w) X.A (assign target X.env u) (fun _ s' => ∃ σ' H', Inv X pins σ' H' s' ∧ Q σ' H') X.xe s
def PGs (X : Cx) (ts : List Expr) (t : TGs) : Prop :=
  ∀ (pins : List (Addr × Obj)) (s : Shared) (σ : St) (H : Hp) (vs : List V) (us : List Value) (Q : St → Hp → Prop), Inv X pins σ H s → Vals vs us → t vs σ H Q →
    wpAny (model X.prog X.w) X.A (assignInOrder ((assignEach ts X.env).map (·.2)) us) (fun _ s' => ∃ σ' H', Inv X pins σ' H' s' ∧ Q σ' H') X.xe s
abbrev TSet := V → V → V → Hp → (Hp → Prop) → Prop
def PSet (X : Cx) (t : TSet) : Prop :=
  ∀ (pins : List (Addr × Obj)) (s : Shared) (σ : St) (H : Hp) (o i v : V) (ov iv u : Value) (Q : Hp → Prop), Inv X pins σ H s → RelV o ov → RelV i iv → RelV v u → t o i v H Q →
    wpAny (model X.prog X.w) X.A (setItem ov iv u) (fun _ s' => ∃ H', Inv X pins σ H' s' ∧ Q H') X.xe s
abbrev TIp := V → V → Hp → VK → Prop
def PIp (X : Cx) (op : Operator) (t : TIp) : Prop :=
  ∀ (pins : List (Addr × Obj)) (s : Shared) (σ : St) (H : Hp) (x y : V) (v u : Value) (Q : VK), Inv X pins σ H s → RelV x v → RelV y u → t x y H Q →
    wpAny (model X.prog X.w) X.A (inplaceOp op v u) (EP X pins σ Q) X.xe s
section
variable {X : Cx} {pos : Pos}
def gName (i : Nat) : TG := fun v σ H Q => Q (σ.set i (some v)) H
theorem pg_name {i : Nat} {x : Str} (hN : X.N.Nodup) (hi : X.N[i]? = some x) (hx : Loc X.env.scope x) (hf : X.fn x = true ∨ X.env.scope.names.lookup x = some .local := by first | exact .inl rfl | exact .inr rfl | assumption) : PG X (.Name x pos) (gName i) := by
  intro pins s σ H v u Q I r h
  exact wpAny_assign_Name (store_ok I hN hi hx r (fun s' I' => ⟨_, H, I', h⟩) hf)
def gNil : TGs := fun vs σ H Q => vs = [] ∧ Q σ H
def gCons (t : TG) (u : TGs) : TGs := fun vs σ H Q => ∃ v r, vs = v :: r ∧ t v σ H fun σ' H' => u r σ' H' Q
theorem pgs_nil : PGs X [] gNil := by
  intro pins s σ H vs us Q I r h
  obtain ⟨e, h⟩ := h
  subst e
  cases r
  exact assignInOrder_nil ⟨σ, H, I, h⟩
theorem pgs_cons {e : Expr} {es : List Expr} {t : TG} {u : TGs} (h1 : PG X e t) (h2 : PGs X es u)
    (hs : (assignEach (e :: es) X.env).map (·.2) = assign e X.env :: (assignEach es X.env).map (·.2) := by rfl) : PGs X (e :: es) (gCons t u) := by
  intro pins s σ H vs us Q I r h
  obtain ⟨v, vr, e1, h⟩ := h
  subst e1
  cases r with
  | cons r rr =>
    rw [hs]
    refine assignInOrder_cons (thn (h1 pins s σ H _ _ _ I r h) fun _ s1 ⟨σ1, H1, I1, q1⟩ => ?_)
    exact h2 pins s1 σ1 H1 _ _ Q I1 rr q1
def gTup (K : PySem.W.Frag) (n : Nat) (t : TGs) : TG := fun v σ H Q => ∃ a xs, v = .ref a ∧ SqT K H a xs ∧ xs.length = n ∧ t xs σ H Q
theorem pg_tup {es : List Expr} {k : Nat} {t : TGs} {n : Nat} (hc : X.calm = true) (h : PGs X es t)
    (hn : (assignEach es X.env).length = n := by rfl) (hst : (assignEach es X.env).findIdx? (·.1) = none := by rfl) : PG X (.Tuple es k pos) (gTup X.K n t) := by
  intro pins s σ H v u Q I r hw
  obtain ⟨a, xs, e1, hq, hl, hw⟩ := hw
  subst e1
  cases r
  obtain ⟨its, rv, ht, hz⟩ := I.tuple hq
  refine assignH (I.hb hc) (show s.heap.IsTuple a its.toArray from ht) (by simp [hn, ← hl, rv.length]) hst fun h' hx => ?_
  have I1 : Inv X pins σ H { s with heap := h' } := I.kept (t' := s.toks) fun b o e => hx b o (Nat.ne_of_lt (Heap.lt_size e)) e
  exact h pins _ σ H xs _ Q I1 (by simpa using rv) hw
def gSub (to ti : TE) (t : TSet) : TG := fun v σ H Q => to σ H fun o H1 => ti σ H1 fun i H2 => t o i v H2 fun H3 => Q σ H3
theorem pg_sub {o i : Expr} {to ti : TE} {t : TSet} (ho : PE X o to) (hi : PE X i ti) (hs : PSet X t)
    (ha : ∀ v, assign (.Subscript o i pos) X.env v = (do
      let ov ← holding [v] (eval o X.env)
      let iv ← holding [v, ov] (eval i X.env)
      standAt pos
      holding [v, ov, iv] (setItem ov iv v)
      release [v, ov, iv] []) := by intro _; rfl) : PG X (.Subscript o i pos) (gSub to ti t) := by
  intro pins s σ H v u Q I r h
  rw [ha]
  refine wpAny_bind (wpAny_holding (thn (ho pins s σ H _ I h) fun ov s1 ⟨x, H1, I1, r1, q1⟩ => ?_))
  refine wpAny_bind (wpAny_holding (thn (hi pins s1 σ H1 _ I1 q1) fun iv s2 ⟨y, H2, I2, r2, q2⟩ => ?_))
  refine wpAny_bind (wpAny_standAt (wpAny_bind (wpAny_holding (thn (hs pins s2 σ H2 x y v ov iv u _ I2 r1 r2 r q2) fun _ s3 ⟨H3, I3, q3⟩ => ?_))))
  exact wpAny_release ⟨σ, H3, I3, q3⟩
def tAsg (te : TE) (g : TG) : TS := fun D σ H => te σ H fun x H1 => g x σ H1 D.nx
theorem ps_asg {tg e : Expr} {te : TE} {g : TG} (he : PE X e te) (hg : PG X tg g) (hs : swapsWithSole [tg] e pos.line X.env = pure false := by rfl) (hw : swappedStores [tg] e X.env = pure none := by rfl)
    (h1 : (assignEach [tg] X.env).map (·.2) = [assign tg X.env] := by rfl) : PS X (.Assign [tg] e pos) (tAsg te g) := by
  intro pins s σ H D I h
  refine wpAny_Assign_stores (thn (he pins s σ H _ I h) fun v s1 ⟨x, H1, I1, r1, q1⟩ => ?_) hs hw
  rw [h1]
  exact thn (hg pins s1 σ H1 x v _ I1 r1 q1) fun _ s2 q => q
theorem ps_set {i : Nat} {x : Str} {e : Expr} {te : TE} {pos' : Pos} (hN : X.N.Nodup) (hi : X.N[i]? = some x) (hx : Loc X.env.scope x) (he : PE X e te) (hs : swapsWith e (some (.Name x pos')) pos.line X.env = pure false := by rfl) (hf : X.fn x = true ∨ X.env.scope.names.lookup x = some .local := by first | exact .inl rfl | exact .inr rfl | assumption) :
    PS X (.Assign [.Name x pos'] e pos) (tAsg te (gName i)) := by
  intro pins s σ H D I h
  refine wpAny_Assign_Name (thn (he pins s σ H _ I h) fun v s1 ⟨y, H1, I1, r1, q1⟩ => ?_) hs
  exact store_ok I1 hN hi hx r1 (fun s2 I2 => ⟨_, H1, I2, q1⟩) hf
def tAug (i : Nat) (te : TE) (ti : TIp) : TS := fun D σ H => ∃ x, σ[i]? = some (some x) ∧ te σ H fun y H1 => ti x y H1 fun z H2 => D.nx (σ.set i (some z)) H2
theorem ps_aug {i : Nat} {x : Str} {e : Expr} {te : TE} {op : Operator} {ti : TIp} {pos' : Pos} (hN : X.N.Nodup) (hi : X.N[i]? = some x) (hx : Loc X.env.scope x) (he : PE X e te) (ho : PIp X op ti) (hf : X.fn x = true ∨ X.env.scope.names.lookup x = some .local := by first | exact .inl rfl | exact .inr rfl | assumption) :
    PS X (.AugAssign (.Name x pos') op e pos) (tAug i te ti) := by
  intro pins s σ H D I h
  obtain ⟨v, e1, h⟩ := h
  obtain ⟨m, hn, hl⟩ := I.loc
  have vis : Vis X.env.scope x := by rcases hx with k | k; exact .inl k; exact .inr (.inl k)
  obtain ⟨u, r, l⟩ := hl i x v hi e1 vis
  refine wpAny_AugAssign_Name ?_
  have go : wpAny (model X.prog X.w) X.A (eval e X.env) (fun w s₂ => wpAny (model X.prog X.w) X.A (inplaceOp op u w) (fun r s₃ => wpAny (model X.prog X.w) X.A (storeName X.env x r) (fun _ => SP X pins D .next) X.xe s₃) X.xe s₂) X.xe s := by
    refine thn (he pins s σ H _ I h) fun w s1 ⟨y, H1, I1, r1, q1⟩ => ?_
    refine thn (ho pins s1 σ H1 v y u w _ I1 r r1 q1) fun z s2 ⟨zv, H2, I2, r2, q2⟩ => ?_
    exact store_ok I2 hN hi hx r2 (fun s3 I3 => ⟨_, H2, I3, q2⟩) hf
  rcases l with ⟨hk, hm⟩ | ⟨hk, c, hc, hcell⟩
  · exact wpAny_loadName_local I.ok.kind hk hn hm go
  · rcases hk with hk | hk
    · exact wpAny_loadName_cell I.ok.kind hk hc hcell go
    · rcases hx with k | k
      · have : X.env.scope.names.lookup x = some .free := hk
        rw [k] at this; cases this
      · have : X.env.scope.names.lookup x = some .free := hk
        rw [k] at this; cases this
def ipI (f : Int → Int → Int) : TIp := fun x y H Q => ∃ i j, x = .int i ∧ y = .int j ∧ Q (.int (f i j)) H
theorem ip_add : PIp X .Add (ipI fun i j => i + j) := by
  intro pins s σ H x y v u Q I r1 r2 h
  obtain ⟨i, j, e1, e2, q⟩ := h
  subst e1; subst e2
  obtain ⟨t, rfl⟩ := r1
  obtain ⟨t', rfl⟩ := r2
  exact iadd_int ⟨.int _, H, I.tok _, ⟨_, rfl⟩, q⟩
end
section
variable {X : Cx} {pos : Pos}
def tWhile (c : TT) (tb : TS) : TS := fun D σ H => ∃ W : Nat → St → Hp → Prop, (∃ m, W m σ H) ∧ ∀ m σ H, W m σ H →
  c σ H fun b H1 => if b = true then ∃ N : St → Hp → Prop, (∀ σ' H', N σ' H' → ∃ m', m' < m ∧ W m' σ' H') ∧ tb { D with nx := N, ct := N, bk := D.nx } σ H1 else D.nx σ H1
theorem ps_while {c : Expr} {body : List Stmt} {tc : TT} {tb : TS} (hp : PassesOwn (model X.prog X.w) X.A X.env X.xe) (hc : PT X c tc) (hb : PSs X body tb) : PS X (.While c body [] pos) (tWhile tc tb) := by
  intro pins s σ H D I h
  obtain ⟨W, ⟨m0, w0⟩, turn⟩ := h
  refine wpAny_While (codeAny_whileLoop (fun n s' => ∃ σ' H', Inv X pins σ' H' s' ∧ W n σ' H') ?_ m0 ⟨σ, H, I, w0⟩)
  rintro n s1 ⟨σ1, H1, I1, w1⟩
  refine wpAny_passesOwn hp (thn (hc pins s1 σ1 H1 _ I1 (turn n σ1 H1 w1)) fun b s2 ⟨H2, I2, q2⟩ => ?_)
  cases b with
  | true =>
    obtain ⟨N, hN, q2⟩ := q2
    rw [if_pos rfl]
    refine wpAny_passesOwn hp (thn (hb pins s2 σ1 H2 _ I2 q2) fun f s3 q3 => ?_)
    cases f with
    | next =>
      obtain ⟨σ3, H3, I3, n3⟩ := q3
      obtain ⟨m', hm, w3⟩ := hN σ3 H3 n3
      exact ⟨m', hm, σ3, H3, I3, w3⟩
    | cont =>
      obtain ⟨σ3, H3, I3, n3⟩ := q3
      obtain ⟨m', hm, w3⟩ := hN σ3 H3 n3
      exact ⟨m', hm, σ3, H3, I3, w3⟩
    | brk => exact q3
    | ret v => exact q3
  | false =>
    rw [if_neg Bool.false_ne_true]
    exact wpAny_execs_nil ⟨σ1, H2, I2, q2⟩
end
structure It where
  go : Nat → Hp → Prop
  yld : Nat → Hp → V → Hp → Prop
  stop : Nat → Hp → Prop
def FpOk (X : Cx) (pins : List (Addr × Obj)) (H : Hp) (b : Addr) : Prop :=
  H b = none ∧ b ≠ X.env.locals ∧ b ∉ X.fs ∧ (b ∈ X.ex ∨ X.s₀.heap.objs.size ≤ b) ∧ (∀ x c, X.env.cells.lookup x = some c → c ≠ b) ∧ ∀ p ∈ X.pn ++ pins, p.1 ≠ b
theorem Inv.fpOk {X : Cx} {pins : List (Addr × Obj)} {σ : St} {H H' : Hp} {s : Shared} {b : Addr} (I : Inv X pins σ H s) (hb : s.heap.objs.size ≤ b) (hn : H' b = none) : FpOk X pins H' b := by
  refine ⟨hn, Nat.ne_of_gt (Nat.lt_of_lt_of_le I.lt hb), I.nofs hb, .inr (Nat.le_trans I.sz hb), fun x c e z => ?_, fun p hp z => ?_⟩
  · obtain ⟨v, q⟩ := I.cell x c e
    exact absurd (Nat.lt_of_lt_of_le q.lt (by rw [z]; exact hb)) (Nat.lt_irrefl _)
  · exact absurd (Nat.lt_of_lt_of_le (Heap.lt_size (I.pin p hp).1) (by rw [z]; exact hb)) (Nat.lt_irrefl _)
structure Turn (P : Program) (w : World) (K : PySem.W.Frag) (tg : Expr) (J : It) (fp : List Addr) (it : Addr) (tn : Nat → Heap → Prop) : Prop where
  mem : it ∈ fp
  obj : ∀ i h, tn i h → ∀ b ∈ fp, ∃ o, h.get? b = some o ∧ ∀ v, o.data ≠ .cell v
  keep : ∀ i h h', tn i h → (∀ b ∈ fp, ∀ o, h.get? b = some o → h'.get? b = some o) → tn i h'
  item : ∀ (X : Cx), X.prog = P → X.w = w → X.K = K → X.calm = true → ∀ (i : Nat) (pins : List (Addr × Obj)) (s : Shared) (σ : St) (H : Hp) (E : Value → Shared → Prop), Inv X pins σ H s → (∀ b ∈ fp, FpOk X pins H b) → tn i s.heap → J.go i H →
    wpAny (model P w) X.A (pyNext (.ref it)) (fun r s1 => ∃ u, r = some u ∧
      wpAny (model P w) X.A (letOwnedTupleGo tg (.ref it) u) (fun _ s2 => ∃ x H', Inv X pins σ H' s2 ∧ RelV x u ∧ J.yld i H x H' ∧ tn (i + 1) s2.heap ∧ ∀ b ∈ fp, H' b = none) E s1) E s
  done : ∀ (X : Cx), X.prog = P → X.w = w → X.K = K → X.calm = true → ∀ (i : Nat) (pins : List (Addr × Obj)) (s : Shared) (σ : St) (H : Hp) (E : Value → Shared → Prop), Inv X pins σ H s → (∀ b ∈ fp, FpOk X pins H b) → tn i s.heap → J.stop i H →
    wpAny (model P w) X.A (pyNext (.ref it)) (fun r s1 => r = none ∧ Inv X pins σ H s1) E s
  self : ∀ (A : Around) (i : Nat) (s : Shared) (Q : Value → Shared → Prop) (E : Value → Shared → Prop), tn i s.heap → Q (.ref it) s → wpAny (model P w) A (pyIter (.ref it)) Q E s
abbrev TI := St → Hp → (It → Hp → Prop) → Prop
def PIE (X : Cx) (pins : List (Addr × Obj)) (σ : St) (tg : Expr) (R : It → Hp → Prop) (itv : Value) (s2 : Shared) : Prop :=
  ∃ (it : Addr) (fp : List Addr) (tn : Nat → Heap → Prop) (J : It) (H' : Hp), itv = .ref it ∧ Inv X pins σ H' s2 ∧ Turn X.prog X.w X.K tg J fp it tn ∧ tn 0 s2.heap ∧ (∀ b ∈ fp, FpOk X pins H' b) ∧ R J H'
def PI (X : Cx) (tg iter : Expr) (wi : TI) : Prop :=
  ∀ (pins : List (Addr × Obj)) (s : Shared) (σ : St) (H : Hp) (R : It → Hp → Prop), Inv X pins σ H s → wi σ H R →
    wpAny (model X.prog X.w) X.A (eval iter X.env) (fun v s1 => wpAny (model X.prog X.w) X.A (pyIter v) (PIE X pins σ tg R) X.xe s1) X.xe s
theorem go_of {M : Model} {A : Around} {E : Value → Shared → Prop} {s : Shared} {tg : Expr} {it : Addr} {u : Value} {o : Obj} {n : String} {vs : Array Value} {Q : Unit → Shared → Prop} (ho : s.heap.get? it = some o) (hc : o.cls = .type n) (hd : o.data = .fields vs)
    (hn : ["enumerate", "zip", "dict_itemiterator", "dict_reverseitemiterator", "odict_iterator", "itertools.zip_longest", "itertools.pairwise"].contains n = false) (hQ : Q () s) : wpAny M A (letOwnedTupleGo tg (.ref it) u) Q E s := by
  unfold letOwnedTupleGo
  cases tg <;> first
    | exact wpAny_pure hQ
    | (cases u <;> first
        | exact wpAny_pure hQ
        | (refine wpAny_bind (wpAny_load ho ?_)
           rw [hc, hd]
           show wpAny M A (if (["enumerate", "zip", "dict_itemiterator", "dict_reverseitemiterator", "odict_iterator", "itertools.zip_longest", "itertools.pairwise"].contains n && vs[0]? == some (rawInt _)) = true then _ else _) Q E s
           rw [if_neg (by intro h; rw [hn, Bool.false_and] at h; cases h)]
           exact wpAny_pure hQ))
def Itl (K : PySem.W.Frag) (a : Addr) : It :=
  ⟨fun i H => ∃ xs x, SqL K H a xs ∧ xs[i]? = some x, fun i H x H' => H' = H ∧ ∀ xs, SqL K H a xs → xs[i]? = some x, fun i H => ∃ xs, SqL K H a xs ∧ xs.length ≤ i⟩
def Itt (K : PySem.W.Frag) (a : Addr) : It :=
  ⟨fun i H => ∃ xs x, SqT K H a xs ∧ xs[i]? = some x, fun i H x H' => H' = H ∧ ∀ xs, SqT K H a xs → xs[i]? = some x, fun i H => ∃ xs, SqT K H a xs ∧ xs.length ≤ i⟩
def Itr (lo : Int) (n : Nat) : It := ⟨fun i _ => i < n, fun i H x H' => H' = H ∧ x = .int (lo + i), fun i _ => n ≤ i⟩
theorem turn_list {P : Program} {w : World} {K : PySem.W.Frag} {tg : Expr} (a it : Addr) : Turn P w K tg (Itl K a) [it] it (fun i h => h.IsListIter it a i) where
  mem := by simp
  obj := fun i h st b hb => by
    have e : b = it := by simpa using hb
    subst e
    obtain ⟨o, e, c, d⟩ := st
    exact ⟨o, e, fun v z => by rw [d] at z; cases z⟩
  keep := fun i h h' st k => st.at fun o e => k it (by simp) o e
  item := by
    intro X hP hw hK hc i pins s σ H E I hf st hg
    subst hP hw hK
    obtain ⟨xs, x, hq, hx⟩ := hg
    obtain ⟨its, rv, p, hz⟩ := I.list hq
    obtain ⟨u, hu, ru⟩ := rv.get hx
    obtain ⟨f0, f1, f2, f3, f4, f5⟩ := hf it (by simp)
    refine wpAny_pyNext_list_item st p.isList (x := u) (by simpa using hu) fun h' st' sb => ?_
    have I1 : Inv X pins σ H { s with heap := h' } := I.turned (t' := s.toks) (fun b o hb e => (sb.2 b hb).trans e) f0 f1 f3 f4 f5
    obtain ⟨o, e, c, d⟩ := id st'
    exact ⟨u, rfl, go_of (s := { s with heap := h' }) e c d (by decide) ⟨x, H, I1, ru, ⟨rfl, fun ys hy => by rw [I.list_inj hy hq]; exact hx⟩, st', fun b hb => (hf b hb).1⟩⟩
  done := by
    intro X hP hw hK hc i pins s σ H E I hf st hg
    subst hP hw hK
    obtain ⟨xs, hq, hx⟩ := hg
    obtain ⟨its, rv, p, hz⟩ := I.list hq
    obtain ⟨f0, f1, f2, f3, f4, f5⟩ := hf it (by simp)
    have hl := rv.length
    exact next_list_end (I.hb hc) (I.hna hc f3 f5) st p.isList (by simp; omega) fun h' eb => ⟨rfl, I.turned (t' := s.toks) (fun b o hb e => eb b o hb e) f0 f1 f3 f4 f5⟩
  self := fun _ _ _ _ _ st h => wpAny_pyIter_listiter st h
theorem turn_tuple {P : Program} {w : World} {K : PySem.W.Frag} {tg : Expr} (a it : Addr) : Turn P w K tg (Itt K a) [it] it (fun i h => h.IsTupleIter it a i) where
  mem := by simp
  obj := fun i h st b hb => by
    have e : b = it := by simpa using hb
    subst e
    obtain ⟨o, e, c, d⟩ := st
    exact ⟨o, e, fun v z => by rw [d] at z; cases z⟩
  keep := fun i h h' st k => st.at fun o e => k it (by simp) o e
  item := by
    intro X hP hw hK hc i pins s σ H E I hf st hg
    subst hP hw hK
    obtain ⟨xs, x, hq, hx⟩ := hg
    obtain ⟨its, rv, p, hz⟩ := I.tuple hq
    obtain ⟨u, hu, ru⟩ := rv.get hx
    obtain ⟨f0, f1, f2, f3, f4, f5⟩ := hf it (by simp)
    refine wpAny_pyNext_tuple_item st (show s.heap.IsTuple a its.toArray from p) (x := u) (by simpa using hu) fun h' st' sb => ?_
    have I1 : Inv X pins σ H { s with heap := h' } := I.turned (t' := s.toks) (fun b o hb e => (sb.2 b hb).trans e) f0 f1 f3 f4 f5
    obtain ⟨o, e, c, d⟩ := id st'
    exact ⟨u, rfl, go_of (s := { s with heap := h' }) e c d (by decide) ⟨x, H, I1, ru, ⟨rfl, fun ys hy => by rw [I.tuple_inj hy hq]; exact hx⟩, st', fun b hb => (hf b hb).1⟩⟩
  done := by
    intro X hP hw hK hc i pins s σ H E I hf st hg
    subst hP hw hK
    obtain ⟨xs, hq, hx⟩ := hg
    obtain ⟨its, rv, p, hz⟩ := I.tuple hq
    obtain ⟨f0, f1, f2, f3, f4, f5⟩ := hf it (by simp)
    have hl := rv.length
    exact next_tuple_end (I.hb hc) (I.hna hc f3 f5) st (show s.heap.IsTuple a its.toArray from p) (by simp; omega) fun h' eb => ⟨rfl, I.turned (t' := s.toks) (fun b o hb e => eb b o hb e) f0 f1 f3 f4 f5⟩
  self := fun _ _ _ _ _ st h => wpAny_pyIter_tupleiter st h
theorem turn_range {P : Program} {w : World} {K : PySem.W.Frag} {tg : Expr} (it : Addr) (lo : Int) (n : Nat) : Turn P w K tg (Itr lo n) [it] it (fun i h => IsRangeIter h it (lo + (i : Nat) * 1) ((n : Int) - (i : Nat)) 1) where
  mem := by simp
  obj := fun i h st b hb => by
    have e : b = it := by simpa using hb
    subst e
    exact ⟨_, st, fun v z => by
      have z' : Data.fields _ = Data.cell v := z
      cases z'⟩
  keep := fun i h h' st k => k it (by simp) _ st
  item := by
    intro X hP hw hK hc i pins s σ H E I hf st hg
    subst hP hw hK
    obtain ⟨f0, f1, f2, f3, f4, f5⟩ := hf it (by simp)
    refine range_item hg st fun v h' tk hv st' kk => ?_
    obtain ⟨t, rfl⟩ := hv
    have I1 : Inv X pins σ H { s with heap := h', toks := tk } := I.turned (fun b o hb e => kk b o (by simpa using hb) e) f0 f1 f3 f4 f5
    refine ⟨_, rfl, go_of (s := { s with heap := h', toks := tk }) (n := "range_iterator") st' rfl rfl (by decide) ⟨.int (lo + i), H, I1, ⟨t, ?_⟩, ⟨rfl, rfl⟩, st', fun b hb => (hf b hb).1⟩⟩
    rw [Int.mul_one]
  done := by
    intro X hP hw hK hc i pins s σ H E I hf st hg
    subst hP hw hK
    obtain ⟨f0, f1, f2, f3, f4, f5⟩ := hf it (by simp)
    exact next_range_end (I.hb hc) st (by have : n ≤ i := hg; omega) fun h' eb => ⟨rfl, I.turned (t' := s.toks) (fun b o hb e => eb b o hb e) f0 f1 f3 f4 f5⟩
  self := fun _ _ _ _ _ st h => wpAny_pyIter_rangeiter st h
end L2
namespace L2
open PySem PySem.Spec PyProof.Rows
section
variable {X : Cx} {tg : Expr}
def iList (K : PySem.W.Frag) (tl : TE) : TI := fun σ H R => tl σ H fun x H1 => ∃ a, x = .ref a ∧ (∃ xs, SqL K H1 a xs) ∧ R (Itl K a) H1
def iTup (K : PySem.W.Frag) (tl : TE) : TI := fun σ H R => tl σ H fun x H1 => ∃ a, x = .ref a ∧ (∃ xs, SqT K H1 a xs) ∧ R (Itt K a) H1
theorem pi_list {l : Expr} {tl : TE} (hl : PE X l tl) : PI X tg l (iList X.K tl) := by
  intro pins s σ H R I h
  refine thn (hl pins s σ H _ I h) fun v s1 ⟨x, H1, I1, r1, q1⟩ => ?_
  obtain ⟨a, e, ⟨xs, hq⟩, q⟩ := q1
  subst e
  cases r1
  obtain ⟨its, rv, p, hz⟩ := I1.list hq
  refine wpAny_pyIter_list p.isList ?_
  refine ⟨s1.heap.objs.size, [s1.heap.objs.size], _, _, H1, rfl, I1.kept (t' := s1.toks) fun b o e => Heap.get?_push_of_some _ e, turn_list a _, ⟨_, Heap.get?_push_size _ rfl, rfl, rfl⟩, fun b hb => ?_, q⟩
  have e : b = s1.heap.objs.size := by simpa using hb
  subst e
  exact I1.fpOk (Nat.le_refl _) (I1.hok.fresh (Nat.le_refl _))
theorem pi_tup {l : Expr} {tl : TE} (hl : PE X l tl) : PI X tg l (iTup X.K tl) := by
  intro pins s σ H R I h
  refine thn (hl pins s σ H _ I h) fun v s1 ⟨x, H1, I1, r1, q1⟩ => ?_
  obtain ⟨a, e, ⟨xs, hq⟩, q⟩ := q1
  subst e
  cases r1
  obtain ⟨its, rv, p, hz⟩ := I1.tuple hq
  refine wpAny_pyIter_tuple (show s1.heap.IsTuple a its.toArray from p) ?_
  refine ⟨s1.heap.objs.size, [s1.heap.objs.size], _, _, H1, rfl, I1.kept (t' := s1.toks) fun b o e => Heap.get?_push_of_some _ e, turn_tuple a _, ⟨_, Heap.get?_push_size _ rfl, rfl, rfl⟩, fun b hb => ?_, q⟩
  have e : b = s1.heap.objs.size := by simpa using hb
  subst e
  exact I1.fpOk (Nat.le_refl _) (I1.hok.fresh (Nat.le_refl _))
theorem range_it {pins : List (Addr × Obj)} {σ : St} {H : Hp} {s : Shared} {R : It → Hp → Prop} {E : Value → Shared → Prop} {lo hi : Int} {t u v : Tok} {tk : Nat} (I : Inv X pins σ H s) (h1 : -(2 ^ 62) ≤ lo) (h2 : lo < 2 ^ 62) (h3 : -(2 ^ 62) ≤ hi) (h4 : hi < 2 ^ 62)
    (q : R (Itr lo (hi - lo).toNat) H) : wpAny (model X.prog X.w) X.A (pyIter (.ref s.heap.objs.size)) (PIE X pins σ tg R) E { s with heap := s.heap.push { cls := .type "range", data := .fields #[.int lo t, .int hi u, .int 1 v] }, toks := tk } := by
  refine wpAny_pyIter_range (IsRange.new ..) (small_one h1 h2 h3 h4) ?_
  have I1 : Inv X pins σ H { s with heap := s.heap.push { cls := .type "range", data := .fields #[.int lo t, .int hi u, .int 1 v] }, toks := tk } := I.kept fun b o e => Heap.get?_push_of_some _ e
  refine ⟨(s.heap.push { cls := .type "range", data := .fields #[.int lo t, .int hi u, .int 1 v] }).objs.size, [(s.heap.push { cls := .type "range", data := .fields #[.int lo t, .int hi u, .int 1 v] }).objs.size], _, _, H, rfl,
    I1.kept (t' := tk) fun b o e => Heap.get?_push_of_some _ e, turn_range _ lo (hi - lo).toNat, ?_, fun b hb => ?_, q⟩
  · have e1 : lo + ((0 : Nat) : Int) * 1 = lo := by simp
    have e2 : (((hi - lo).toNat : Nat) : Int) - ((0 : Nat) : Int) = Builtin.Range.rangeSize lo hi 1 := by rw [rangeSize_one]; split <;> omega
    show IsRangeIter _ _ (lo + ((0 : Nat) : Int) * 1) ((((hi - lo).toNat : Nat) : Int) - ((0 : Nat) : Int)) 1
    rw [e1, e2]
    exact Heap.get?_push_size _ rfl
  · have e : b = (s.heap.push { cls := .type "range", data := .fields #[.int lo t, .int hi u, .int 1 v] }).objs.size := by simpa using hb
    subst e
    exact I1.fpOk (Nat.le_refl _) (I1.hok.fresh (Nat.le_refl _))
def iRng1 (ta : TA) : TI := fun σ H R => ta σ H fun vs H1 => ∃ j : Int, vs = [.int j] ∧ -(2 ^ 62) ≤ j ∧ j < 2 ^ 62 ∧ R (Itr 0 j.toNat) H1
theorem pi_range1 {a : Expr} {ta : TA} {p pos : Pos} (hg : Gl X "range") (hm : X.mg "range" = none) (ha : PA X [a] ta) (hs : starEach [a] X.env = [(false, eval a X.env)] := by rfl) : PI X tg (.Call (.Name "range" p) [a] [] pos) (iRng1 ta) := by
  intro pins s σ H R I h
  refine Call_ (ld_blt I hg hm boot_range (PyProof.Rows.callWith_type1 (thn (ha pos pins s σ H _ I h) fun us s1 ⟨vs, H1, I1, r1, q1⟩ => ?_) hs rfl))
  obtain ⟨j, e, q1, q2, q⟩ := q1
  subst e
  cases r1 with
  | cons r rr =>
    cases rr
    obtain ⟨t, rfl⟩ := r
    exact call_range_1 (range_it I1 (by omega) (by omega) q1 q2 (by simpa using q))
def tFor (wi : TI) (g : TG) (tb : TS) : TS := fun D σ H => wi σ H fun J H1 => ∃ W : Nat → Nat → St → Hp → Prop, (∃ m, W 0 m σ H1) ∧ ∀ i m σ H, W i m σ H →
  (J.stop i H ∧ D.nx σ H) ∨ (J.go i H ∧ ∃ N : St → Hp → Prop, (∀ σ' H', N σ' H' → ∃ m', m' < m ∧ W (i + 1) m' σ' H') ∧ ∀ x H', J.yld i H x H' → g x σ H' fun σ2 H2 => tb { D with nx := N, ct := N, bk := D.nx } σ2 H2)
def pinsAt (fp : List Addr) (h : Heap) : List (Addr × Obj) := fp.filterMap fun b => (h.get? b).map fun o => (b, o)
theorem mem_pinsAt {fp : List Addr} {h : Heap} {b : Addr} {o : Obj} (hb : b ∈ fp) (e : h.get? b = some o) : (b, o) ∈ pinsAt fp h := List.mem_filterMap.mpr ⟨b, hb, by rw [e]; rfl⟩
theorem of_pinsAt {fp : List Addr} {h : Heap} {p : Addr × Obj} (hp : p ∈ pinsAt fp h) : p.1 ∈ fp ∧ h.get? p.1 = some p.2 := by
  obtain ⟨b, hb, e⟩ := List.mem_filterMap.mp hp
  cases q : h.get? b with
  | none => rw [q] at e; cases e
  | some o =>
    rw [q] at e
    have e' : (b, o) = p := Option.some.inj e
    subst e'
    exact ⟨hb, q⟩
theorem Inv.pinned {pins : List (Addr × Obj)} {σ : St} {H : Hp} {s : Shared} {fp : List Addr} (I : Inv X pins σ H s) (hf : ∀ b ∈ fp, FpOk X pins H b) (ho : ∀ b ∈ fp, ∃ o, s.heap.get? b = some o ∧ ∀ v, o.data ≠ .cell v) : Inv X (pins ++ pinsAt fp s.heap) σ H s :=
  I.pins_of fun p hp => (List.mem_append.mp hp).elim (fun z => I.pin p (List.mem_append_right _ z)) fun z => by
    obtain ⟨hb, e⟩ := of_pinsAt z
    obtain ⟨f0, f1, f2, _⟩ := hf p.1 hb
    obtain ⟨o, e', d⟩ := ho p.1 hb
    rw [e] at e'; cases e'
    exact ⟨e, f0, f1, f2, d⟩
theorem Inv.unpinned {pins pl : List (Addr × Obj)} {σ : St} {H : Hp} {s : Shared} (I : Inv X (pins ++ pl) σ H s) : Inv X pins σ H s := I.pins_of fun p hp => I.pin p (List.mem_append_right _ (List.mem_append_left _ hp))
theorem ps_for {iter : Expr} {body : List Stmt} {wi : TI} {g : TG} {tb : TS} {pos : Pos} (hp : PassesOwn (model X.prog X.w) X.A X.env X.xe) (hc : X.calm = true) (hi : PI X tg iter wi) (hg : PG X tg g) (hb : PSs X body tb)
    (hs : ∀ x, foldedSetIterable iter X.env x = pure x := by intro _; rfl) : PS X (.For tg iter body [] pos) (tFor wi g tb) := by
  intro pins s σ H D I h
  refine wpAny_For (thn (hi pins s σ H _ I h) fun v s1 h1 => thn h1 fun itv s2 h2 => ?_) hs
  obtain ⟨it, fp, tn, J, H2, e, I2, T, st2, f2, W, ⟨m0, w0⟩, turn⟩ := h2
  subst e
  -- what stays true of the iterator's objects through the loop
  have stat : ∀ {H' : Hp}, (∀ b ∈ fp, H' b = none) → ∀ b ∈ fp, FpOk X pins H' b := fun hn b hb => ⟨hn b hb, (f2 b hb).2⟩
  refine codeAny_forLoop_any (fun n s' => ∃ i σ' H', Inv X pins σ' H' s' ∧ tn i s'.heap ∧ (∀ b ∈ fp, H' b = none) ∧ W i n σ' H') ?_ m0 ⟨0, σ, H2, I2, st2, fun b hb => (f2 b hb).1, w0⟩
  rintro n s3 ⟨i, σ3, H3, I3, st3, fr3, w3⟩
  rcases turn i n σ3 H3 w3 with ⟨stop, qn⟩ | ⟨go, N, hN, step⟩
  · refine wpAny_passesOwn hp (thn (T.done X rfl rfl rfl hc i pins s3 σ3 H3 X.xe I3 (stat fr3) st3 stop) fun r s4 ⟨hr, I4⟩ => ?_)
    subst hr
    exact wpAny_execs_nil ⟨σ3, H3, I4, qn⟩
  · refine wpAny_passesOwn hp (thn (T.item X rfl rfl rfl hc i pins s3 σ3 H3 X.xe I3 (stat fr3) st3 go) fun r s4 ⟨u, hr, h4⟩ => ?_)
    subst hr
    refine wpAny_passesOwn hp (thn h4 fun _ s5 ⟨x, H5, I5, r5, y5, st5, fr5⟩ => ?_)
    have I5' := I5.pinned (stat fr5) (T.obj _ _ st5)
    refine wpAny_passesOwn hp (thn (hg _ s5 σ3 H5 x u _ I5' r5 (step x H5 y5)) fun _ s6 ⟨σ6, H6, I6, q6⟩ => ?_)
    refine wpAny_passesOwn hp (thn (hb _ s6 σ6 H6 _ I6 q6) fun f s7 q7 => ?_)
    have again : ∀ {σ7 : St} {H7 : Hp}, Inv X (pins ++ pinsAt fp s5.heap) σ7 H7 s7 → N σ7 H7 → ∃ m, m < n ∧ ∃ i σ' H', Inv X pins σ' H' s7 ∧ tn i s7.heap ∧ (∀ b ∈ fp, H' b = none) ∧ W i m σ' H' := fun {σ7 H7} I7 n7 => by
      obtain ⟨m', hm, w7⟩ := hN σ7 H7 n7
      refine ⟨m', hm, i + 1, σ7, H7, I7.unpinned, T.keep _ _ _ st5 fun b hb o e => (I7.pin (b, o) (List.mem_append_right _ (List.mem_append_right _ (mem_pinsAt hb e)))).1, fun b hb => ?_, w7⟩
      obtain ⟨o, e, d⟩ := T.obj _ _ st5 b hb
      exact (I7.pin (b, o) (List.mem_append_right _ (List.mem_append_right _ (mem_pinsAt hb e)))).2.1
    cases f with
    | next => obtain ⟨σ7, H7, I7, n7⟩ := q7; exact again I7 n7
    | cont => obtain ⟨σ7, H7, I7, n7⟩ := q7; exact again I7 n7
    | brk => obtain ⟨σ7, H7, I7, q7⟩ := q7; exact ⟨σ7, H7, I7.unpinned, q7⟩
    | ret v => obtain ⟨x7, σ7, H7, I7, r7, q7⟩ := q7; exact ⟨x7, σ7, H7, I7.unpinned, r7, q7⟩
end
theorem for_list {K : PySem.W.Frag} {a : Addr} {xs : List V} {g : TG} {tb : TS} {D : Ends} {σ : St} {H : Hp} (Pv : Nat → St → Hp → Prop) (h0 : Pv 0 σ H) (hl : ∀ i σ H, i ≤ xs.length → Pv i σ H → SqL K H a xs)
    (hs : ∀ i x σ H, xs[i]? = some x → Pv i σ H → g x σ H fun σ2 H2 => tb { D with nx := Pv (i + 1), ct := Pv (i + 1), bk := D.nx } σ2 H2) (hd : ∀ σ H, Pv xs.length σ H → D.nx σ H) :
    ∃ W : Nat → Nat → St → Hp → Prop, (∃ m, W 0 m σ H) ∧ ∀ i m σ H, W i m σ H →
      ((Itl K a).stop i H ∧ D.nx σ H) ∨ ((Itl K a).go i H ∧ ∃ N : St → Hp → Prop, (∀ σ' H', N σ' H' → ∃ m', m' < m ∧ W (i + 1) m' σ' H') ∧ ∀ x H', (Itl K a).yld i H x H' → g x σ H' fun σ2 H2 => tb { D with nx := N, ct := N, bk := D.nx } σ2 H2) := by
  refine ⟨fun i m σ H => m = xs.length - i ∧ i ≤ xs.length ∧ Pv i σ H, ⟨xs.length, by simp, Nat.zero_le _, h0⟩, ?_⟩
  rintro i m σ H ⟨rfl, hi, p⟩
  have q := hl i σ H hi p
  by_cases hlt : i < xs.length
  · refine .inr ⟨⟨xs, xs[i], q, by simp [hlt]⟩, Pv (i + 1), fun σ' H' p' => ⟨xs.length - (i + 1), by omega, rfl, hlt, p'⟩, fun x H' y => ?_⟩
    obtain ⟨e, y⟩ := y
    subst e
    exact hs i x σ _ (y xs q) p
  · have e : i = xs.length := by omega
    subst e
    exact .inl ⟨⟨xs, q, Nat.le_refl _⟩, hd σ H p⟩
theorem for_range {lo : Int} {n : Nat} {g : TG} {tb : TS} {D : Ends} {σ : St} {H : Hp} (Pv : Nat → St → Hp → Prop) (h0 : Pv 0 σ H)
    (hs : ∀ i σ H, i < n → Pv i σ H → g (.int (lo + i)) σ H fun σ2 H2 => tb { D with nx := Pv (i + 1), ct := Pv (i + 1), bk := D.nx } σ2 H2) (hd : ∀ σ H, Pv n σ H → D.nx σ H) :
    ∃ W : Nat → Nat → St → Hp → Prop, (∃ m, W 0 m σ H) ∧ ∀ i m σ H, W i m σ H →
      ((Itr lo n).stop i H ∧ D.nx σ H) ∨ ((Itr lo n).go i H ∧ ∃ N : St → Hp → Prop, (∀ σ' H', N σ' H' → ∃ m', m' < m ∧ W (i + 1) m' σ' H') ∧ ∀ x H', (Itr lo n).yld i H x H' → g x σ H' fun σ2 H2 => tb { D with nx := N, ct := N, bk := D.nx } σ2 H2) := by
  refine ⟨fun i m σ H => m = n - i ∧ i ≤ n ∧ Pv i σ H, ⟨n, by simp, Nat.zero_le _, h0⟩, ?_⟩
  rintro i m σ H ⟨rfl, hi, p⟩
  by_cases hlt : i < n
  · refine .inr ⟨hlt, Pv (i + 1), fun σ' H' p' => ⟨n - (i + 1), by omega, rfl, hlt, p'⟩, fun x H' y => ?_⟩
    obtain ⟨e, y⟩ := y
    subst e y
    exact hs i σ _ hlt p
  · have e : i = n := by omega
    subst e
    exact .inl ⟨Nat.le_refl _, hd σ H p⟩
end L2
namespace L2
open PySem PySem.Spec PyProof.Rows
abbrev R2 := V → V → Hp → VK → Prop
def OpR (X : Cx) (f : Value → Value → Sem Value) (r : R2) : Prop :=
  ∀ (pins : List (Addr × Obj)) (s : Shared) (σ : St) (H : Hp) (x y : V) (v u : Value) (Q : VK), Inv X pins σ H s → RelV x v → RelV y u → r x y H Q →
    wpAny (model X.prog X.w) X.A (f v u) (EP X pins σ Q) X.xe s
def UnR (X : Cx) (f : Value → Sem Value) (r : V → Hp → VK → Prop) : Prop :=
  ∀ (pins : List (Addr × Obj)) (s : Shared) (σ : St) (H : Hp) (x : V) (v : Value) (Q : VK), Inv X pins σ H s → RelV x v → r x H Q →
    wpAny (model X.prog X.w) X.A (f v) (EP X pins σ Q) X.xe s
def CallR (X : Cx) (f : Value) (r : List V → Hp → VK → Prop) : Prop :=
  ∀ (pins : List (Addr × Obj)) (s : Shared) (σ : St) (H : Hp) (xs : List V) (us : List Value) (Q : VK), Inv X pins σ H s → Vals xs us → r xs H Q →
    wpAny (model X.prog X.w) X.A (call f us) (EP X pins σ Q) X.xe s
def tOp (r : R2) (ta tb : TE) : TE := fun σ H Q => ta σ H fun x H1 => tb σ H1 fun y H2 => r x y H2 Q
def tUn (r : V → Hp → VK → Prop) (ta : TE) : TE := fun σ H Q => ta σ H fun x H1 => r x H1 Q
def rI (C : Int → Int → Prop) (g : Int → Int → V) : R2 := fun x y H Q => ∃ i j, x = .int i ∧ y = .int j ∧ C i j ∧ Q (g i j) H
def rI0 (g : Int → Int → V) : R2 := fun x y H Q => ∃ i j, x = .int i ∧ y = .int j ∧ Q (g i j) H
def rU (g : Int → V) : V → Hp → VK → Prop := fun x H Q => ∃ i, x = .int i ∧ Q (g i) H
section
variable {X : Cx} {a b c : Expr} {ta tb tc : TE} {pos : Pos}
theorem binT (ha : PE X a ta) (hb : PE X b tb) {pins : List (Addr × Obj)} {s : Shared} {σ : St} {H : Hp} {R : V → V → Hp → Prop} (I : Inv X pins σ H s)
    (h : ta σ H fun x H1 => tb σ H1 fun y H2 => R x y H2) {Q : Value → Shared → Prop} {f : Value → Value → Sem Value}
    (hf : ∀ v u s2 x y H2, Inv X pins σ H2 s2 → RelV x v → RelV y u → R x y H2 → wpAny (model X.prog X.w) X.A (f v u) Q X.xe s2) :
    wpAny (model X.prog X.w) X.A (eval a X.env) (fun v s₁ => wpAny (model X.prog X.w) X.A (eval b X.env) (fun u s₂ => wpAny (model X.prog X.w) X.A (f v u) Q X.xe s₂) X.xe s₁) X.xe s := by
  refine thn (ha pins s σ H _ I h) fun v s1 ⟨x, H1, I1, r1, q1⟩ => ?_
  refine thn (hb pins s1 σ H1 _ I1 q1) fun u s2 ⟨y, H2, I2, r2, q2⟩ => ?_
  exact hf v u s2 x y H2 I2 r1 r2 q2
theorem pe_op {op : Operator} {r : R2} (ho : OpR X (binaryOp op) r) (ha : PE X a ta) (hb : PE X b tb) : PE X (.BinOp a op b pos) (tOp r ta tb) := by
  intro pins s σ H Q I h
  exact wpAny_BinOp (binT ha hb I h fun v u s2 x y H2 I2 rx ry q => ho pins s2 σ H2 x y v u Q I2 rx ry q)
theorem pe_un {op : UnaryOp} {r : V → Hp → VK → Prop} (ho : UnR X (unaryOp op) r) (ha : PE X a ta) : PE X (.UnaryOp op a pos) (tUn r ta) := by
  intro pins s σ H Q I h
  exact UnaryOp_ (thn (ha pins s σ H _ I h) fun v s1 ⟨x, H1, I1, r1, q1⟩ => ho pins s1 σ H1 x v Q I1 r1 q1)
theorem opI {f : Value → Value → Sem Value} {C : Int → Int → Prop} {g : Int → Int → Int}
    (rule : ∀ (i j : Int) (t u : Tok) (s : Shared) (Q : Value → Shared → Prop) (E : Value → Shared → Prop), C i j → Q (.int (g i j) s.toks) { s with toks := s.toks + 1 } → wpAny (model X.prog X.w) X.A (f (.int i t) (.int j u)) Q E s) :
    OpR X f (rI C fun i j => .int (g i j)) := by
  intro pins s σ H x y v u Q I rx ry h
  obtain ⟨i, j, rfl, rfl, hc, q⟩ := h
  obtain ⟨t, rfl⟩ := rx
  obtain ⟨t', rfl⟩ := ry
  exact rule i j t t' s _ _ hc ⟨.int (g i j), H, I.tok _, ⟨_, rfl⟩, q⟩
theorem opI0 {f : Value → Value → Sem Value} {g : Int → Int → Int}
    (rule : ∀ (i j : Int) (t u : Tok) (s : Shared) (Q : Value → Shared → Prop) (E : Value → Shared → Prop), Q (.int (g i j) s.toks) { s with toks := s.toks + 1 } → wpAny (model X.prog X.w) X.A (f (.int i t) (.int j u)) Q E s) :
    OpR X f (rI0 fun i j => .int (g i j)) := by
  intro pins s σ H x y v u Q I rx ry h
  obtain ⟨i, j, rfl, rfl, q⟩ := h
  obtain ⟨t, rfl⟩ := rx
  obtain ⟨t', rfl⟩ := ry
  exact rule i j t t' s _ _ ⟨.int (g i j), H, I.tok _, ⟨_, rfl⟩, q⟩
theorem opB0 {f : Value → Value → Sem Value} {g : Int → Int → Bool}
    (rule : ∀ (i j : Int) (t u : Tok) (s : Shared) (Q : Value → Shared → Prop) (E : Value → Shared → Prop), Q (.bool (g i j)) s → wpAny (model X.prog X.w) X.A (f (.int i t) (.int j u)) Q E s) :
    OpR X f (rI0 fun i j => .bl (g i j)) := by
  intro pins s σ H x y v u Q I rx ry h
  obtain ⟨i, j, rfl, rfl, q⟩ := h
  obtain ⟨t, rfl⟩ := rx
  obtain ⟨t', rfl⟩ := ry
  exact rule i j t t' s _ _ ⟨.bl (g i j), H, I, rfl, q⟩
def CDiv (i j : Int) : Prop := 0 < j ∧ j < 1073741824
def CPow (i j : Int) : Prop := 0 ≤ j ∧ j ≤ 1000000 ∧ i.natAbs < 2 ^ 64
def CMul (i j : Int) : Prop := (-(2 ^ 64) < i ∧ i < 2 ^ 64) ∨ (-(2 ^ 64) < j ∧ j < 2 ^ 64)
theorem CMul.ok {i j : Int} (h : CMul i j) : IntMulOk i j := by
  rcases h with ⟨h1, h2⟩ | ⟨h1, h2⟩
  · exact .of_left (intBits_le_64 h1 h2)
  · exact .of_right (intBits_le_64 h1 h2)
theorem op_add : OpR X (binaryOp .Add) (rI0 fun i j => .int (i + j)) := opI0 fun _ _ _ _ _ _ _ q => add_int q
theorem op_sub : OpR X (binaryOp .Sub) (rI0 fun i j => .int (i - j)) := opI0 fun _ _ _ _ _ _ _ q => sub_int q
theorem op_mul : OpR X (binaryOp .Mult) (rI CMul fun i j => .int (i * j)) := opI fun _ _ _ _ _ _ _ hc q => mul_int q hc.ok
theorem op_fdiv : OpR X (binaryOp .FloorDiv) (rI CDiv fun i j => .int (i / j)) := opI fun i j _ _ _ _ _ hc q => by
  have h1 : (0 : Int) < j := hc.1
  have h2 : j < 1073741824 := hc.2
  exact floordiv_int (by omega) (by rw [Int.fdiv_eq_ediv_of_nonneg i (by omega)]; exact q) (.inl (PyProof.noPylong_small (by omega)))
theorem op_mod : OpR X (binaryOp .Mod) (rI (fun _ j => 0 < j) fun i j => .int (i % j)) := opI fun i j _ _ _ _ _ hc q => by
  have h1 : (0 : Int) < j := hc
  exact mod_int' (by omega) (by rw [Int.fmod_eq_emod_of_nonneg i (by omega)]; exact q)
theorem op_pow : OpR X (binaryOp .Pow) (rI CPow fun i j => .int (i ^ j.toNat)) := opI fun _ _ _ _ _ _ _ hc q => pow_int_small hc.1 hc.2.1 hc.2.2 q
theorem unI {f : Value → Sem Value} {g : Int → Int}
    (rule : ∀ (i : Int) (t : Tok) (s : Shared) (Q : Value → Shared → Prop) (E : Value → Shared → Prop), Q (.int (g i) s.toks) { s with toks := s.toks + 1 } → wpAny (model X.prog X.w) X.A (f (.int i t)) Q E s) :
    UnR X f (rU fun i => .int (g i)) := by
  intro pins s σ H x v Q I rx h
  obtain ⟨i, rfl, q⟩ := h
  obtain ⟨t, rfl⟩ := rx
  exact rule i t s _ _ ⟨.int (g i), H, I.tok _, ⟨_, rfl⟩, q⟩
theorem un_neg : UnR X (unaryOp .USub) (rU fun i => .int (-i)) := unI fun _ _ _ _ _ q => neg_int q
end
def scal : V → V → Bool
  | .non, .non => true | .non, .int _ => true | .int _, .non => true | .non, .bl _ => true | .bl _, .non => true | .non, .str _ => true | .str _, .non => true
  | .int _, .int _ => true | .bl _, .bl _ => true | .str _, .str _ => true | .byt _, .byt _ => true
  | .int _, .str _ => true | .str _, .int _ => true | .bl _, .str _ => true | .str _, .bl _ => true
  | _, _ => false
def rEq : R2 := fun x y H Q => scal x y = true ∧ Q (.bl (decide (x = y))) H
def rNe : R2 := fun x y H Q => scal x y = true ∧ Q (.bl (!decide (x = y))) H
theorem dec_int {i j : Int} : decide (V.int i = V.int j) = (i == j) := by
  rw [Bool.eq_iff_iff]
  simp
theorem dec_bl {i j : Bool} : decide (V.bl i = V.bl j) = (i == j) := by
  rw [Bool.eq_iff_iff]
  simp
theorem dec_str {i j : Str} : decide (V.str i = V.str j) = (i == j) := by
  rw [Bool.eq_iff_iff]
  simp
theorem dec_byt {i j : Array UInt8} : decide (V.byt i = V.byt j) = (i.toList == j.toList) := by
  rw [Bool.eq_iff_iff]
  cases i
  cases j
  simp
section
variable {X : Cx} {a b c : Expr} {ta tb tc : TE} {pos : Pos}
theorem fin_bl {pins : List (Addr × Obj)} {σ : St} {H : Hp} {s : Shared} {Q : VK} {k k' : Bool} (I : Inv X pins σ H s) (q : Q (.bl k) H) (e : k = k') : EP X pins σ Q (.bool k') s := by
  subst e
  exact ⟨.bl k, H, I, rfl, q⟩
theorem op_eq : OpR X (compareOp .Eq) rEq := by
  intro pins s σ H x y v u Q I rx ry h
  obtain ⟨hs, q⟩ := h
  cases x with
  | non =>
    cases rx
    cases y with
    | non => cases ry; exact PySem.EqNone.eq_none_none (fin_bl I q (by simp))
    | bl j => cases ry; exact PySem.EqNone.eq_none_bool (fin_bl I q (by simp))
    | int j => obtain ⟨t', rfl⟩ := ry; exact PySem.EqNone.eq_none_int (fin_bl I q (by simp))
    | str j => obtain ⟨t', rfl⟩ := ry; exact PySem.EqNone.eq_none_str (fin_bl I q (by simp))
    | _ => exact absurd (show false = true from hs) Bool.false_ne_true
  | bl i =>
    cases rx
    cases y with
    | non => cases ry; exact PySem.EqNone.eq_bool_none (fin_bl I q (by simp))
    | bl j => cases ry; exact eq_bool (fin_bl I q dec_bl)
    | str j => obtain ⟨t', rfl⟩ := ry; exact PySem.EqMixed.eq_bool_str (fin_bl I q (by simp))
    | _ => exact absurd (show false = true from hs) Bool.false_ne_true
  | int i =>
    obtain ⟨t, rfl⟩ := rx
    cases y with
    | non => cases ry; exact PySem.EqNone.eq_int_none (fin_bl I q (by simp))
    | int j => obtain ⟨t', rfl⟩ := ry; exact eq_int (fin_bl I q dec_int)
    | str j => obtain ⟨t', rfl⟩ := ry; exact PySem.EqMixed.eq_int_str (fin_bl I q (by simp))
    | _ => exact absurd (show false = true from hs) Bool.false_ne_true
  | str i =>
    obtain ⟨t, rfl⟩ := rx
    cases y with
    | non => cases ry; exact PySem.EqNone.eq_str_none (fin_bl I q (by simp))
    | bl j => cases ry; exact PySem.EqMixed.eq_str_bool (fin_bl I q (by simp))
    | int j => obtain ⟨t', rfl⟩ := ry; exact PySem.EqMixed.eq_str_int (fin_bl I q (by simp))
    | str j => obtain ⟨t', rfl⟩ := ry; exact eq_str (fin_bl I q dec_str)
    | _ => exact absurd (show false = true from hs) Bool.false_ne_true
  | byt i =>
    obtain ⟨t, rfl⟩ := rx
    cases y with
    | byt j => obtain ⟨t', rfl⟩ := ry; exact PySem.W.eq_bytes (fin_bl I q dec_byt)
    | _ => exact absurd (show false = true from hs) Bool.false_ne_true
  | _ => cases y <;> exact absurd (show false = true from hs) Bool.false_ne_true
theorem op_ne : OpR X (compareOp .NotEq) rNe := by
  intro pins s σ H x y v u Q I rx ry h
  obtain ⟨hs, q⟩ := h
  cases x with
  | non =>
    cases rx
    cases y with
    | non => cases ry; exact PySem.EqNone.ne_none_none (fin_bl I q (by simp))
    | bl j => cases ry; exact PySem.EqNone.ne_none_bool (fin_bl I q (by simp))
    | int j => obtain ⟨t', rfl⟩ := ry; exact PySem.EqNone.ne_none_int (fin_bl I q (by simp))
    | str j => obtain ⟨t', rfl⟩ := ry; exact PySem.EqNone.ne_none_str (fin_bl I q (by simp))
    | _ => exact absurd (show false = true from hs) Bool.false_ne_true
  | bl i =>
    cases rx
    cases y with
    | non => cases ry; exact PySem.EqNone.ne_bool_none (fin_bl I q (by simp))
    | bl j => cases ry; exact ne_bool (fin_bl I q (congrArg not dec_bl))
    | str j => obtain ⟨t', rfl⟩ := ry; exact PySem.EqMixed.ne_bool_str (fin_bl I q (by simp))
    | _ => exact absurd (show false = true from hs) Bool.false_ne_true
  | int i =>
    obtain ⟨t, rfl⟩ := rx
    cases y with
    | non => cases ry; exact PySem.EqNone.ne_int_none (fin_bl I q (by simp))
    | int j => obtain ⟨t', rfl⟩ := ry; exact ne_int (fin_bl I q (congrArg not dec_int))
    | str j => obtain ⟨t', rfl⟩ := ry; exact PySem.EqMixed.ne_int_str (fin_bl I q (by simp))
    | _ => exact absurd (show false = true from hs) Bool.false_ne_true
  | str i =>
    obtain ⟨t, rfl⟩ := rx
    cases y with
    | non => cases ry; exact PySem.EqNone.ne_str_none (fin_bl I q (by simp))
    | bl j => cases ry; exact PySem.EqMixed.ne_str_bool (fin_bl I q (by simp))
    | int j => obtain ⟨t', rfl⟩ := ry; exact PySem.EqMixed.ne_str_int (fin_bl I q (by simp))
    | str j => obtain ⟨t', rfl⟩ := ry; exact ne_str (fin_bl I q (congrArg not dec_str))
    | _ => exact absurd (show false = true from hs) Bool.false_ne_true
  | byt i =>
    obtain ⟨t, rfl⟩ := rx
    cases y with
    | byt j => obtain ⟨t', rfl⟩ := ry; exact PySem.W.ne_bytes (fin_bl I q (congrArg not dec_byt))
    | _ => exact absurd (show false = true from hs) Bool.false_ne_true
  | _ => cases y <;> exact absurd (show false = true from hs) Bool.false_ne_true
theorem op_lt : OpR X (compareOp .Lt) (rI0 fun i j => .bl (decide (i < j))) := opB0 fun _ _ _ _ _ _ _ q => lt_int q
theorem op_le : OpR X (compareOp .LtE) (rI0 fun i j => .bl (decide (i ≤ j))) := opB0 fun _ _ _ _ _ _ _ q => le_int q
theorem op_gt : OpR X (compareOp .Gt) (rI0 fun i j => .bl (decide (j < i))) := opB0 fun _ _ _ _ _ _ _ q => gt_int q
theorem op_in_str : OpR X (compareOp .In) (fun x y H Q => ∃ i j, x = .str i ∧ y = .str j ∧ Q (.bl (!(Builtin.Str.occurrences j i 0 j.length 1).isEmpty)) H) := by
  intro pins s σ H x y v u Q I rx ry h
  obtain ⟨i, j, rfl, rfl, q⟩ := h
  obtain ⟨t, rfl⟩ := rx
  obtain ⟨t', rfl⟩ := ry
  exact in_str (fin_bl I q rfl)
theorem op_isN : OpR X (compareOp .Is) (fun x y H Q => y = .non ∧ Q (.bl (decide (x = .non))) H) := by
  intro pins s σ H x y v u Q I rx ry h
  obtain ⟨rfl, q⟩ := h
  cases ry
  refine is_none_gen (fin_bl I q ?_)
  cases x <;> first
    | (cases rx; rfl)
    | (obtain ⟨t, rfl⟩ := rx; rfl)
theorem op_notN : OpR X (compareOp .IsNot) (fun x y H Q => y = .non ∧ Q (.bl (!decide (x = .non))) H) := by
  intro pins s σ H x y v u Q I rx ry h
  obtain ⟨rfl, q⟩ := h
  cases ry
  refine isnot_none_gen (fin_bl I q ?_)
  cases x <;> first
    | (cases rx; rfl)
    | (obtain ⟨t, rfl⟩ := rx; rfl)
theorem nomark (b : Expr) {op : CmpOp} (h : op ≠ .In := by decide) (h2 : op ≠ .NotIn := by decide) : behindInMarks op b = false := by
  have e1 : (op == CmpOp.In) = false := by cases op <;> first | rfl | exact absurd rfl h
  have e2 : (op == CmpOp.NotIn) = false := by cases op <;> first | rfl | exact absurd rfl h2
  cases b <;> simp [behindInMarks, e1, e2]
theorem pe_cmpR {op : CmpOp} {r : R2} (ho : OpR X (compareOp op) r) (ha : PE X a ta) (hb : PE X b tb) (hm : behindInMarks op b = false) : PE X (.Compare a [op] [b] pos) (tOp r ta tb) := by
  intro pins s σ H Q I h
  exact wpAny_Compare1 (binT ha hb I h fun v u s2 x y H2 I2 rx ry q => ho pins s2 σ H2 x y v u Q I2 rx ry q) hm
def tTest (t : TE) : TT := fun σ H Q => t σ H fun x H' => ∃ k, x = .bl k ∧ Q k H'
theorem pt_cmpR {op : CmpOp} {r : R2} (ho : OpR X (compareOp op) r) (ha : PE X a ta) (hb : PE X b tb) (hm : behindInMarks op b = false) : PT X (.Compare a [op] [b] pos) (tTest (tOp r ta tb)) := by
  intro pins s σ H Q I h
  refine wpAny_isTrue_Compare1 (thn (ha pins s σ H _ I h) fun v s1 ⟨x, H1, I1, r1, q1⟩ => thn (hb pins s1 σ H1 _ I1 q1) fun u s2 ⟨y, H2, I2, r2, q2⟩ =>
    thn (ho pins s2 σ H2 x y v u _ I2 r1 r2 q2) fun c s3 ⟨z, H3, I3, r3, k, e, q3⟩ => ?_) hm
  subst e
  cases r3
  exact wpAny_truthy_bool ⟨H3, I3, q3⟩
def tChain (r r' : R2) (ta tb tc : TE) : TE := fun σ H Q => ta σ H fun x H1 => tb σ H1 fun y H2 => r x y H2 fun z H3 => ∃ k, z = .bl k ∧
  (if k = true then tc σ H3 fun w' H4 => r' y w' H4 Q else Q (.bl false) H3)
theorem pe_chain {op op' : CmpOp} {r r' : R2} (ho : OpR X (compareOp op) r) (ho' : OpR X (compareOp op') r') (ha : PE X a ta) (hb : PE X b tb) (hc : PE X c tc)
    (hm : lastMarks [op, op'] [b, c] = false := by with_unfolding_all rfl) : PE X (.Compare a [op, op'] [b, c] pos) (tChain r r' ta tb tc) := by
  intro pins s σ H Q I h
  refine Compare_chain (thn (ha pins s σ H _ I h) fun v s1 ⟨x, H1, I1, r1, q1⟩ => chain_link (thn (hb pins s1 σ H1 _ I1 q1) fun u s2 ⟨y, H2, I2, r2, q2⟩ =>
    thn (ho pins s2 σ H2 x y v u _ I2 r1 r2 q2) fun d s3 ⟨z, H3, I3, r3, k, e, q3⟩ => ?_)) hm
  subst e
  cases r3
  refine wpAny_truthy_bool ?_
  cases k with
  | false => exact ite_ff ⟨.bl false, H3, I3, rfl, q3⟩
  | true => exact ite_tt (chain_last (thn (hc pins s3 σ H3 _ I3 q3) fun w' s4 ⟨z', H4, I4, r4, q4⟩ => ho' pins s4 σ H4 y z' u w' Q I4 r2 r4 q4))
theorem pt_chain {op op' : CmpOp} {r r' : R2} (ho : OpR X (compareOp op) r) (ho' : OpR X (compareOp op') r') (ha : PE X a ta) (hb : PE X b tb) (hc : PE X c tc)
    (hm : lastMarks [op, op'] [b, c] = false := by with_unfolding_all rfl) : PT X (.Compare a [op, op'] [b, c] pos) (tTest (tChain r r' ta tb tc)) := by
  intro pins s σ H Q I h
  refine isTrue_chain (thn (ha pins s σ H _ I h) fun v s1 ⟨x, H1, I1, r1, q1⟩ => test_link (thn (hb pins s1 σ H1 _ I1 q1) fun u s2 ⟨y, H2, I2, r2, q2⟩ =>
    thn (ho pins s2 σ H2 x y v u _ I2 r1 r2 q2) fun d s3 ⟨z, H3, I3, r3, k, e, q3⟩ => ?_)) hm
  subst e
  cases r3
  refine wpAny_truthy_bool ?_
  cases k with
  | false =>
    obtain ⟨k', e', q'⟩ := q3
    cases e'
    exact ite_ff ⟨H3, I3, q'⟩
  | true =>
    refine ite_tt (test_last (thn (hc pins s3 σ H3 _ I3 q3) fun w' s4 ⟨z', H4, I4, r4, q4⟩ => thn (ho' pins s4 σ H4 y z' u w' _ I4 r2 r4 q4) fun d' s5 ⟨z2, H5, I5, r5, k2, e2, q5⟩ => ?_))
    subst e2
    cases r5
    exact wpAny_truthy_bool ⟨H5, I5, q5⟩
theorem line63 : (sizeLine : Nat) < 2 ^ 63 := by rw [sizeLine_eq]; decide
theorem op_add_str : OpR X (binaryOp .Add) (fun x y H Q => ∃ i j, x = .str i ∧ y = .str j ∧ i.length + j.length ≤ sizeLine ∧ Q (.str (i ++ j)) H) := by
  intro pins s σ H x y v u Q I rx ry h
  obtain ⟨i, j, rfl, rfl, hz, q⟩ := h
  obtain ⟨t, rfl⟩ := rx
  obtain ⟨t', rfl⟩ := ry
  exact add_str (fun t' tk => ⟨.str (i ++ j), H, I.tok _, ⟨_, rfl⟩, q⟩) hz
theorem vals1 {x : V} {us : List Value} (r : Vals [x] us) : ∃ u, us = [u] ∧ RelV x u := by
  cases r with
  | cons r1 r2 => cases r2; exact ⟨_, rfl, r1⟩
theorem call_int1 : CallR X (.type "int") (fun xs H Q => (∃ i, xs = [.int i] ∧ Q (.int i) H) ∨ ∃ k, xs = [.bl k] ∧ Q (.int (if k then 1 else 0)) H) := by
  intro pins s σ H xs us Q I r h
  rcases h with ⟨i, rfl, q⟩ | ⟨k, rfl, q⟩
  · obtain ⟨u, rfl, t, rfl⟩ := vals1 r
    exact call_int_int ⟨.int i, H, I, ⟨_, rfl⟩, q⟩
  · obtain ⟨u, rfl, r1⟩ := vals1 r
    cases r1
    exact call_int_bool ⟨.int (if k then 1 else 0), H, I.tok _, ⟨_, rfl⟩, q⟩
end
end L2
namespace L2
open PySem PySem.Spec PyProof.Rows
structure ObjM (h : Heap) (x dx C : Addr) (mA : Str → Option Value) : Prop where
  obj : h.get? x = some (PySem.W.instObj C dx)
  ns : h.Ns1 dx mA
  ne : dx ≠ x
theorem lookIn_ns {h : Heap} {dx : Addr} {mA : Str → Option Value} (n : h.Ns1 dx mA) : ∃ od, h.get? dx = some od ∧ ∀ name, PySem.W.lookIn name od = some (mA name) := by
  obtain ⟨o, es, ep, ho, hd, hk, _, hm⟩ := n
  refine ⟨o, ho, fun name => ?_⟩
  have e := hm name
  unfold nsFind findBy at e
  rw [← Array.find?_toList] at e
  unfold PySem.W.lookIn
  rw [hd]
  dsimp only
  split
  · rename_i y q
    rw [q] at e
    exact congrArg some e
  · rename_i q
    rw [q] at e
    have a : es.toList.any (·.refKey) = false := by
      rw [List.any_eq_false]
      intro y hy
      obtain ⟨z, t, hkey⟩ := hk y (Array.mem_toList_iff.mp hy)
      simp [DictEntry.refKey, hkey]
    have a' : ¬ es.toList.any (·.refKey) = true := by rw [a]; exact Bool.false_ne_true
    rw [if_neg a']
    exact congrArg some e
theorem ObjM.look {h : Heap} {x dx C : Addr} {mA : Str → Option Value} (I : ObjM h x dx C mA) : ∃ od, PySem.W.InstAt h x (PySem.W.instObj C dx) C (some od) ∧ ∀ name, PySem.W.lookIn name od = some (mA name) :=
  let ⟨od, ho, hl⟩ := lookIn_ns I.ns
  ⟨od, ⟨I.obj, rfl, rfl, ho⟩, hl⟩
section
variable {prog : Program} {w : World} {A : Around} {E : Value → Shared → Prop} {s : Shared} {K : PySem.W.Frag} {x dx C f : Addr} {mA : Str → Option Value} {name : Str} {v : Value}
end
theorem RelO.some_of {v : V} {o : Option Value} (r : RelO (some v) o) : ∃ u, o = some u ∧ RelV v u := by
  cases o with
  | none => exact (show False from r).elim
  | some u => exact ⟨u, rfl, r⟩
section
variable {P : Program} {w : World} {H H' : Hp} {h h' : Heap} {a C dx : Addr} {fs fs' : List (Str × V)}
theorem ins_get (hok : HOk P w H h) (e : H a = some (.ins C dx fs)) : ∃ mA, ObjM h a dx C mA ∧ (∀ f, RelO (fs.lookup f) (mA f)) ∧ PySem.Within mA (fs.map (·.1)) ∧ fs.length ≤ 1000 ∧ H dx = some (.own a) := by
  obtain ⟨d, z, ne, ob, mA, n, r, q⟩ := (show ObjOk P w H h a (.ins C dx fs) from hok a _ e)
  exact ⟨mA, ⟨ob, n, ne⟩, r, q, z, d⟩
end
structure Cls (K : PySem.W.Frag) (C : Addr) : Prop where
  pg : PySem.W.plainGet K C Str.empty = true
  hd : PySem.W.hasDictIn K C = true
  po : PySem.W.plainOver K C = true
  sa : PySem.W.findIn K (.ref C) "__setattr__" = some (some (.builtin "object.__setattr__"))
theorem Cls.get {K : PySem.W.Frag} {C : Addr} (c : Cls K C) (f : Str) : PySem.W.plainGet K C f = true := c.pg
structure Con (K : PySem.W.Frag) (C : Addr) (f : Str) (v : V) (u : Value) : Prop where
  at_ : PySem.W.findIn K (.ref C) f = some (some u)
  rel : RelV v u
  get : PySem.W.specialIn K u "__get__" = some none
  cp : PySem.W.copiedNames.contains f = false
structure Meth (K : PySem.W.Frag) (C : Addr) (m : Str) (f : Addr) : Prop where
  at_ : PySem.W.findIn K (.ref C) m = some (some (.ref f))
  fn : PySem.W.isFn K (.ref f) = true
  kp : PySem.W.keepIn K (.ref f) = true
section
variable {X : Cx} {pins : List (Addr × Obj)} {σ : St} {H : Hp} {s : Shared} {a C dx : Addr} {fs : List (Str × V)} {f : Str} {v : V} {A : Around} {E : Value → Shared → Prop}
end
section
variable {X : Cx} {o e value : Expr} {f : Str} {pos pos' tpos : Pos} {ta tv : TE}
end
section
variable {X : Cx} {pins : List (Addr × Obj)} {σ : St} {H : Hp} {s : Shared} {A : Around} {E : Value → Shared → Prop} {Q : Value → Shared → Prop} {c : Value} {b : Bool}
inductive TyOf (K : PySem.W.Frag) (H : Hp) : V → Value → Prop where
  | non : TyOf K H .non (.type "NoneType")
  | bl (x : Bool) : TyOf K H (.bl x) (.type "bool")
  | int (i : Int) : TyOf K H (.int i) (.type "int")
  | str (x : Str) : TyOf K H (.str x) (.type "str")
  | flt (x : UInt64) : TyOf K H (.flt x) (.type "float")
  | lst {a : Addr} {xs : List V} (e : H a = some (.lst xs)) : TyOf K H (.ref a) (.type "list")
  | frz {a : Addr} {o : Obj} {xs : List V} (e : H a = some (.frz o (.lst xs))) : TyOf K H (.ref a) (.type "list")
  | tup {a : Addr} {xs : List V} (e : H a = some (.tup xs)) : TyOf K H (.ref a) (.type "tuple")
  | dK {a : Addr} {kvs : List (Key × V)} (e : H a = some (.dK kvs)) : TyOf K H (.ref a) (.type "dict")
  | dT {a : Addr} {kvs : List (List Key × V)} (e : H a = some (.dT kvs)) : TyOf K H (.ref a) (.type "dict")
  | ins {a C dx : Addr} {fs : List (Str × V)} (e : H a = some (.ins C dx fs)) (cl : Cls K C) (ha : PySem.W.findIn K (.ref C) "__class__" = some (some (.builtin "object.__class__")))
      (hn : PySem.W.specialIn K (.builtin "object.__class__") "__get__" = some (some (.builtin "getset_descriptor.__get__"))) (htk : PySem.W.takesIn K (.builtin "object.__class__") = some true)
      (hm : PySem.W.mroIn K C (.type "object") = some true) : TyOf K H (.ref a) (.ref C)
theorem isinst_ok {x : V} {u t : Value} (I : Inv X pins σ H s) (rx : RelV x u) (ty : TyOf X.K H x t) (e : PySem.W.kitOne X.K t c = some b) (h : ∀ tk, Q (.bool b) { s with toks := tk }) :
    wpAny (model X.prog X.w) A (call (.builtin "isinstance") [u, c]) Q E s := by
  cases ty with
  | non => cases (show u = Value.none from rx); exact PySem.W.kia_one PySem.W.kitx_none I.kIn True.intro e (fun z => nomatch z) h
  | bl y => cases (show u = Value.bool y from rx); exact PySem.W.kia_one PySem.W.kitx_bool I.kIn True.intro e (fun z => nomatch z) h
  | int i => obtain ⟨t, q⟩ := (show ∃ t, u = Value.int i t from rx); cases q; exact PySem.W.kia_one PySem.W.kitx_int I.kIn True.intro e (fun z => nomatch z) h
  | str y => obtain ⟨t, q⟩ := (show ∃ t, u = Value.str y t from rx); cases q; exact PySem.W.kia_one PySem.W.kitx_str I.kIn True.intro e (fun z => nomatch z) h
  | flt y => obtain ⟨t, q⟩ := (show ∃ t, u = Value.float y t from rx); cases q; exact PySem.W.kia_one PySem.W.kitx_float I.kIn True.intro e (fun z => nomatch z) h
  | @lst a xs ea =>
    cases (show u = Value.ref a from rx)
    obtain ⟨_, _, n, _, h1⟩ := (show ObjOk X.prog X.w H s.heap a (.lst xs) from I.hok a _ ea)
    exact PySem.W.kia_one PySem.W.kitx_list I.kIn ⟨_, h1, rfl⟩ e (fun z => nomatch z) h
  | @frz a ob xs ea =>
    cases (show u = Value.ref a from rx)
    obtain ⟨_, _, _, n, _, h1⟩ := (show ObjOk X.prog X.w H s.heap a (.frz ob (.lst xs)) from I.hok a _ ea)
    exact PySem.W.kia_one PySem.W.kitx_list I.kIn ⟨_, h1, rfl⟩ e (fun z => nomatch z) h
  | @tup a xs ea =>
    cases (show u = Value.ref a from rx)
    obtain ⟨_, _, _, p⟩ := (show ObjOk X.prog X.w H s.heap a (.tup xs) from I.hok a _ ea)
    obtain ⟨o, h1, h2, _⟩ := p
    exact PySem.W.kia_one PySem.W.kitx_tuple I.kIn ⟨o, h1, h2⟩ e (fun z => nomatch z) h
  | @dK a kvs ea =>
    cases (show u = Value.ref a from rx)
    obtain ⟨_, _, vs, _, p⟩ := (show ObjOk X.prog X.w H s.heap a (.dK kvs) from I.hok a _ ea)
    obtain ⟨o, es, ep, h1, h2, _⟩ := p
    exact PySem.W.kia_one PySem.W.kitx_dict I.kIn ⟨o, h1, h2.1⟩ e (fun z => nomatch z) h
  | @dT a kvs ea =>
    cases (show u = Value.ref a from rx)
    obtain ⟨_, _, xs, _, o, es, ep, h1, h2, _⟩ := (show ObjOk X.prog X.w H s.heap a (.dT kvs) from I.hok a _ ea)
    exact PySem.W.kia_one PySem.W.kitx_dict I.kIn ⟨o, h1, h2.1⟩ e (fun z => nomatch z) h
  | @ins a C dx fs ea cl ha hn htk hm =>
    cases (show u = Value.ref a from rx)
    obtain ⟨mA, O, _⟩ := ins_get I.hok ea
    obtain ⟨od, J, _⟩ := O.look
    exact PySem.W.kia_one (PySem.W.kitx_own (cl.get _) cl.hd ha hn htk hm) I.kIn J e (fun z => nomatch z) h
end
end L2
namespace L2
open PySem PySem.Spec PyProof.Rows
structure Room (k : Nat) (A : Around) : Prop where
  dp : A.depth + 3 * k + 5 < recursionLimit
  un : A.units + 16 * k + 200 < cLine
  hd : 130 ≤ k → A.handled = none
theorem Room.mono {j k : Nat} {A : Around} (r : Room k A) (h : j ≤ k) : Room j A := ⟨by have := r.dp; omega, by have := r.un; omega, fun z => r.hd (by omega)⟩
theorem Room.deeper {k : Nat} {A : Around} (r : Room (k + 1) A) (env : Env) : Room k (A.deeper env) :=
  ⟨by have := r.dp; show A.depth + 1 + 3 * k + 5 < _; omega, by have := r.un; show A.units + 3 + 16 * k + 200 < _; omega, fun z => r.hd (by omega)⟩
theorem Room.depth {k : Nat} {A : Around} (r : Room k A) : A.depth < recursionLimit := by have := r.dp; omega
theorem Room.units {k : Nat} {A : Around} (r : Room k A) : A.units + 64 < cLine := by have := r.un; omega
def tNil : TA := fun _ H Q => Q [] H
def tCons (ta : TE) (tr : TA) : TA := fun σ H Q => ta σ H fun x H1 => tr σ H1 fun xs H2 => Q (x :: xs) H2
section
variable {X : Cx} {e : Expr} {es : List Expr} {te : TE} {t : TA} {pos : Pos}
theorem pa_nil : PA X [] tNil := fun _ _ _ _ H Q I h => Calls.spliced_nil ⟨[], H, I, .nil, h⟩
theorem pa_cons (ha : PE X e te) (hr : PA X es t) (hs : starEach (e :: es) X.env = (false, eval e X.env) :: starEach es X.env := by rfl) : PA X (e :: es) (tCons te t) := by
  intro pos pins s σ H Q I h
  rw [hs]
  show wpAny _ _ (spliced ((false, eval e X.env) :: backTo pos (starEach es X.env))) _ _ s
  refine Calls.spliced_cons (thn (ha pins s σ H _ I h) fun u s1 ⟨x, H1, I1, r1, q1⟩ => ?_)
  exact thn (hr pos pins s1 σ H1 _ I1 q1) fun us s2 ⟨xs, H2, I2, r2, q2⟩ => ⟨x :: xs, H2, I2, .cons r1 r2, q2⟩
def tTup (t : TA) : TE := fun σ H Q => t σ H fun xs H1 => xs.length ≤ sizeLine ∧ ∀ p, H1 p = none → Q (.ref p) (upd H1 p (.tup xs))
def tLst (t : TA) : TE := fun σ H Q => t σ H fun xs H1 => xs.length ≤ sizeLine ∧ ∀ p, H1 p = none → Q (.ref p) (upd H1 p (.lst xs))
theorem pe_tup {x1} (h : PA X es t) : PE X (.Tuple es x1 pos) (tTup t) := by
  intro pins s σ H Q I hq
  refine wpAny_Tuple_spliced (thn (h pos pins s σ H _ I hq) fun us s1 ⟨xs, H1, I1, r, z, q⟩ => ⟨by rw [← r.length]; exact z, ?_⟩)
  have hf : H1 s1.heap.objs.size = none := I1.hok.fresh (Nat.le_refl _)
  refine ⟨.ref s1.heap.objs.size, upd H1 s1.heap.objs.size (.tup xs), I1.laid (t' := s1.toks) (fun b u e => Heap.get?_push_of_some _ e) (Nat.le_refl _) ?_, rfl, q _ hf⟩
  exact ⟨z, us, r, ⟨_, Heap.get?_push_size _ rfl, rfl, _, rfl⟩⟩
theorem pe_lst (h : PA X es t) : PE X (.List es pos) (tLst t) := by
  intro pins s σ H Q I hq
  refine wpAny_List_spliced (thn (h pos pins s σ H _ I hq) fun us s1 ⟨xs, H1, I1, r, z, q⟩ => ⟨by rw [← r.length]; exact z, ?_⟩)
  have hf : H1 s1.heap.objs.size = none := I1.hok.fresh (Nat.le_refl _)
  refine ⟨.ref s1.heap.objs.size, upd H1 s1.heap.objs.size (.lst xs), I1.laid (t' := s1.toks) (fun b u e => Heap.get?_push_of_some _ e) (Nat.le_refl _) ?_, rfl, q _ hf⟩
  exact ⟨z, us, 0, r, Heap.get?_push_size _ rfl⟩
end
abbrev Sp := List V → Hp → VK → XK → Prop
abbrev CXT := Option Value → List Env → Hp → Shared → XK → Value → Shared → Prop
structure Env0 (P : Program) (w : World) (K : PySem.W.Frag) (mg : Str → Option Value) (base : Heap) (A : Around) (outer : List Env) (s : Shared) (H : Hp) : Prop where
  frames : A.frames = some outer
  mod : Mod K mg base
  bs : ∀ b o, base.get? b = some o → s.heap.get? b = some o ∧ H b = none
  bsz : base.objs.size ≤ s.heap.objs.size
  funs : s.heap.FunFrames base outer
  frf : ∀ b ∈ frs outer, H b = none
  hok : HOk P w H s.heap
  bare : AllBare s.gens
  hdl : HB base A
def CE (outer : List Env) (P : Program) (w : World) (H : Hp) (s : Shared) (Q : VK) (u : Value) (s' : Shared) : Prop :=
  ∃ v H', s'.os = s.os ∧ AllBare s'.gens ∧ Un (frs outer) [] H H' s.heap s'.heap ∧ HOk P w H' s'.heap ∧ RelV v u ∧ Q v H'
def CR (CX : CXT) (hh : Option Value) (outer : List Env) (P : Program) (w : World) (H : Hp) (s : Shared) (Q : VK) (E : XK) (r : Result) (s' : Shared) : Prop :=
  match r with
  | .ok (.ret u) => CE outer P w H s Q u s'
  | .ok _ => False
  | .error e => CX hh outer H s E e s'
structure FnOk (P : Program) (w : World) (K : PySem.W.Frag) (mg : Str → Option Value) (base : Heap) (CX : CXT) (k : Nat) (f : Addr) (fd : FuncData) (ps : List Str) (sp : Sp) : Prop where
  len : ∀ vs H Q E, sp vs H Q E → vs.length = ps.length
  run : ∀ (A : Around) (outer : List Env) (s : Shared) (H : Hp) (args : Args) (us : List Value) (vs : List V) (Q : VK) (E : XK), Room k A → Env0 P w K mg base A outer s H → BindsTo s fd args (ps.zip us) → Vals vs us → sp vs H Q E →
    codeAny (model P w) A (.call (.ref f) args) (CR CX A.handled outer P w H s Q E) s
theorem FnOk.mono {P : Program} {w : World} {K : PySem.W.Frag} {mg : Str → Option Value} {base : Heap} {CX : CXT} {j k : Nat} {f : Addr} {fd : FuncData} {ps : List Str} {sp : Sp} (F : FnOk P w K mg base CX j f fd ps sp) (h : j ≤ k) :
    FnOk P w K mg base CX k f fd ps sp := ⟨F.len, fun A outer s H args us vs Q E hr => F.run A outer s H args us vs Q E (hr.mono h)⟩
section
variable {X : Cx} {pins : List (Addr × Obj)} {σ : St} {H : Hp} {s s' : Shared}
theorem Inv.after {Q : VK} {u : Value} (I : Inv X pins σ H s) (h : CE X.stack X.prog X.w H s Q u s') : EP X pins σ Q u s' := by
  obtain ⟨v, H', os, bare, un, hok, r, q⟩ := h
  obtain ⟨hh, g, d, t, os'⟩ := s'
  obtain rfl : os' = s.os := os
  exact ⟨v, H', I.call (h' := hh) (g' := g) (d' := d) (t' := t) (ch := []) un hok bare (fun b z => absurd z (by simp)), r, q⟩
end
def tCall (sp : Sp) (dvs : List V) (E : XK) (t : TA) : TE := fun σ H Q => t σ H fun vs H1 => sp (vs ++ dvs) H1 Q E
def Binds (K : PySem.W.Frag) (fd : FuncData) (ps : List Str) (ds : List Value) : Prop :=
  ∀ (s : Shared) (us : List Value), K.In s.heap → (us ++ ds).length = ps.length → BindsTo s fd ⟨us, []⟩ (ps.zip (us ++ ds))
theorem Binds.all {K : PySem.W.Frag} {fd : FuncData} {ps : List Str} (h : ∀ us : List Value, us.length = ps.length → bindArgs fd ⟨us, []⟩ = pure (ps.zip us)) : Binds K fd ps [] := fun s us _ hl => by
  rw [List.append_nil] at hl ⊢
  exact .of_eq (h us hl)
def Passes (CX : CXT) (X : Cx) (E : XK) : Prop := ∀ (pins : List (Addr × Obj)) (σ : St) (H : Hp) (s : Shared) (e : Value) (s' : Shared), Inv X pins σ H s → CX X.A.handled X.stack H s E e s' → X.xe e s'
section
variable {X : Cx} {CX : CXT} {k : Nat} {f C : Addr} {fd : FuncData} {ps : List Str} {sp : Sp} {dvs : List V} {ds : List Value} {E : XK} {x m : Str} {p pos apos : Pos} {e o : Expr} {es : List Expr} {ta : TE} {t : TA}
end
def PK (X : Cx) (kws : List Keyword) (t : TA) : Prop :=
  ∀ (pos : Pos) (pins : List (Addr × Obj)) (s : Shared) (σ : St) (H : Hp) (Q : List V → Hp → Prop), Inv X pins σ H s → t σ H Q → wpAny (model X.prog X.w) X.A (evalAll ((backToKw pos (keywordEach kws X.env)).map (·.2))) (AP X pins σ Q) X.xe s
section
variable {X : Cx} {CX : CXT} {k : Nat} {f C : Addr} {fd : FuncData} {ps ks : List Str} {sp : Sp} {E : XK} {x m : Str} {p pos apos kpos : Pos} {e o : Expr} {es : List Expr} {kws : List Keyword} {te ta : TE} {t tk : TA} {nm : Option Str}
end
structure FnScope (N P : List Str) (sc : Scope) : Prop where
  kind : sc.kind = .function
  co : sc.isCoroutine = false
  gen : sc.isGenerator = false
  nd : N.Nodup
  pre : N.take P.length = P
  par : ∀ x ∈ P, sc.names.lookup x = some .local ∨ sc.names.lookup x = some .cell
  nofree : ∀ y ∈ sc.names, y.2 ≠ .free
theorem bindL_out {kindOf : Str → Option NameKind} {x : Str} : ∀ {binds : List (Str × Value)} {m : Str → Option Value}, (∀ v, (x, v) ∉ binds) → bindL kindOf binds m x = m x
  | [], _, _ => rfl
  | (n, v) :: r, m, h => by
    unfold bindL
    rw [bindL_out fun w hw => h w (List.mem_cons_of_mem _ hw)]
    split
    · have : x ≠ n := by rintro rfl; exact h v List.mem_cons_self
      simp [this]
    · rfl
theorem bindC_out {kindOf : Str → Option NameKind} {x : Str} : ∀ {binds : List (Str × Value)} {m : Str → Option Value}, (∀ v, (x, v) ∉ binds) → bindC kindOf binds m x = m x
  | [], _, _ => rfl
  | (n, v) :: r, m, h => by
    unfold bindC
    rw [bindC_out fun w hw => h w (List.mem_cons_of_mem _ hw)]
    split
    · rfl
    · have : x ≠ n := by rintro rfl; exact h v List.mem_cons_self
      simp [this]
theorem bindL_get {kindOf : Str → Option NameKind} {x : Str} {v : Value} : ∀ {P : List Str} {vs : List Value} {i : Nat} {m : Str → Option Value}, P.Nodup → P[i]? = some x → vs[i]? = some v → kindOf x = some .local →
    bindL kindOf (P.zip vs) m x = some v
  | [], _, _, _, _, h, _, _ => by simp at h
  | _ :: _, [], _, _, _, _, h, _ => by simp at h
  | p :: P, w :: vs, 0, m, nd, h1, h2, hk => by
    simp at h1 h2; subst h1; subst h2
    show bindL kindOf ((p, w) :: P.zip vs) m p = _
    unfold bindL
    rw [bindL_out fun v hv => (List.nodup_cons.mp nd).1 (List.of_mem_zip hv).1, if_pos hk]
    simp
  | p :: P, w :: vs, i + 1, m, nd, h1, h2, hk => by
    show bindL kindOf ((p, w) :: P.zip vs) m x = _
    unfold bindL
    exact bindL_get (i := i) (List.nodup_cons.mp nd).2 (by simpa using h1) (by simpa using h2) hk
theorem bindC_get {kindOf : Str → Option NameKind} {x : Str} {v : Value} : ∀ {P : List Str} {vs : List Value} {i : Nat} {m : Str → Option Value}, P.Nodup → P[i]? = some x → vs[i]? = some v → kindOf x ≠ some .local →
    bindC kindOf (P.zip vs) m x = some v
  | [], _, _, _, _, h, _, _ => by simp at h
  | _ :: _, [], _, _, _, _, h, _ => by simp at h
  | p :: P, w :: vs, 0, m, nd, h1, h2, hk => by
    simp at h1 h2; subst h1; subst h2
    show bindC kindOf ((p, w) :: P.zip vs) m p = _
    unfold bindC
    rw [bindC_out fun v hv => (List.nodup_cons.mp nd).1 (List.of_mem_zip hv).1, if_neg hk]
    simp
  | p :: P, w :: vs, i + 1, m, nd, h1, h2, hk => by
    show bindC kindOf ((p, w) :: P.zip vs) m x = _
    unfold bindC
    exact bindC_get (i := i) (List.nodup_cons.mp nd).2 (by simpa using h1) (by simpa using h2) hk
def start (N : List Str) (vs : List V) : St := vs.map some ++ List.replicate (N.length - vs.length) none
def cxOf (CX : CXT) (P : Program) (w : World) (K : PySem.W.Frag) (mg : Str → Option Value) (base : Heap) (N : List Str) (qual : Str) (scope : Scope) (f : Addr) (cd : Value) (A : Around) (outer : List Env) (s : Shared) (H : Hp) (E : XK) : Cx where
  prog := P
  w := w
  K := K
  mg := mg
  base := base
  A := A.deeper (envOfC qual scope s.heap.objs.size f cd)
  N := N
  s₀ := s
  H₀ := H
  env := envOfC qual scope s.heap.objs.size f cd
  outer := outer
  stack := envOfC qual scope s.heap.objs.size f cd :: outer
  ex := []
  calm := true
  fn := fun _ => true
  pn := []
  xe := fun e s' => wpAny (model P w) (A.deeper (envOfC qual scope s.heap.objs.size f cd)) (leaving (envOfC qual scope s.heap.objs.size f cd) e) (fun _ s'' => CX A.handled outer H s E e s'') (fun e' s'' => CX A.handled outer H s E e' s'') s'
theorem cell_has {sc : Scope} {n : Nat} {x : Str} (h : sc.names.lookup x = some .cell) : ∃ c, (cellsFrom n sc.names []).lookup x = some c := by
  have q := PySem.W.cellsFrom_some sc.names n [] (.inl h)
  exact Option.isSome_iff_exists.mp q
theorem inv_start {CX : CXT} {P : Program} {w : World} {K : PySem.W.Frag} {mg : Str → Option Value} {base : Heap} {N ps : List Str} {qual : Str} {scope : Scope} {f : Addr} {cd : Value} {A : Around} {outer : List Env} {s s1 : Shared} {H : Hp} {E : XK} {us : List Value} {vs : List V}
    (S : FnScope N ps scope) (e0 : Env0 P w K mg base A outer s H) (hl : vs.length = ps.length) (r : Vals vs us)
    (x : InCallC s s.heap.objs.size (bindL (envOfC qual scope s.heap.objs.size f cd).kindOf (ps.zip us) fun _ => none) (cellsFrom (s.heap.objs.size + 1) scope.names []) (bindC (envOfC qual scope s.heap.objs.size f cd).kindOf (ps.zip us) fun _ => none) s1) :
    Inv (cxOf CX P w K mg base N qual scope f cd A outer s H E) [] (start N vs) H s1 := by
  have hpl : ps.length ≤ N.length := by have := congrArg List.length S.pre; rw [List.length_take] at this; omega
  obtain ⟨h1, tk, rfl, hk⟩ := x.done
  have noA : ∀ b : Addr, b ∉ (cxOf CX P w K mg base N qual scope f cd A outer s H E).ex := fun b z => absurd (show b ∈ ([] : List Addr) from z) (by simp)
  refine ⟨⟨e0.mod, S.kind, rfl, rfl, Nat.le_refl _, fun y z c h1 h2 => ?_, fun y hy => ?_, fun y c _ h => ?_, fun _ => e0.hdl.toP, Around.frames_deeper e0.frames, .inr ⟨rfl, rfl⟩, fun b z => absurd z (noA b), e0.bs, e0.bsz, fun b _ _ => noA b, fun b z => absurd z (noA b), e0.funs, e0.frf⟩,
    rfl, e0.bare, Un.kept hk, ⟨_, x.toInCall.ns, fun i y v h1 h2 h3 => ?_⟩, fun y c h => ⟨_, x.cell y c h⟩, e0.hok.fresh (Nat.le_refl _), fun y c h => ?_, fun p hp => absurd (show p ∈ ([] : List (Addr × Obj)) from hp) (by simp), e0.hok.kept hk, ?_⟩
  · exact name_of_addr x.apart (PySem.mem_of_lookup h1) (PySem.mem_of_lookup h2)
  · have hy : scope.names.lookup y = some .cell ∨ scope.names.lookup y = some .free := hy
    rcases hy with hy | hy
    · exact cell_has hy
    · exact absurd rfl (S.nofree _ (PySem.mem_of_lookup hy))
  · exact Nat.le_of_lt (x.above y c (PySem.mem_of_lookup h))
  · have hi : i < vs.length := by
      unfold start at h2
      by_cases hi : i < vs.length
      · exact hi
      · rw [List.getElem?_append_right (by simpa using hi)] at h2
        rw [List.getElem?_replicate] at h2
        split at h2 <;> cases h2
    have ha : vs[i]? = some v := by
      unfold start at h2
      rw [List.getElem?_append_left (by simpa using hi), List.getElem?_map] at h2
      cases e : vs[i]? with
      | none => rw [e] at h2; cases h2
      | some a => rw [e] at h2; cases h2; rfl
    obtain ⟨u, hu, rv⟩ := r.get ha
    have hp : ps[i]? = some y := by
      rw [← S.pre, List.getElem?_take_of_lt (by omega)]; exact h1
    have ndP : ps.Nodup := by rw [← S.pre]; exact S.nd.sublist (List.take_sublist _ _)
    refine ⟨u, rv, ?_⟩
    rcases S.par y (List.mem_of_getElem? hp) with k | k
    · exact .inl ⟨k, bindL_get ndP hp hu k⟩
    · obtain ⟨c, e⟩ := cell_has (n := s.heap.objs.size + 1) k
      refine .inr ⟨.inl k, c, e, ?_⟩
      have q := x.cell y c e
      rw [bindC_get ndP hp hu (by show scope.names.lookup y ≠ _; rw [k]; decide)] at q
      exact q
  · exact e0.hok.fresh (Nat.le_of_lt (x.above y c (PySem.mem_of_lookup h)))
  · unfold start
    show _ = N.length
    rw [List.length_append, List.length_map, List.length_replicate]
    omega
theorem fn_of {CX : CXT} {P : Program} {w : World} {K : PySem.W.Frag} {mg : Str → Option Value} {base : Heap} {k : Nat} {f : Addr} {name qual : Str} {params : Arguments} {body : List Stmt} {scope : Scope} {dV kV doc pm cdv ct oc : Value} {an od : Option Addr}
    {osl : Array (Option Value)} {N ps : List Str} {sp : Sp} (lk : K.lookup f = some ⟨oc, od, .func (PySem.W.fnOf name qual params body scope dV kV doc pm an cdv ct), osl⟩) (hcd : PySem.W.codeIn K cdv qual = true) (S : FnScope N ps scope)
    (len : ∀ vs H Q E, sp vs H Q E → vs.length = ps.length)
    (hbody : ∀ (A : Around) (outer : List Env) (s : Shared) (H : Hp) (vs : List V) (Q : VK) (E : XK), Room k (A.deeper (envOfC qual scope s.heap.objs.size f cdv)) → sp vs H Q E →
      ∃ t, PSs (cxOf CX P w K mg base N qual scope f cdv A outer s H E) body t ∧ t { nx := fun _ H' => Q .non H', rt := Q } (start N vs) H) :
    FnOk P w K mg base CX (k + 1) f (PySem.W.fnOf name qual params body scope dV kV doc pm an cdv ct) ps sp := by
  refine ⟨len, fun A outer s H args us vs Q E hr e0 hb r hsp => ?_⟩
  have hl := len _ _ _ _ hsp
  have KX : K.In s.heap := e0.mod.kin.keeps fun b o e => (e0.bs b o e).1
  have lim : s.heap.NoLimit := e0.mod.nolimit.keeps fun b o e => (e0.bs b o e).1
  have hkind : ∀ y ∈ ps.zip us, scope.names.lookup y.1 = some .local ∨ (scope.names.lookup y.1 = some .cell ∧ ((cellsFrom (s.heap.objs.size + 1) scope.names []).lookup y.1).isSome = true) := fun ⟨n, v⟩ hy => by
    rcases S.par n (List.of_mem_zip hy).1 with q | q
    · exact .inl q
    · exact .inr ⟨q, PySem.W.cellsFrom_some _ _ _ (.inl q)⟩
  refine codeAny_call_function hr.depth (KX _ _ lk) rfl S.co S.gen rfl (PySem.W.codeRec_of KX hcd) (hb _ _ _ _ ?_)
  refine wpAny_newFunctionEnv_cells S.kind hkind fun env he s1 x => ?_
  subst he
  refine ⟨lim.keeps x.toInCall.keep, codeAny_func ?_⟩
  obtain ⟨t, ht, hq⟩ := hbody A outer s H vs Q E (hr.deeper _) hsp
  have I : Inv (cxOf CX P w K mg base N qual scope f cdv A outer s H E) [] (start N vs) H s1 := inv_start S e0 hl r x
  refine wpAny_mono (ht [] s1 (start N vs) H _ I hq) (fun fl s' hs => ?_) fun e s' hs => hs
  have fin : ∀ {σ' : St} {H' : Hp} {v : V} {u : Value}, Inv (cxOf CX P w K mg base N qual scope f cdv A outer s H E) [] σ' H' s' → RelV v u → Q v H' → CE outer P w H s Q u s' :=
    fun {σ' H' v u} J rv q => ⟨v, H', J.os, J.bare, J.base, J.hok, rv, q⟩
  cases fl with
  | ret u =>
    obtain ⟨v, σ', H', J, rv, q⟩ := hs
    exact fin J rv q
  | next =>
    obtain ⟨σ', H', J, q⟩ := hs
    exact fin (v := V.non) (u := Value.none) J rfl q
  | brk =>
    obtain ⟨_, _, _, q⟩ := hs
    exact False.elim q
  | cont =>
    obtain ⟨_, _, _, q⟩ := hs
    exact False.elim q
end L2
namespace L2
open PySem PySem.Spec PyProof.Rows
section
variable {X : Cx} {x : Str} {p pos : Pos} {e : Expr} {es : List Expr} {t : TA} {id T : String} {r : List V → Hp → VK → Prop}
def tCB (r : List V → Hp → VK → Prop) (t : TA) : TE := fun σ H Q => t σ H fun vs H1 => r vs H1 Q
theorem pe_callB (hc : CallR X (.builtin id) r) (hg : Gl X x) (hm : X.mg x = none) (hv : bootBuiltins x = some (.builtin id)) (ha : PA X (e :: es) t) (hn : x ≠ "__name__" := by decide) (hdb : (x == ("__debug__" : Str)) = false := by decide)
    (he : starEach (e :: es) X.env = (false, eval e X.env) :: starEach es X.env := by rfl) (hpl : (backTo pos (starEach es X.env)).any (·.1) = false := by rfl) : PE X (.Call (.Name x p) (e :: es) [] pos) (tCB r t) := by
  intro pins s σ H Q I h
  refine wpAny_Call_Name_kw (ld_blt I hg hm hv ?_ hn hdb)
  exact PyProof.Rows.callWith_builtin1 (thn (ha pos pins s σ H _ I h) fun us s1 ⟨vs, H1, I1, r1, q1⟩ => hc pins s1 σ H1 vs us Q I1 r1 q1) he hpl
theorem pe_callTy (hc : CallR X (.type T) r) (hg : Gl X x) (hm : X.mg x = none) (hv : bootBuiltins x = some (.type T)) (ha : PA X (e :: es) t) (hn : x ≠ "__name__" := by decide) (hdb : (x == ("__debug__" : Str)) = false := by decide)
    (he : starEach (e :: es) X.env = (false, eval e X.env) :: starEach es X.env := by rfl) (hpl : (backTo pos (starEach es X.env)).any (·.1) = false := by rfl) : PE X (.Call (.Name x p) (e :: es) [] pos) (tCB r t) := by
  intro pins s σ H Q I h
  refine wpAny_Call_Name_kw (ld_blt I hg hm hv ?_ hn hdb)
  exact PyProof.Rows.callWith_type1 (thn (ha pos pins s σ H _ I h) fun us s1 ⟨vs, H1, I1, r1, q1⟩ => hc pins s1 σ H1 vs us Q I1 r1 q1) he hpl
end
end L2
namespace HT
open PySem PyProof.Rows
section
open PySem.SeqAt
open PySem.AutoSeq1 (wpAny_loadPart')
open PySem.MeetsSeq PySem.MeetsSeq2 PySem.MeetsSeq3
end
section
variable {prog : Program} {w : World} {A : Around} {E : Value → Shared → Prop} {s : Shared}
theorem cat_tup {t b : Addr} {vs ws : List Value} {Q : Value → Shared → Prop} (ht : IsTup s.heap t vs.toArray) (hb : IsTup s.heap b ws.toArray) (hv : vs ≠ [])
    (h1 : ws = [] → Q (.ref t) s) (h2 : ws ≠ [] → Q (.ref s.heap.objs.size) { s with heap := s.heap.push { cls := .type "tuple", data := .seq (vs ++ ws).toArray } })
    (hsz : vs.length + ws.length ≤ sizeLine) : wpAny (model prog w) A (binaryOp .Add (.ref t) (.ref b)) Q E s := by
  obtain ⟨⟨cls, dd, data, sl⟩, ho, hc, n, hd⟩ := id ht
  obtain ⟨⟨cls2, dd2, data2, sl2⟩, ho2, hc2, n2, hd2⟩ := id hb
  simp only at hc hd hc2 hd2
  subst hc hd hc2 hd2
  have e : vs.toArray ++ ws.toArray = (vs ++ ws).toArray := by simp
  by_cases hw : ws = []
  · exact concat_meets ⟨_, ho, rfl⟩ ⟨_, ho2, rfl⟩ noFill_tuple_add seq_tuple_add PySem.F.slot_tuple_add PySem.F.entry_tuple_add (PySem.F.args_tuple_add_2 _ _)
      (tuple_addW1 t b vs.toArray ws.toArray n n2 dd dd2 sl sl2 (by simpa using hv) (by simp [hw])) ⟨ho, ho2, h1 hw⟩
  · refine concat_meets ⟨_, ho, rfl⟩ ⟨_, ho2, rfl⟩ noFill_tuple_add seq_tuple_add PySem.F.slot_tuple_add PySem.F.entry_tuple_add (PySem.F.args_tuple_add_2 _ _)
      (tuple_addW2 t b vs.toArray ws.toArray n n2 dd dd2 sl sl2 (by simpa using hv) (by simpa using hw) (by rw [List.size_toArray, List.size_toArray]; exact hsz)) ⟨ho, ho2, ?_⟩
    rw [e]
    exact h2 hw
def sIx (n d : Nat) : Option Int → Nat
  | none => d
  | some v => if v < 0 then (v + (n : Int)).toNat else min v.toNat n
theorem sIx_none (n d : Nat) : sIx n d none = d := rfl
theorem sIx_nat (n d k : Nat) : sIx n d (some (k : Int)) = min k n := by
  show (if (k : Int) < 0 then ((k : Int) + (n : Int)).toNat else min (k : Int).toNat n) = min k n
  rw [if_neg (by omega), Int.toNat_natCast]
theorem sIx_le (n d : Nat) (hd : d ≤ n) (o : Option Int) : sIx n d o ≤ n := by
  cases o with
  | none => exact hd
  | some v =>
    show (if v < 0 then (v + (n : Int)).toNat else min v.toNat n) ≤ n
    by_cases hv : v < 0
    · rw [if_pos hv]; omega
    · rw [if_neg hv]; exact Nat.min_le_right _ _
theorem clip_eq (v : Int) (n d : Nat) : (if v < 0 then max (v + (n : Int)) 0 else min v (n : Int)) = ((sIx n d (some v) : Nat) : Int) := by
  show (if v < 0 then max (v + (n : Int)) 0 else min v (n : Int)) = (((if v < 0 then (v + (n : Int)).toNat else min v.toNat n) : Nat) : Int)
  by_cases hv : v < 0
  · simp only [if_pos hv]; omega
  · simp only [if_neg hv]; omega
theorem adjust_gen (lo hi : Option Int) (n : Nat) : Builtin.Slice.sliceAdjust lo hi 1 (n : Int) = (((sIx n 0 lo : Nat) : Int), ((sIx n n hi : Nat) : Int)) := by
  have h1 : ¬ ((1 : Int) < 0) := by omega
  unfold Builtin.Slice.sliceAdjust
  simp only [h1, if_false]
  refine Prod.ext ?_ ?_
  · cases lo with
    | none => rfl
    | some v => exact clip_eq v n 0
  · cases hi with
    | none => rfl
    | some v => exact clip_eq v n n
theorem places_gen (i j : Nat) : Builtin.Slice.slicePlaces (i : Int) (j : Int) 1 = j - i := by
  unfold Builtin.Slice.slicePlaces
  have h1 : (1 : Int) > 0 := by omega
  simp only [h1, if_true, Int.ediv_one]
  split <;> omega
theorem slicePart_ {v : Value} {o : Option Int} {Q : Option Int → Shared → Prop} (p : IsPart v o) (h : Q o s) : wpAny (model prog w) A (Builtin.Slice.slicePartIndex v) Q E s := by
  cases p with
  | none => exact slicePart_none h
  | int i t => exact slicePart_int h
theorem sliceApplied_gen {sl : Addr} {vl vu : Value} {lo hi : Option Int} {n : Nat} {Q : Int × Int × Nat → Shared → Prop} (hs : s.heap.IsSliceOf sl vl vu .none) (pl : IsPart vl lo) (pu : IsPart vu hi)
    (h : Q (((sIx n 0 lo : Nat) : Int), 1, sIx n n hi - sIx n 0 lo) s) : wpAny (model prog w) A (Builtin.Slice.sliceApplied (.ref sl) (pure (n : Int))) Q E s := by
  obtain ⟨os, hos, hcs, hds⟩ := id hs
  unfold Builtin.Slice.sliceApplied Builtin.Slice.sliceFields
  refine wpAny_bind (wpAny_bind (wpAny_field hos hds (x := vl) rfl (wpAny_bind (wpAny_field hos hds (x := vu) rfl (wpAny_bind (wpAny_field hos hds (x := .none) rfl (wpAny_pure ?_)))))))
  refine wpAny_bind (slicePart_none ?_)
  show wpAny _ _ (if ((1 : Int) == 0) = true then _ else _) _ _ s
  rw [if_neg (by decide)]
  refine wpAny_bind (slicePart_ pl (wpAny_bind (slicePart_ pu (wpAny_bind (wpAny_pure ?_)))))
  show wpAny _ _ (match Builtin.Slice.sliceAdjust lo hi 1 (n : Int) with | (lo, hi) => pure (lo, (1 : Int), Builtin.Slice.slicePlaces lo hi 1)) _ _ s
  rw [adjust_gen lo hi n]
  show wpAny _ _ (pure (((sIx n 0 lo : Nat) : Int), (1 : Int), Builtin.Slice.slicePlaces ((sIx n 0 lo : Nat) : Int) ((sIx n n hi : Nat) : Int) 1)) _ _ s
  rw [places_gen]
  exact wpAny_pure h
theorem pick_gen (xs : Array Value) (i k : Nat) : ((List.range k).filterMap fun (m : Nat) => xs[((i : Int) + (m : Int) * 1).toNat]?).toArray = ((xs.toList.drop i).take k).toArray := by
  have e : (fun (m : Nat) => xs[((i : Int) + (m : Int) * 1).toNat]?) = fun m => xs[i + m]? := by
    funext m
    have : ((i : Int) + (m : Int) * 1).toNat = i + m := by omega
    rw [this]
  rw [e]
  have := pick_run xs i k
  rw [List.filterMap_map] at this
  have e2 : ((fun x => xs[x]?) ∘ fun x => i + x) = fun m => xs[i + m]? := rfl
  rw [e2] at this
  rw [this]
theorem getItem_tuple_cut {t sl : Addr} {items : Array Value} {vl vu : Value} {lo hi : Option Int} {Q : Value → Shared → Prop} (ht : IsTup s.heap t items) (hs : s.heap.IsSliceOf sl vl vu .none) (pl : IsPart vl lo) (pu : IsPart vu hi)
    (hw : ¬ (sIx items.size 0 lo = 0 ∧ sIx items.size items.size hi = items.size))
    (h : Q (.ref s.heap.objs.size) { s with heap := s.heap.push { cls := .type "tuple", data := .seq ((items.toList.drop (sIx items.size 0 lo)).take (sIx items.size items.size hi - sIx items.size 0 lo)).toArray } })
    (hsz : items.size ≤ sizeLine) : wpAny (model prog w) A (getItem (.ref t) (.ref sl)) Q E s := by
  have htake : sizeOk (.seq ((items.toList.drop (sIx items.size 0 lo)).take (sIx items.size items.size hi - sIx items.size 0 lo)).toArray) := by
    show ((items.toList.drop (sIx items.size 0 lo)).take (sIx items.size items.size hi - sIx items.size 0 lo)).toArray.size ≤ sizeLine
    rw [List.size_toArray, List.length_take, List.length_drop, Array.length_toList]
    omega
  have hj : sIx items.size items.size hi ≤ items.size := sIx_le _ _ (Nat.le_refl _) hi
  obtain ⟨os, hos, hcs, hds⟩ := id hs
  have hTs : s.TypeIs (.ref sl) "slice" := ⟨os, hos, hcs⟩
  unfold getItem
  try with_reducible refine wpAny_holding ?_
  first | refine wpAny_bind (wpAny_pure ?_) | skip
  refine wpAny_bind (wpAny_sequenceKey ht.typeIs (by decide) ?_)
  refine wpAny_bind (wpAny_callSpecial?_slot (name := Str.ofString "__getitem__") ht.typeIs PyProof.Rows.slot_tuple_getitem
    (wpAny_call_entry PyProof.Rows.slot_tuple_getitem ht.typeIs entry_tuple_getitem ?_ (args_tuple_getitem _ _)))
  show wpAny _ _ (Builtin.Tuple.tupleItemsOf (.ref t) >>= _) _ _ s
  refine wpAny_bind (tupleItemsOf_ ht ?_)
  refine wpAny_bind (wpAny_typeOf hTs ?_)
  rw [if_pos (by decide)]
  refine wpAny_bind (sliceApplied_gen hs pl pu ?_)
  have hno : ¬ ((((sIx items.size 0 lo : Nat) : Int) == 0 && (1 : Int) == 1 && (sIx items.size items.size hi - sIx items.size 0 lo) == items.size) = true) := by
    intro q
    rw [Bool.and_eq_true, Bool.and_eq_true] at q
    have q1 : ((sIx items.size 0 lo : Nat) : Int) = 0 := eq_of_beq q.1.1
    have q2 : sIx items.size items.size hi - sIx items.size 0 lo = items.size := eq_of_beq q.2
    exact hw ⟨by omega, by omega⟩
  show wpAny _ _ (if (((sIx items.size 0 lo : Nat) : Int) == 0 && (1 : Int) == 1 && (sIx items.size items.size hi - sIx items.size 0 lo) == items.size) = true then _ else _) _ _ s
  rw [if_neg hno, pick_gen]
  first
    | exact wpAny_bind (m := Builtin.Tuple.tupleExact _) (wpAny_newObj_type (wpAny_pure ⟨_, rfl, wpAny_pure h⟩) htake)
    | exact wpAny_bind (m := Builtin.Tuple.tupleExact _) (wpAny_newObj_type (wpAny_bind (wpAny_pure (wpAny_pure ⟨_, rfl, wpAny_pure h⟩))) htake)
    | exact wpAny_bind (wpAny_bind (m := Builtin.Tuple.tupleExact _) (wpAny_newObj_type (wpAny_pure (wpAny_pure ⟨_, rfl, wpAny_pure h⟩)) htake))
    | exact wpAny_bind (wpAny_bind (m := Builtin.Tuple.tupleExact _) (wpAny_newObj_type (wpAny_pure ⟨_, rfl, wpAny_pure h⟩) htake))
end
end HT
namespace L2
open PySem PySem.Spec PyProof.Rows
abbrev TO := St → Hp → (Option Int → Hp → Prop) → Prop
def PO (X : Cx) (e : Option Expr) (t : TO) : Prop :=
  ∀ (pins : List (Addr × Obj)) (s : Shared) (σ : St) (H : Hp) (Q : Option Int → Hp → Prop), Inv X pins σ H s → t σ H Q →
    wpAny (model X.prog X.w) X.A (evalPart e X.env) (fun u s' => ∃ o H', Inv X pins σ H' s' ∧ IsPart u o ∧ Q o H') X.xe s
def tNoPart : TO := fun _ H Q => Q none H
def tPart (t : TE) : TO := fun σ H Q => t σ H fun x H1 => ∃ i, x = .int i ∧ Q (some i) H1
section
variable {X : Cx} {e : Expr} {te : TE} {lo hi : Option Expr} {tl th : TO} {pos p2 : Pos}
theorem po_none : PO X none tNoPart := by
  intro pins s σ H Q I h
  rw [evalPart_none]
  exact wpAny_pure ⟨none, H, I, .none, h⟩
theorem po_some (h : PE X e te) : PO X (some e) (tPart te) := by
  intro pins s σ H Q I hw
  rw [evalPart_some]
  refine thn (h pins s σ H _ I hw) fun u s1 ⟨x, H1, I1, r1, q1⟩ => ?_
  obtain ⟨i, rfl, q⟩ := q1
  obtain ⟨t, rfl⟩ := r1
  exact ⟨some i, H1, I1, .int i t, q⟩
def SlR (X : Cx) (r : V → Option Int → Option Int → Hp → VK → Prop) : Prop :=
  ∀ (pins : List (Addr × Obj)) (s : Shared) (σ : St) (H : Hp) (x : V) (v vl vu : Value) (lo hi : Option Int) (sl : Addr) (Q : VK), Inv X pins σ H s → RelV x v → s.heap.IsSliceOf sl vl vu .none → IsPart vl lo → IsPart vu hi → r x lo hi H Q →
    ∃ T id, typeLookup (.type T) "__getitem__" = pure (some (.builtin id)) ∧ s.TypeIs v T ∧ wpAny (model X.prog X.w) X.A (getItem v (.ref sl)) (EP X pins σ Q) X.xe s
def tSl (r : V → Option Int → Option Int → Hp → VK → Prop) (te : TE) (tl th : TO) : TE := fun σ H Q => te σ H fun x H1 => tl σ H1 fun l H2 => th σ H2 fun u H3 => r x l u H3 Q
theorem pe_slice {r : V → Option Int → Option Int → Hp → VK → Prop} (hr : SlR X r) (he : PE X e te) (hl : PO X lo tl) (hu : PO X hi th) : PE X (.Subscript e (.Slice lo hi none p2) pos) (tSl r te tl th) := by
  intro pins s σ H Q I h
  refine Subscript_ (thn (he pins s σ H _ I h) fun v s1 ⟨x, H1, I1, r1, q1⟩ => ?_)
  refine wpAny_Slice (thn (hl pins s1 σ H1 _ I1 q1) fun vl s2 ⟨l, H2, I2, pl, q2⟩ => thn (hu pins s2 σ H2 _ I2 q2) fun vu s3 ⟨u, H3, I3, pu, q3⟩ => ?_)
  rw [evalPart_none]
  refine wpAny_pure ?_
  have I4 : Inv X pins σ H3 { s3 with heap := s3.heap.push { cls := .type "slice", data := .fields #[vl, vu, .none] } } := I3.kept (t' := s3.toks) fun b ob q => Heap.get?_push_of_some _ q
  obtain ⟨T, id, hT, ht, hg⟩ := hr pins { s3 with heap := s3.heap.push { cls := .type "slice", data := .fields #[vl, vu, .none] } } σ H3 x v vl vu l u s3.heap.objs.size Q I4 r1 (Heap.IsSliceOf.new ..) pl pu q3
  show wpAny (model X.prog X.w) X.A (subscriptTail e (.Slice lo hi none p2) v (.ref s3.heap.objs.size)) (EP X pins σ Q) X.xe { s3 with heap := s3.heap.push { cls := .type "slice", data := .fields #[vl, vu, .none] } }
  exact tail_any (ops := [.ref s3.heap.objs.size, v]) ht hT hg (by with_unfolding_all rfl)
def cutV (xs : List V) (lo hi : Option Int) : List V := (xs.drop (HT.sIx xs.length 0 lo)).take (HT.sIx xs.length xs.length hi - HT.sIx xs.length 0 lo)
theorem cutV_length (xs : List V) (lo hi : Option Int) : (cutV xs lo hi).length ≤ xs.length := by
  unfold cutV
  rw [List.length_take, List.length_drop]
  omega
def rSlT (K : PySem.W.Frag) : V → Option Int → Option Int → Hp → VK → Prop := fun x lo hi H Q => ∃ a xs, x = .ref a ∧ SqT K H a xs ∧
  ¬ (HT.sIx xs.length 0 lo = 0 ∧ HT.sIx xs.length xs.length hi = xs.length) ∧ ∀ p, H p = none → Q (.ref p) (upd H p (.tup (cutV xs lo hi)))
theorem sl_tup : SlR X (rSlT X.K) := by
  intro pins s σ H x v vl vu lo hi sl Q I rx hs pl pu h
  obtain ⟨a, xs, rfl, hx, hw, q⟩ := h
  cases rx
  obtain ⟨its, r, ht, hz⟩ := I.tuple hx
  have hlen : its.toArray.size = xs.length := by rw [List.size_toArray]; exact r.length.symm
  refine ⟨"tuple", _, PyProof.Rows.slot_tuple_getitem.lookup, ht.typeIs, ?_⟩
  refine HT.getItem_tuple_cut ht hs pl pu (by rw [hlen]; exact hw) ?_ (by rw [hlen]; exact hz)
  rw [hlen]
  refine ⟨.ref s.heap.objs.size, _, I.laid (t' := s.toks) (o := .tup (cutV xs lo hi)) (fun b ob q => Heap.get?_push_of_some _ q) (Nat.le_refl _) ?_, rfl, q _ (I.hok.fresh (Nat.le_refl _))⟩
  exact ⟨Nat.le_trans (cutV_length xs lo hi) hz, _, (r.drop (HT.sIx xs.length 0 lo)).take (HT.sIx xs.length xs.length hi - HT.sIx xs.length 0 lo), IsTup.new _ _⟩
def rCatT (K : PySem.W.Frag) : R2 := fun x y H Q => ∃ a b xs ys, x = .ref a ∧ y = .ref b ∧ SqT K H a xs ∧ SqT K H b ys ∧ xs ≠ [] ∧ xs.length + ys.length ≤ sizeLine ∧
  (ys = [] → Q (.ref a) H) ∧ (ys ≠ [] → ∀ p, H p = none → Q (.ref p) (upd H p (.tup (xs ++ ys))))
theorem Vals.nil_iff {xs : List V} {us : List Value} (r : Vals xs us) : us = [] ↔ xs = [] := by
  cases r with
  | nil => simp
  | cons _ _ => simp
theorem op_catT : OpR X (binaryOp .Add) (rCatT X.K) := by
  intro pins s σ H x y v u Q I rx ry h
  obtain ⟨a, b, xs, ys, rfl, rfl, ha, hb, hx, hz, q1, q2⟩ := h
  cases rx
  cases ry
  obtain ⟨its, r1, p1, _⟩ := I.tuple ha
  obtain ⟨its2, r2, p2, _⟩ := I.tuple hb
  refine HT.cat_tup p1 p2 (fun z => hx (r1.nil_iff.mp z)) (fun z => ⟨.ref a, H, I, rfl, q1 (r2.nil_iff.mp z)⟩) (fun z => ?_) (by rw [← r1.length, ← r2.length]; exact hz)
  refine ⟨.ref s.heap.objs.size, _, I.laid (t' := s.toks) (o := .tup (xs ++ ys)) (fun b ob q => Heap.get?_push_of_some _ q) (Nat.le_refl _) ?_, rfl, q2 (fun w => z (r2.nil_iff.mpr w)) _ (I.hok.fresh (Nat.le_refl _))⟩
  exact ⟨by rw [List.length_append]; exact hz, _, r1.append r2, IsTup.new _ _⟩
end
end L2
namespace L2
open PySem PySem.Spec PyProof.Rows
def ixN (n : Nat) (i : Int) : Option Nat := if 0 ≤ i then (if i < n then some i.toNat else none) else if -(n : Int) ≤ i then some (i + n).toNat else none
def atI {α : Type} (xs : List α) (i : Int) : Option α := (ixN xs.length i).bind fun j => xs[j]?
theorem ixN_seq {n : Nat} {i : Int} {j : Nat} (h : ixN n i = some j) : seqIndex? i n = some j ∧ j < n ∧ -(n : Int) ≤ i ∧ i < n := by
  unfold ixN at h
  by_cases h0 : 0 ≤ i
  · rw [if_pos h0] at h
    by_cases h1 : i < n
    · rw [if_pos h1] at h
      have e : i.toNat = j := Option.some.inj h
      exact ⟨by rw [seqIndex_of h0 h1, e], by omega, by omega, h1⟩
    · rw [if_neg h1] at h; cases h
  · rw [if_neg h0] at h
    by_cases h1 : -(n : Int) ≤ i
    · rw [if_pos h1] at h
      have e : (i + n).toNat = j := Option.some.inj h
      exact ⟨by rw [seqIndex_neg (by omega) h1, e], by omega, h1, by omega⟩
    · rw [if_neg h1] at h; cases h
theorem atI_get {α : Type} {xs : List α} {i : Int} {v : α} (h : atI xs i = some v) : ∃ j, seqIndex? i xs.length = some j ∧ xs[j]? = some v ∧ j < xs.length ∧ -(xs.length : Int) ≤ i ∧ i < xs.length := by
  unfold atI at h
  cases e : ixN xs.length i with
  | none => rw [e] at h; cases h
  | some j =>
    rw [e] at h
    obtain ⟨h1, h2, h3, h4⟩ := ixN_seq e
    exact ⟨j, h1, h, h2, h3, h4⟩
theorem atI_nat {α : Type} {xs : List α} {j : Nat} {v : α} (h : xs[j]? = some v) : atI xs (j : Int) = some v := by
  have hj : j < xs.length := (List.getElem?_eq_some_iff.mp h).1
  have e : ixN xs.length (j : Int) = some j := by
    unfold ixN
    rw [if_pos (by omega), if_pos (by omega)]; simp
  unfold atI; rw [e]; exact h
def PlainIx (b : Expr) : Prop := ∀ o i, subscripted b false o i = operate [o, i] (getItem o i)
def IxR (X : Cx) (r : R2) : Prop :=
  ∀ (value slice : Expr) (pins : List (Addr × Obj)) (s : Shared) (σ : St) (H : Hp) (x y : V) (v u : Value) (Q : VK), Inv X pins σ H s → RelV x v → RelV y u → r x y H Q →
    subscripted slice false v u = operate [v, u] (getItem v u) → wpAny (model X.prog X.w) X.A (subscriptTail value slice v u) (EP X pins σ Q) X.xe s
def MtR (X : Cx) (id : String) (r : V → List V → Hp → VK → Prop) : Prop :=
  ∀ (pins : List (Addr × Obj)) (s : Shared) (σ : St) (H : Hp) (x : V) (xs : List V) (v : Value) (us : List Value) (Q : VK), Inv X pins σ H s → RelV x v → Vals xs us → r x xs H Q →
    wpAny (model X.prog X.w) X.A (call (.builtin id) (v :: us)) (EP X pins σ Q) X.xe s
section
variable {X : Cx} {a b : Expr} {ta tb : TE} {pos : Pos}
theorem pe_ix {r : R2} (hr : IxR X r) (ha : PE X a ta) (hb : PE X b tb) (hs : PlainIx b) : PE X (.Subscript a b pos) (tOp r ta tb) := by
  intro pins s σ H Q I h
  exact Subscript_ (binT ha hb I h fun v u s2 x y H2 I2 rx ry q => hr a b pins s2 σ H2 x y v u Q I2 rx ry q (hs _ _))
def rIxL (K : PySem.W.Frag) : R2 := fun x y H Q => ∃ p xs i v, x = .ref p ∧ y = .int i ∧ SqL K H p xs ∧ atI xs i = some v ∧ Q v H
def rIxT (K : PySem.W.Frag) : R2 := fun x y H Q => ∃ p xs i v, x = .ref p ∧ y = .int i ∧ SqT K H p xs ∧ atI xs i = some v ∧ Q v H
def rIxS : R2 := fun x y H Q => ∃ z i c, x = .str z ∧ y = .int i ∧ z.length ≤ sizeLine ∧ atI z.cps.toList i = some c ∧ Q (.str ⟨#[c]⟩) H
theorem ix_list : IxR X (rIxL X.K) := by
  intro value slice pins s σ H x y v u Q I rx ry h hs
  obtain ⟨p, xs, i, z, rfl, rfl, hq, he, q⟩ := h
  cases rx
  obtain ⟨t, rfl⟩ := ry
  obtain ⟨its, r, pl, hz⟩ := I.list hq
  obtain ⟨j, h1, h2, h3, h4, h5⟩ := atI_get he
  obtain ⟨w, ew, rw'⟩ := r.get h2
  have hl := r.length
  have hn := line63
  have fin : EP X pins σ Q w s := ⟨z, H, I, rw', q⟩
  by_cases h0 : 0 ≤ i
  · have hj : i.toNat = j := by
      rw [seqIndex_of h0 h5] at h1
      exact Option.some.inj h1
    exact item_listR pl.isList h0 (by omega) (by rw [hj]; simpa using ew) fin hs
  · have hj : (i + (its.toArray.size : Int)).toNat = j := by
      rw [seqIndex_neg (by omega) h4] at h1
      rw [List.size_toArray, ← hl]
      exact Option.some.inj h1
    exact subscriptTail_builtinR (x := w) pl.isList.typeIs slot_list_getitem.lookup
      (wpAny_getItem_list_neg (Q := fun r s' => r = w ∧ EP X pins σ Q r s') pl.isList (by omega) (by rw [List.size_toArray] <;> omega) (by omega) (by rw [hj]; simpa using ew) ⟨rfl, fin⟩) hs
theorem ix_tup : IxR X (rIxT X.K) := by
  intro value slice pins s σ H x y v u Q I rx ry h hs
  obtain ⟨p, xs, i, z, rfl, rfl, hq, he, q⟩ := h
  cases rx
  obtain ⟨t, rfl⟩ := ry
  obtain ⟨its, r, pl, hz⟩ := I.tuple hq
  obtain ⟨j, h1, h2, h3, h4, h5⟩ := atI_get he
  obtain ⟨w, ew, rw'⟩ := r.get h2
  have hl := r.length
  have hn := line63
  have fin : EP X pins σ Q w s := ⟨z, H, I, rw', q⟩
  exact subscriptTail_builtinR (x := w) pl.typeIs slot_tuple_getitem.lookup
    (getItem_tuple (j := j) (Q := fun r s' => r = w ∧ EP X pins σ Q r s') pl (by omega) (by omega) (by rw [List.size_toArray, ← hl]; exact h1) (by simpa using ew) ⟨rfl, fin⟩) hs
theorem ix_str : IxR X rIxS := by
  intro value slice pins s σ H x y v u Q I rx ry h hs
  obtain ⟨z, i, c, rfl, rfl, hz, he, q⟩ := h
  obtain ⟨t, rfl⟩ := rx
  obtain ⟨t', rfl⟩ := ry
  obtain ⟨j, h1, h2, h3, h4, h5⟩ := atI_get he
  have hl : z.cps.toList.length = z.length := by simp [Str.length]
  rw [hl] at h1 h4 h5
  have hn := line63
  exact tail_any (typeIs_str s z t) slot_str_getitem.lookup (getItem_str (c := c) (by
    have e1 : decide (i < -(2 ^ 63 : Int)) = false := decide_eq_false (by omega)
    have e2 : decide (i ≥ 2 ^ 63) = false := decide_eq_false (by omega)
    rw [e1, e2, Bool.or_false]) (by rw [h1]; simpa using h2) ⟨.str ⟨#[c]⟩, H, I.tok _, ⟨_, rfl⟩, q⟩) hs
theorem mapSeq_set (its : List Value) (n j : Nat) (u : Value) : Obj.mapSeq (·.setIfInBounds j u) { cls := .type "list", data := .seq its.toArray n } = { cls := .type "list", data := .seq (its.set j u).toArray n } := by
  simp [Obj.mapSeq]
theorem Inv.lst {pins : List (Addr × Obj)} {σ : St} {H : Hp} {s : Shared} {p : Addr} {xs : List V} (I : Inv X pins σ H s) (h : H p = some (.lst xs)) :
    ∃ (its : List Value) (n : Nat), Vals xs its ∧ s.heap.get? p = some { cls := .type "list", data := .seq its.toArray n } ∧ xs.length ≤ sizeLine := by
  obtain ⟨z, its, n, r, e⟩ := I.hok p _ h
  exact ⟨its, n, r, e, z⟩
theorem Inv.lstUpd {pins : List (Addr × Obj)} {σ : St} {H : Hp} {s : Shared} {p : Addr} {xs ys : List V} {its its' : List Value} {n n' : Nat} {f : Obj → Obj} (I : Inv X pins σ H s) (h : H p = some (.lst xs))
    (ho : s.heap.get? p = some { cls := .type "list", data := .seq its.toArray n }) (hf : f { cls := .type "list", data := .seq its.toArray n } = { cls := .type "list", data := .seq its'.toArray n' }) (r : Vals ys its') (hz : ys.length ≤ sizeLine) (t : Nat) :
    Inv X pins σ (upd H p (.lst ys)) { s with heap := s.heap.update p f, toks := t } := by
  have e : (s.heap.update p f).get? p = some { cls := .type "list", data := .seq its'.toArray n' } := by
    rw [Heap.get?_update_self f ho (by rw [hf] <;> rfl), hf]
  refine I.write (x := p) (e := p) (by rw [h]; trivial) (.inl rfl) (fun b u hb q => (Heap.get?_update_other _ _ (Ne.symm hb)).trans q) ⟨_, e⟩ ?_
  exact ⟨hz, its', n', r, e⟩
def rSetL : V → V → V → Hp → (Hp → Prop) → Prop := fun o i v H Q => ∃ p xs k j, o = .ref p ∧ i = .int k ∧ H p = some (.lst xs) ∧ ixN xs.length k = some j ∧ Q (upd H p (.lst (xs.set j v)))
theorem set_list : PSet X rSetL := by
  intro pins s σ H o i v ov iv u Q I ro ri rv h
  obtain ⟨p, xs, k, j, rfl, rfl, hp, hj, q⟩ := h
  cases ro
  obtain ⟨t, rfl⟩ := ri
  obtain ⟨its, n, r, ho, hz⟩ := I.lst hp
  obtain ⟨h1, h2, h3, h4⟩ := ixN_seq hj
  have hl := r.length
  have hn := line63
  have I' : Inv X pins σ (upd H p (.lst (xs.set j v))) { s with heap := s.heap.update p (Obj.mapSeq (·.setIfInBounds j u)) } :=
    I.lstUpd hp ho (mapSeq_set its n j u) (r.set rv j) (by rw [List.length_set]; exact hz) s.toks
  by_cases h0 : 0 ≤ k
  · have hk : k.toNat = j := by
      rw [seqIndex_of h0 h4] at h1
      exact Option.some.inj h1
    exact PySem.W.ki_setAt ho h0 (by omega) (by rw [List.size_toArray, ← hl]; exact h4) (by rw [hk]; exact ⟨_, I', q⟩)
  · have hk : (k + (its.toArray.size : Int)).toNat = j := by
      rw [seqIndex_neg (by omega) h3] at h1
      rw [List.size_toArray, ← hl]
      exact Option.some.inj h1
    exact PySem.W.ki_setBack ho (by omega) (by rw [List.size_toArray, ← hl]; exact h3) (by omega) (by rw [hk]; exact ⟨_, I', q⟩)
theorem slice_bounds (lo hi : Option Int) (n : Nat) : (sliceBounds lo hi none n).1 = ((HT.sIx n 0 lo : Nat) : Int) ∧ (sliceBounds lo hi none n).2.1 = ((HT.sIx n n hi : Nat) : Int) ∧ (sliceBounds lo hi none n).2.2 = 1 := by
  refine ⟨?_, ?_, rfl⟩
  · cases lo with
    | none => simp [sliceBounds, HT.sIx]
    | some i =>
      simp only [sliceBounds, HT.sIx, Option.getD_none, show (1 : Int) > 0 by decide, if_true]
      by_cases h : i < 0
      · simp only [h, if_true] <;> omega
      · simp only [h, if_false] <;> omega
  · cases hi with
    | none => simp [sliceBounds, HT.sIx]
    | some i =>
      simp only [sliceBounds, HT.sIx, Option.getD_none, show (1 : Int) > 0 by decide, if_true]
      by_cases h : i < 0
      · simp only [h, if_true] <;> omega
      · simp only [h, if_false] <;> omega
theorem slicePick_cut (its : List Value) (lo hi : Option Int) : slicePick its.toArray lo hi none = ((its.drop (HT.sIx its.length 0 lo)).take (HT.sIx its.length its.length hi - HT.sIx its.length 0 lo)).toArray := by
  obtain ⟨h1, h2, h3⟩ := slice_bounds lo hi its.toArray.size
  unfold slicePick
  rw [h1, h2, h3]
  simp only [sliceRange_one, pick_run, List.size_toArray] <;> rfl
def rSlL (K : PySem.W.Frag) : V → Option Int → Option Int → Hp → VK → Prop := fun x lo hi H Q => ∃ a xs, x = .ref a ∧ SqL K H a xs ∧ ∀ p, H p = none → Q (.ref p) (upd H p (.lst (cutV xs lo hi)))
theorem sl_list : SlR X (rSlL X.K) := by
  intro pins s σ H x v vl vu lo hi sl Q I rx hs pl pu h
  obtain ⟨a, xs, rfl, hx, q⟩ := h
  cases rx
  obtain ⟨its, r, ht, hz⟩ := I.list hx
  have hlen := r.length
  refine ⟨"list", _, slot_list_getitem.lookup, ht.isList.typeIs, ?_⟩
  refine wpAny_getItem_list_slice ht.isList hs pl pu .none (by simp) ?_ (by rw [List.size_toArray] <;> omega)
  rw [slicePick_cut, ← hlen]
  refine ⟨.ref s.heap.objs.size, _, I.laid (t' := s.toks) (o := .lst (cutV xs lo hi)) (fun b ob q => Heap.get?_push_of_some _ q) (Nat.le_refl _) ?_, rfl, q _ (I.hok.fresh (Nat.le_refl _))⟩
  exact ⟨Nat.le_trans (cutV_length xs lo hi) hz, _, 0, (r.drop (HT.sIx xs.length 0 lo)).take (HT.sIx xs.length xs.length hi - HT.sIx xs.length 0 lo), Heap.get?_push_size _ rfl⟩
def flatV : V → Bool
  | .non => true
  | .bl _ => true
  | .int _ => true
  | .str _ => true
  | _ => false
def eqV : V → V → Bool
  | .non, .non => true
  | .bl a, .bl b => a == b
  | .bl a, .int b => (if a then 1 else 0) == b
  | .int a, .bl b => a == (if b then 1 else 0)
  | .int a, .int b => a == b
  | .str a, .str b => a == b
  | _, _ => false
theorem eqAt_V {A : Around} {s : Shared} {y x : V} {u v : Value} (ry : RelV y u) (rx : RelV x v) (fy : flatV y = true) (fx : flatV x = true) : SeqAt.EqAt A s u v (eqV y x) := by
  cases y with
  | non =>
    cases ry
    cases x with
    | non => cases rx; exact SeqAt.EqAt.same _
    | bl b => cases rx; exact SeqAt.EqAt.none_bool b
    | int b => obtain ⟨t, rfl⟩ := rx; exact SeqAt.EqAt.none_int b t
    | str b => obtain ⟨t, rfl⟩ := rx; exact SeqAt.EqAt.none_str b t
    | _ => exact absurd (show false = true from fx) Bool.false_ne_true
  | bl a =>
    cases ry
    cases x with
    | non => cases rx; exact SeqAt.EqAt.bool_none a
    | bl b => cases rx; exact SeqAt.EqAt.bool_bool a b
    | int b => obtain ⟨t, rfl⟩ := rx; exact SeqAt.EqAt.bool_int a b t
    | str b => obtain ⟨t, rfl⟩ := rx; exact SeqAt.EqAt.bool_str a b t
    | _ => exact absurd (show false = true from fx) Bool.false_ne_true
  | int a =>
    obtain ⟨t', rfl⟩ := ry
    cases x with
    | non => cases rx; exact SeqAt.EqAt.int_none a t'
    | bl b => cases rx; exact SeqAt.EqAt.int_bool a t' b
    | int b => obtain ⟨t, rfl⟩ := rx; exact SeqAt.EqAt.int_int a t' b t
    | str b => obtain ⟨t, rfl⟩ := rx; exact SeqAt.EqAt.int_str a t' b t
    | _ => exact absurd (show false = true from fx) Bool.false_ne_true
  | str a =>
    obtain ⟨t', rfl⟩ := ry
    cases x with
    | non => cases rx; exact SeqAt.EqAt.str_none a t'
    | bl b => cases rx; exact SeqAt.EqAt.str_bool a t' b
    | int b => obtain ⟨t, rfl⟩ := rx; exact SeqAt.EqAt.str_int a t' b t
    | str b => obtain ⟨t, rfl⟩ := rx; exact SeqAt.EqAt.str_str a t' b t
    | _ => exact absurd (show false = true from fx) Bool.false_ne_true
  | _ => exact absurd (show false = true from fy) Bool.false_ne_true
def eqU (x : V) (u : Value) : Bool := match u with
  | .none => eqV .non x
  | .bool b => eqV (.bl b) x
  | .int i _ => eqV (.int i) x
  | .str z _ => eqV (.str z) x
  | _ => false
theorem eqU_of {x y : V} {u : Value} (r : RelV y u) (f : flatV y = true) : eqU x u = eqV y x := by
  cases y with
  | non => cases r; rfl
  | bl b => cases r; rfl
  | int i => obtain ⟨t, rfl⟩ := r; rfl
  | str z => obtain ⟨t, rfl⟩ := r; rfl
  | _ => exact absurd (show false = true from f) Bool.false_ne_true
theorem any_eqU {x : V} : ∀ {xs : List V} {us : List Value}, Vals xs us → xs.all flatV = true → us.any (eqU x) = xs.any fun y => eqV y x
  | _, _, .nil, _ => rfl
  | y :: xs, u :: us, .cons r t, f => by
    rw [List.all_cons, Bool.and_eq_true] at f
    rw [List.any_cons, List.any_cons, eqU_of r f.1, any_eqU t f.2]
theorem mem_eqAt {A : Around} {s : Shared} {x : V} {v : Value} (rx : RelV x v) (fx : flatV x = true) : ∀ {xs : List V} {us : List Value}, Vals xs us → xs.all flatV = true → ∀ u ∈ us, SeqAt.EqAt A s u v (eqU x u)
  | _, _, .nil, _ => fun u hu => by cases hu
  | y :: xs, u :: us, .cons r t, f => fun u' hu => by
    rw [List.all_cons, Bool.and_eq_true] at f
    rcases List.mem_cons.mp hu with rfl | hu
    · rw [eqU_of r f.1]; exact eqAt_V r rx f.1 fx
    · exact mem_eqAt rx fx t f.2 u' hu
def inV (x : V) (xs : List V) : Bool := xs.any fun y => eqV y x
def rIn (K : PySem.W.Frag) (neg : Bool) : R2 := fun x y H Q => ∃ p xs, y = .ref p ∧ (SqL K H p xs ∨ SqT K H p xs) ∧ flatV x = true ∧ xs.all flatV = true ∧ Q (.bl (if neg then !inV x xs else inV x xs)) H
theorem op_in_seq : OpR X (compareOp .In) (rIn X.K false) := by
  intro pins s σ H x y v u Q I rx ry h
  obtain ⟨p, xs, rfl, hq, fx, fs, q⟩ := h
  cases ry
  rcases hq with hq | hq
  · obtain ⟨its, r, pl, hz⟩ := I.list hq
    refine SeqAt.in_listAt (eqU x) pl.isList (fun w hw => mem_eqAt rx fx r fs w (by simpa using hw)) ⟨.bl _, H, I, rfl, ?_⟩
    rw [show its.toArray.any (eqU x) = its.any (eqU x) by simp, any_eqU r fs]
    exact q
  · obtain ⟨its, r, pl, hz⟩ := I.tuple hq
    refine SeqAt.in_tupleAt (eqU x) pl (fun w hw => mem_eqAt rx fx r fs w (by simpa using hw)) ⟨.bl _, H, I, rfl, ?_⟩
    rw [show its.toArray.any (eqU x) = its.any (eqU x) by simp, any_eqU r fs]
    exact q
theorem call_len_seq : CallR X (.builtin "len") (fun xs H Q => ∃ p ys, xs = [.ref p] ∧ (SqL X.K H p ys ∨ SqT X.K H p ys) ∧ Q (.int ys.length) H) := by
  intro pins s σ H xs us Q I r h
  obtain ⟨p, ys, rfl, hq, q⟩ := h
  obtain ⟨u, rfl, rx⟩ := vals1 r
  cases rx
  have hn := line63
  rcases hq with hq | hq
  · obtain ⟨its, r', pl, hz⟩ := I.list hq
    have hlen := r'.length
    exact Calls.call_len_list pl.isList (by simp only [List.size_toArray] <;> omega) ⟨.int ys.length, H, I.tok _, ⟨s.toks + 1, by rw [List.size_toArray, hlen]⟩, q⟩
  · obtain ⟨its, r', pl, hz⟩ := I.tuple hq
    have hlen := r'.length
    exact len_tuple pl (by simp only [List.size_toArray] <;> omega) ⟨.int ys.length, H, I.tok _, ⟨s.toks + 1, by rw [List.size_toArray, hlen]⟩, q⟩
theorem call_len_str : CallR X (.builtin "len") (fun xs H Q => ∃ z, xs = [.str z] ∧ z.length ≤ sizeLine ∧ Q (.int z.length) H) := by
  intro pins s σ H xs us Q I r h
  obtain ⟨z, rfl, hz, q⟩ := h
  obtain ⟨u, rfl, t, rfl⟩ := vals1 r
  have hn := line63
  exact len_str (by omega) ⟨.int z.length, H, I.tok _, ⟨_, rfl⟩, q⟩
theorem call_list_of : CallR X (.type "list") (fun xs H Q => ∃ p ys, xs = [.ref p] ∧ (SqL X.K H p ys ∨ SqT X.K H p ys) ∧ ∀ l, H l = none → Q (.ref l) (upd H l (.lst ys))) := by
  intro pins s σ H xs us Q I r h
  obtain ⟨p, ys, rfl, hq, q⟩ := h
  obtain ⟨u, rfl, rx⟩ := vals1 r
  cases rx
  have fin : ∀ (its : List Value), Vals ys its → ys.length ≤ sizeLine → ∀ (h' : Heap) (c' : Nat), (∀ b o', s.heap.get? b = some o' → h'.get? b = some o') →
      h'.get? s.heap.objs.size = some { cls := .type "list", dict := none, data := .seq its.toArray c', slots := #[] } → EP X pins σ Q (.ref s.heap.objs.size) { s with heap := h' } := fun its r' hz h' c' kp e =>
    ⟨.ref s.heap.objs.size, _, I.laid (t' := s.toks) kp (Nat.le_refl _) (show ObjOk X.prog X.w _ h' _ (.lst ys) from ⟨hz, its, c', r', e⟩), rfl, q _ (I.hok.fresh (Nat.le_refl _))⟩
  rcases hq with hq | hq
  · obtain ⟨its, r', pl, hz⟩ := I.list hq
    have hlen := r'.length
    obtain ⟨o, ho, hc, n, hd⟩ := pl.isList
    exact call_list_seq p (.inl rfl) ho hc hd (fun h' c' kp e => fin its r' hz h' c' kp e) (by simp only [List.size_toArray] <;> omega)
  · obtain ⟨its, r', pl, hz⟩ := I.tuple hq
    have hlen := r'.length
    obtain ⟨o, ho, hc, n, hd⟩ := pl
    exact call_list_seq p (.inr rfl) ho hc hd (fun h' c' kp e => fin its r' hz h' c' kp e) (by simp only [List.size_toArray] <;> omega)
def tyV (K : PySem.W.Frag) (T : String) (x : V) (H : Hp) : Prop := match x with
  | .str _ => T = "str"
  | .int _ => T = "int"
  | .ref p => (T = "list" ∧ ∃ xs, SqL K H p xs) ∨ (T = "tuple" ∧ ∃ o, K.lookup p = some o ∧ o.cls = .type "tuple" ∧ o.dict = none) ∨
      (T = "dict" ∧ ((∃ kvs, H p = some (.dK kvs)) ∨ ∃ kvs, H p = some (.dT kvs))) ∨ (T = "set" ∧ ∃ S n, H p = some (.set S n))
  | _ => False
theorem tyV_is {pins : List (Addr × Obj)} {σ : St} {H : Hp} {s : Shared} {T : String} {x : V} {v : Value} (I : Inv X pins σ H s) (r : RelV x v) (ty : tyV X.K T x H) :
    s.TypeIs v T ∧ ∀ a, v = .ref a → ∃ ob, s.heap.get? a = some ob ∧ ob.dict = none := by
  cases x with
  | str z =>
    obtain ⟨t, rfl⟩ := r
    cases (show T = "str" from ty)
    exact ⟨typeIs_str s z t, fun _ e => nomatch e⟩
  | int i =>
    obtain ⟨t, rfl⟩ := r
    cases (show T = "int" from ty)
    exact ⟨typeIs_int s i t, fun _ e => nomatch e⟩
  | ref p =>
    cases r
    rcases ty with ⟨rfl, xs, hq⟩ | ⟨rfl, o, hk, hc, hd⟩ | ⟨rfl, hk⟩ | ⟨rfl, S, n, hk⟩
    · obtain ⟨its, _, pl, _⟩ := I.list hq
      refine ⟨pl.isList.typeIs, fun a e => ?_⟩
      cases e
      obtain ⟨o, n, e, c, hd, _⟩ := pl
      exact ⟨o, e, hd⟩
    · refine ⟨⟨o, I.kIn p o hk, hc⟩, fun a e => ?_⟩
      cases e
      exact ⟨o, I.kIn _ o hk, hd⟩
    · have z : ∃ o, s.heap.get? p = some o ∧ o.ExactDict := by
        rcases hk with ⟨kvs, hk⟩ | ⟨kvs, hk⟩
        · obtain ⟨_, _, _, _, o, _, _, e, ex, _⟩ := I.hok p _ hk
          exact ⟨o, e, ex⟩
        · obtain ⟨_, _, _, _, o, _, _, e, ex, _⟩ := I.hok p _ hk
          exact ⟨o, e, ex⟩
      obtain ⟨o, e, ex⟩ := z
      refine ⟨⟨o, e, ex.1⟩, fun a e2 => ?_⟩
      cases e2
      exact ⟨o, e, ex.2.1⟩
    · obtain ⟨o, _, _, _, e, ex, _⟩ := I.hok p _ hk
      refine ⟨⟨o, e, ex.1⟩, fun a e2 => ?_⟩
      cases e2
      exact ⟨o, e, ex.2.1⟩
  | _ => exact False.elim ty
def tBM0 (K : PySem.W.Frag) (T : String) (r : V → List V → Hp → VK → Prop) (to : TE) : TE := fun σ H Q => to σ H fun x H1 => tyV K T x H1 ∧ r x [] H1 Q
def tBM (K : PySem.W.Frag) (T : String) (r : V → List V → Hp → VK → Prop) (to : TE) (t : TA) : TE := fun σ H Q => to σ H fun x H1 => tyV K T x H1 ∧ t σ H1 fun xs H2 => r x xs H2 Q
variable {o e : Expr} {es : List Expr} {to : TE} {t : TA} {name : Str} {apos cpos : Pos} {T id : String} {r : V → List V → Hp → VK → Prop}
theorem pe_bm0 (pa : PlainAttrs T) (slot : Slot T name id) (hty : typeOf (.builtin id) = pure (.type "method_descriptor")) (hm : MtR X id r) (ho : PE X o to)
    (hbase : attributeBase o name X.env (eval o X.env) = eval o X.env := by rfl) (hline : (apos.endLine == cpos.line) = true := by rfl) : PE X (.Call (.Attribute o name apos) [] [] cpos) (tBM0 X.K T r to) := by
  intro pins s σ H Q I h
  refine wpAny_Call_method0_late hbase hline (thn (ho pins s σ H _ I h) fun v s1 ⟨x, H1, I1, r1, ty, q1⟩ => ?_)
  obtain ⟨h1, h2⟩ := tyV_is I1 r1 ty
  exact ⟨T, id, pa, slot, hty, h1, h2, Calls.callWith_builtin rfl (PySem.evalArgs_none (hm pins s1 σ H1 x [] v [] Q I1 r1 .nil q1))⟩
theorem pe_bm (pa : PlainAttrs T) (slot : Slot T name id) (hty : typeOf (.builtin id) = pure (.type "method_descriptor")) (hm : MtR X id r) (ho : PE X o to) (ha : PA X (e :: es) t)
    (hbase : attributeBase o name X.env (eval o X.env) = eval o X.env := by rfl)
    (hfew : ((backTo cpos (starEach (e :: es) X.env)).all (fun x => !x.1) && (backToKw cpos (keywordEach [] X.env)).all (fun x => x.1.isSome)
      && decide ((e :: es).length + ([] : List Keyword).length + (if ([] : List Keyword).isEmpty then 0 else 1) < 30)) = true := by rfl)
    (hline : (apos.endLine == cpos.line) = true := by rfl) (hs : starEach (e :: es) X.env = (false, eval e X.env) :: starEach es X.env := by rfl) (hplain : (backTo cpos (starEach es X.env)).any (·.1) = false := by rfl) :
    PE X (.Call (.Attribute o name apos) (e :: es) [] cpos) (tBM X.K T r to t) := by
  intro pins s σ H Q I h
  refine wpAny_Call_method_late hbase hfew hline rfl (thn (ho pins s σ H _ I h) fun v s1 ⟨x, H1, I1, r1, ty, q1⟩ => ?_)
  obtain ⟨h1, h2⟩ := tyV_is I1 r1 ty
  refine ⟨T, id, pa, slot, hty, h1, h2, ?_⟩
  have hA := ha cpos pins s1 σ H1 _ I1 q1
  rw [hs] at hA ⊢
  refine Calls.callWith_builtin (by show (false || (backTo cpos (starEach es X.env)).any (·.1)) = false; rw [hplain] <;> rfl) (Calls.evalArgs_plain ?_)
  exact thn hA fun us s2 ⟨vs, H2, I2, r2, q2⟩ => hm pins s2 σ H2 x vs v us Q I2 r1 r2 q2
end
end L2
namespace L2
open PySem PySem.Spec PyProof.Rows
def MtM (X : Cx) (id : String) (r : V → List V → Hp → VK → Prop) : Prop :=
  ∀ (pins : List (Addr × Obj)) (s : Shared) (σ : St) (H : Hp) (x : V) (xs : List V) (v : Value) (us : List Value) (Q : VK), Inv X pins σ H s → RelV x v → Vals xs us → r x xs H Q →
    wpAny (model X.prog X.w) X.A (call (.builtin id) (v :: us)) (EP X pins σ Q) X.xe s
theorem Vals.one {x : V} {us : List Value} (h : Vals [x] us) : ∃ u, us = [u] ∧ RelV x u := by
  cases h with
  | cons r e =>
    cases e
    exact ⟨_, rfl, r⟩
theorem Vals.two {x y : V} {us : List Value} (h : Vals [x, y] us) : ∃ u v, us = [u, v] ∧ RelV x u ∧ RelV y v := by
  cases h with
  | cons r t =>
    cases t with
    | cons q e =>
      cases e
      exact ⟨_, _, rfl, r, q⟩
theorem Vals.zero : ∀ {us : List Value}, Vals [] us → us = []
  | _, .nil => rfl
theorem Vals.dropLast {xs : List V} {us : List Value} (h : Vals xs us) : Vals xs.dropLast us.dropLast := by
  induction h with
  | nil => exact .nil
  | cons r t ih =>
    cases t with
    | nil => exact .nil
    | cons q t' => exact .cons r ih
theorem Vals.reverse {xs : List V} {us : List Value} (h : Vals xs us) : Vals xs.reverse us.reverse := by
  induction h with
  | nil => exact .nil
  | cons r t ih => rw [List.reverse_cons, List.reverse_cons]; exact Vals.append ih (.cons r .nil)
theorem erase_last {α : Type} (l : List α) : l.eraseIdx (l.length - 1) = l.dropLast := by
  induction l with
  | nil => rfl
  | cons a r ih =>
    cases r with
    | nil => rfl
    | cons b r =>
      have e : (a :: b :: r).length - 1 = ((b :: r).length - 1) + 1 := by
        have h1 : (a :: b :: r).length = r.length + 2 := rfl
        have h2 : (b :: r).length = r.length + 1 := rfl
        omega
      rw [e, List.eraseIdx_cons_succ, ih]
      all_goals rfl
section
variable {X : Cx} {pins : List (Addr × Obj)} {σ : St} {H : Hp} {s : Shared} {l b : Addr} {xs ys zs : List V}
theorem Inv.lset {its its' : List Value} {n : Nat} {f : Array Value → Array Value} {t' : Nat} (I : Inv X pins σ H s) (hH : H l = some (.lst xs))
    (e : s.heap.get? l = some { cls := .type "list", data := .seq its.toArray n }) (hf : f its.toArray = its'.toArray) (hv : Vals ys its') (hz : ys.length ≤ sizeLine) :
    Inv X pins σ (upd H l (.lst ys)) { s with heap := s.heap.update l (Obj.mapSeq f), toks := t' } := by
  have q := PySem.IsL.update e f
  rw [hf] at q
  refine I.write (x := l) (e := l) (by rw [hH]; exact trivial) (.inl rfl) (fun b' u hb hu => (Heap.get?_update_other s.heap (Obj.mapSeq f) (Ne.symm hb)).trans hu) ⟨_, q⟩ ?_
  exact ⟨hz, its', _, hv, q⟩
theorem Inv.lnew {its : List Value} {t' : Nat} (I : Inv X pins σ H s) (hv : Vals ys its) (hz : ys.length ≤ sizeLine) :
    Inv X pins σ (upd H s.heap.objs.size (.lst ys)) { s with heap := s.heap.push { cls := .type "list", data := .seq its.toArray }, toks := t' } :=
  I.laid (fun _ _ q => Heap.get?_push_of_some _ q) (Nat.le_refl _) ⟨hz, its, 0, hv, Heap.get?_push_size _ rfl⟩
theorem Inv.lstM (I : Inv X pins σ H s) (hH : H l = some (.lst xs)) : xs.length ≤ sizeLine ∧ ∃ (its : List Value) (n : Nat), Vals xs its ∧ xs.length = its.length ∧ s.heap.get? l = some { cls := .type "list", data := .seq its.toArray n } := by
  obtain ⟨z, its, n, r, e⟩ := I.hok l _ hH
  exact ⟨z, its, n, r, r.length, e⟩
theorem notLongL {n : Nat} (h : n ≤ sizeLine) : Builtin.List.listTooLong n = false := by
  unfold Builtin.List.listTooLong
  exact decide_eq_false (by omega)
end
section
variable {X : Cx}
def rAppend : V → List V → Hp → VK → Prop := fun x vs H Q => ∃ l xs y, x = .ref l ∧ vs = [y] ∧ H l = some (.lst xs) ∧ xs.length < sizeLine ∧ Q .non (upd H l (.lst (xs ++ [y])))
theorem mt_append : MtM X "list.append" rAppend := by
  intro pins s σ H x vs v us Q I rx rv h
  obtain ⟨l, xs, y, rfl, rfl, hH, hz, q⟩ := h
  cases rx
  obtain ⟨u, rfl, ru⟩ := rv.one
  obtain ⟨z, its, n, r, hl, e⟩ := I.lstM hH
  refine call_meets F.slot_list_append ⟨_, e, rfl⟩ F.entry_list_append (F.args_list_append_2 _ _) (PySem.list_append l its.toArray n u (by rw [List.size_toArray]; omega)) ⟨e, ?_⟩
  refine ⟨.non, _, I.lset (its' := its ++ [u]) hH e (by simp) (r.append (.cons ru .nil)) ?_, rfl, q⟩
  rw [List.length_append, List.length_singleton]
  omega
def rExtend : V → List V → Hp → VK → Prop := fun x vs H Q => ∃ l b xs zs, x = .ref l ∧ vs = [.ref b] ∧ H l = some (.lst xs) ∧ H b = some (.lst zs) ∧ xs.length + zs.length ≤ sizeLine ∧ Q .non (upd H l (.lst (xs ++ zs)))
theorem mt_extend : MtM X "list.extend" rExtend := by
  intro pins s σ H x vs v us Q I rx rv h
  obtain ⟨l, b, xs, zs, rfl, rfl, hH, hB, hz, q⟩ := h
  cases rx
  obtain ⟨u, rfl, ru⟩ := rv.one
  cases ru
  obtain ⟨z, its, n, r, hl, e⟩ := I.lstM hH
  obtain ⟨z2, its2, n2, r2, hl2, e2⟩ := I.lstM hB
  have hsz : its.toArray.size + its2.toArray.size ≤ sizeLine := by rw [List.size_toArray, List.size_toArray]; omega
  have hlong : ¬ (!its.toArray.isEmpty && Builtin.List.listTooLong (its.toArray.size + its2.toArray.size)) = true := by
    rw [notLongL hsz, Bool.and_false]
    exact Bool.false_ne_true
  refine call_meets F.slot_list_extend ⟨_, e, rfl⟩ F.entry_list_extend (F.args_list_extend_2 _ _)
    (AutoSeq1.list_extend_list_list_0 l its.toArray n b its2.toArray n2 hlong (by rw [List.size_toArray]; omega) (by omega)) ⟨e, e2, ?_⟩
  refine ⟨.non, _, I.lset (its' := its ++ its2) hH e (by simp) (r.append r2) ?_, rfl, q⟩
  rw [List.length_append]
  omega
def rPop : V → List V → Hp → VK → Prop := fun x vs H Q => ∃ l xs y, x = .ref l ∧ vs = [] ∧ H l = some (.lst xs) ∧ xs[xs.length - 1]? = some y ∧ Q y (upd H l (.lst xs.dropLast))
theorem mt_pop : MtM X "list.pop" rPop := by
  intro pins s σ H x vs v us Q I rx rv h
  obtain ⟨l, xs, y, rfl, rfl, hH, hy, q⟩ := h
  cases rx
  have hus := rv.zero
  subst hus
  obtain ⟨z, its, n, r, hl, e⟩ := I.lstM hH
  obtain ⟨u, hu, ru⟩ := r.get hy
  have hy' : its.toArray[its.toArray.size - 1]? = some u := by
    show its.toArray[its.length - 1]? = some u
    rw [← Array.getElem?_toList, ← hl]
    exact hu
  refine call_meets F.slot_list_pop ⟨_, e, rfl⟩ F.entry_list_pop (F.args_list_pop_1 _) (MeetsSeq.list_pop_last l its.toArray n u hy' (by rw [List.size_toArray]; omega)) ⟨e, ?_⟩
  refine ⟨y, _, I.lset (its' := its.dropLast) hH e ?_ r.dropLast ?_, ru, q⟩
  · show its.toArray.eraseIdxIfInBounds (its.toArray.size - 1) = its.dropLast.toArray
    rw [List.size_toArray, List.eraseIdxIfInBounds_toArray, erase_last]
  · rw [List.length_dropLast]
    omega
def rReverse : V → List V → Hp → VK → Prop := fun x vs H Q => ∃ l xs, x = .ref l ∧ vs = [] ∧ H l = some (.lst xs) ∧ Q .non (upd H l (.lst xs.reverse))
theorem mt_reverse : MtM X "list.reverse" rReverse := by
  intro pins s σ H x vs v us Q I rx rv h
  obtain ⟨l, xs, rfl, rfl, hH, q⟩ := h
  cases rx
  have hus := rv.zero
  subst hus
  obtain ⟨z, its, n, r, hl, e⟩ := I.lstM hH
  refine call_meets F.slot_list_reverse ⟨_, e, rfl⟩ F.entry_list_reverse (F.args_list_reverse_1 _) (AutoSeq1.list_reverse_list_0 l its.toArray n (by rw [List.size_toArray]; omega)) ⟨e, ?_⟩
  refine ⟨.non, _, I.lset (its' := its.reverse) hH e (by simp) r.reverse ?_, rfl, q⟩
  rw [List.length_reverse]
  omega
end
section
variable {prog : Program} {w : World} {A : Around} {E : Value → Shared → Prop} {s : Shared}
end
section
variable {X : Cx}
end
end L2
namespace L2
open PySem PySem.Spec PyProof.Rows
section
variable {κ : Type} [DecidableEq κ]
def valV (kvs : List (κ × V)) (k : κ) : Option V := (kvs.find? fun kv => decide (kv.1 = k)).map (·.2)
def putK (kvs : List (κ × V)) (k : κ) (v : V) : List (κ × V) :=
  if (kvs.any fun kv => decide (kv.1 = k)) = true then kvs.map (fun kv => if kv.1 = k then (kv.1, v) else kv) else kvs ++ [(k, v)]
theorem valV_pos {p : κ × V} {r : List (κ × V)} {k : κ} (e : p.1 = k) : valV (p :: r) k = some p.2 := by simp [valV, List.find?_cons, e]
theorem valV_neg {p : κ × V} {r : List (κ × V)} {k : κ} (e : ¬ p.1 = k) : valV (p :: r) k = valV r k := by simp [valV, List.find?_cons, e]
theorem valV_any (k : κ) : ∀ kvs : List (κ × V), (kvs.any fun kv => decide (kv.1 = k)) = (valV kvs k).isSome
  | [] => rfl
  | p :: r => by
    rw [List.any_cons]
    by_cases e : p.1 = k
    · simp only [valV_pos e, decide_eq_true e, Bool.true_or, Option.isSome_some]
    · rw [valV_neg e, decide_eq_false e, Bool.false_or]; exact valV_any k r
theorem length_putK (kvs : List (κ × V)) (k : κ) (v : V) : (putK kvs k v).length ≤ kvs.length + 1 := by
  unfold putK
  split
  · rw [List.length_map]; omega
  · rw [List.length_append, List.length_cons, List.length_nil]; omega
theorem RelO.isSome_eq {o : Option V} {u : Option Value} (r : RelO o u) : o.isSome = u.isSome := by
  cases o with
  | none => cases u with
    | none => rfl
    | some _ => exact (show False from r).elim
  | some _ => cases u with
    | none => exact (show False from r).elim
    | some _ => rfl
theorem KV.val {kvs : List (κ × V)} {vs : List (κ × Value)} (r : KV kvs vs) (k : κ) : RelO (valV kvs k) (valueAt vs k) := by
  unfold KV at r
  induction r with
  | nil => exact True.intro
  | @cons p q ps qs h t ih =>
    obtain ⟨h1, h2⟩ := h
    by_cases e : p.1 = k
    · have e' : q.1 = k := h1.symm.trans e
      have b : valueAt (q :: qs) k = some q.2 := by simp [valueAt, List.find?_cons, e']
      rw [valV_pos e, b]; exact h2
    · have e' : ¬ q.1 = k := fun z => e (h1.trans z)
      have b : valueAt (q :: qs) k = valueAt qs k := by simp [valueAt, List.find?_cons, e']
      rw [valV_neg e, b]; exact ih
theorem KV.any {kvs : List (κ × V)} {vs : List (κ × Value)} (r : KV kvs vs) (k : κ) : (kvs.any fun kv => decide (kv.1 = k)) = vs.any fun kv => decide (kv.1 = k) := by
  unfold KV at r
  induction r with
  | nil => rfl
  | cons h t ih => rw [List.any_cons, List.any_cons, ih, h.1]
theorem KV.repl {kvs : List (κ × V)} {vs : List (κ × Value)} (r : KV kvs vs) (k : κ) {y : V} {u : Value} (ry : RelV y u) :
    KV (kvs.map fun kv => if kv.1 = k then (kv.1, y) else kv) (vs.map fun kv => if kv.1 = k then (kv.1, u) else kv) := by
  unfold KV at r ⊢
  induction r with
  | nil => exact .nil
  | @cons p q ps qs h t ih =>
    rw [List.map_cons, List.map_cons]
    refine .cons ?_ ih
    obtain ⟨h1, h2⟩ := h
    by_cases e : p.1 = k
    · rw [if_pos e, if_pos (h1.symm.trans e)]; exact ⟨h1, ry⟩
    · rw [if_neg e, if_neg (fun z => e (h1.trans z))]; exact ⟨h1, h2⟩
theorem KV.put {kvs : List (κ × V)} {vs : List (κ × Value)} (r : KV kvs vs) (k : κ) {y : V} {u : Value} (ry : RelV y u) : KV (putK kvs k y) (stored vs k u) := by
  unfold putK stored
  rw [r.any k]
  by_cases e : (vs.any fun kv => decide (kv.1 = k)) = true
  · rw [if_pos e, if_pos e]; exact r.repl k ry
  · rw [if_neg e, if_neg e]; exact Paired.snoc r ⟨rfl, ry⟩
theorem KV.length {kvs : List (κ × V)} {vs : List (κ × Value)} (r : KV kvs vs) : kvs.length = vs.length := Paired.length r
end
theorem kV_is {P : Program} {w : World} {k : Key} {u : Value} (r : RelV (kV k) u) : (mixKind P w).is k u = true := by
  cases k with
  | inl i => obtain ⟨t, e⟩ := (show ∃ t, u = Value.int i t from r); subst e; exact mixKind_int P w i t
  | inr x => obtain ⟨t, e⟩ := (show ∃ t, u = Value.str x t from r); subst e; exact mixKind_str P w x t
theorem items_are {P : Program} {w : World} : ∀ {ks : List Key} {us : List Value}, Vals (ks.map kV) us → ItemsAre (mixKind P w) ks us
  | [], _, r => by rw [List.map_nil] at r; cases r; exact .nil
  | k :: ks, _, r => by
    rw [List.map_cons] at r
    cases r with
    | cons h t => exact .cons (kV_is h) (items_are t)
abbrev KT (H : Hp) : List (List Key × V) → List (List Key × Addr × Value) → Prop := Paired fun p q => p.1 = q.1 ∧ H q.2.1 = some (.tup (p.1.map kV)) ∧ RelV p.2 q.2.2
theorem KT.val {H : Hp} {kvs : List (List Key × V)} {xs : List (List Key × Addr × Value)} (r : KT H kvs xs) (k : List Key) : RelO (valV kvs k) ((atKey xs k).map (·.2)) := by
  induction r with
  | nil => exact True.intro
  | @cons p q ps qs h t ih =>
    obtain ⟨h1, _, h2⟩ := h
    by_cases e : p.1 = k
    · have e' : q.1 = k := h1.symm.trans e
      have b : atKey (q :: qs) k = some q.2 := by simp [atKey, List.find?_cons, e']
      rw [valV_pos e, b]; exact h2
    · have e' : ¬ q.1 = k := fun z => e (h1.trans z)
      have b : atKey (q :: qs) k = atKey qs k := by simp [atKey, List.find?_cons, e']
      rw [valV_neg e, b]; exact ih
theorem KT.repl {H : Hp} {kvs : List (List Key × V)} {xs : List (List Key × Addr × Value)} (r : KT H kvs xs) (k : List Key) {y : V} {u : Value} (ry : RelV y u) :
    KT H (kvs.map fun kv => if kv.1 = k then (kv.1, y) else kv) (xs.map (putAt k u)) := by
  induction r with
  | nil => exact .nil
  | @cons p q ps qs h t ih =>
    rw [List.map_cons, List.map_cons]
    refine .cons ?_ ih
    obtain ⟨h1, h2, h3⟩ := h
    unfold putAt
    by_cases e : p.1 = k
    · rw [if_pos e, if_pos (h1.symm.trans e)]; exact ⟨h1, h2, ry⟩
    · rw [if_neg e, if_neg (fun z => e (h1.trans z))]; exact ⟨h1, h2, h3⟩
theorem KT.put {H : Hp} {kvs : List (List Key × V)} {xs : List (List Key × Addr × Value)} (r : KT H kvs xs) (k : List Key) {b : Addr} {y : V} {u : Value} (hb : H b = some (.tup (k.map kV))) (ry : RelV y u) :
    KT H (putK kvs k y) (storedH xs k b u) := by
  have e : (kvs.any fun kv => decide (kv.1 = k)) = (atKey xs k).isSome := by
    rw [valV_any, (r.val k).isSome_eq, Option.isSome_map]
  unfold putK storedH
  rw [e]
  by_cases q : (atKey xs k).isSome = true
  · rw [if_pos q, if_pos q]; exact r.repl k ry
  · rw [if_neg q, if_neg q]; exact Paired.snoc r ⟨rfl, hb, ry⟩
theorem KT.keeps {H H' : Hp} {kvs : List (List Key × V)} {xs : List (List Key × Addr × Value)} (r : KT H kvs xs) (ht : ∀ b ys, H b = some (.tup ys) → H' b = some (.tup ys)) : KT H' kvs xs :=
  Paired.mapP r fun _ _ z => ⟨z.1, ht _ _ z.2.1, z.2.2⟩
section
variable {P : Program} {w : World} {H : Hp} {h : Heap} {a : Addr}
theorem rd_of {u : HO} (ok : HOk P w H h) (e : Rd H a u) : ObjOk P w H h a u := e.ok ok
theorem dk_rd {kvs : List (Key × V)} (ok : HOk P w H h) (e : Rd H a (.dK kvs)) : kvs.length ≤ sizeLine ∧ (a == sysModules) = false ∧ ∃ vs, KV kvs vs ∧ h.DictOf (mixKind P w) a vs :=
  show ObjOk P w H h a (.dK kvs) from rd_of ok e
theorem dk_of {kvs : List (Key × V)} (ok : HOk P w H h) (e : H a = some (.dK kvs)) : kvs.length ≤ sizeLine ∧ (a == sysModules) = false ∧ ∃ vs, KV kvs vs ∧ h.DictOf (mixKind P w) a vs := dk_rd ok (.inl e)
theorem key_of {ks : List Key} (ok : HOk P w H h) (e : H a = some (.tup (ks.map kV))) : (tupleKind (mixKind P w)).is h ks a := by
  obtain ⟨_, its, r, o, h1, h2, n, h3⟩ := (show ObjOk P w H h a (.tup (ks.map kV)) from ok a _ e)
  exact ⟨o, its.toArray, n, h1, h2, h3, by simpa using items_are r⟩
theorem dt_rd {kvs : List (List Key × V)} (ok : HOk P w H h) (e : Rd H a (.dT kvs)) : kvs.length ≤ sizeLine ∧ (a == sysModules) = false ∧
    ∃ xs, KT H kvs xs ∧ h.DictOfH (tupleKind (mixKind P w)) a xs := by
  obtain ⟨z, y, xs, r, o, es, ep, h1, h2, h3, h4, h5⟩ := (show ObjOk P w H h a (.dT kvs) from rd_of ok e)
  refine ⟨z, y, xs, r, o, es, ep, h1, h2, h3, h4, fun x hx => ?_, h5⟩
  have all : ∀ {l : List (List Key × V)} {m : List (List Key × Addr × Value)}, KT H l m → ∀ x ∈ m, (tupleKind (mixKind P w)).is h x.1 x.2.1 := by
    intro l m q
    induction q with
    | nil => intro x hx; exact nomatch hx
    | @cons p q ps qs hq t ih =>
      intro x hx
      rcases List.mem_cons.mp hx with e | hx
      · subst e
        exact key_of ok (by rw [← hq.1]; exact hq.2.1)
      · exact ih x hx
  exact all r x hx
theorem dt_of {kvs : List (List Key × V)} (ok : HOk P w H h) (e : H a = some (.dT kvs)) : kvs.length ≤ sizeLine ∧ (a == sysModules) = false ∧
    ∃ xs, KT H kvs xs ∧ h.DictOfH (tupleKind (mixKind P w)) a xs := dt_rd ok (.inl e)
end
def DGet (H : Hp) (a : Addr) (y : V) (r : Option V) : Prop :=
  (∃ kvs k, Rd H a (.dK kvs) ∧ y = kV k ∧ r = valV kvs k) ∨ ∃ kvs k b, Rd H a (.dT kvs) ∧ y = .ref b ∧ H b = some (.tup (k.map kV)) ∧ r = valV kvs k
def DPut (H : Hp) (a : Addr) (y v : V) (H' : Hp) : Prop :=
  (∃ kvs k, H a = some (.dK kvs) ∧ y = kV k ∧ kvs.length < sizeLine ∧ H' = upd H a (.dK (putK kvs k v))) ∨
  ∃ kvs k b, H a = some (.dT kvs) ∧ y = .ref b ∧ H b = some (.tup (k.map kV)) ∧ kvs.length < sizeLine ∧ H' = upd H a (.dT (putK kvs k v))
theorem DGet.k {H : Hp} {a : Addr} {kvs : List (Key × V)} {k : Key} (e : H a = some (.dK kvs)) : DGet H a (kV k) (valV kvs k) := .inl ⟨kvs, k, .inl e, rfl, rfl⟩
theorem DPut.k {H : Hp} {a : Addr} {kvs : List (Key × V)} {k : Key} {v : V} (e : H a = some (.dK kvs)) (hl : kvs.length < sizeLine) : DPut H a (kV k) v (upd H a (.dK (putK kvs k v))) := .inl ⟨kvs, k, e, rfl, hl, rfl⟩
section
variable {X : Cx} {pins : List (Addr × Obj)} {σ : St} {H : Hp} {s : Shared} {a : Addr} {y v : V} {u r : Value} {o : Option V} {A : Around} {E : Value → Shared → Prop}
theorem Inv.big (I : Inv X pins σ H s) : sysModules < s.heap.objs.size := by
  have h : mainGlobals < s.heap.objs.size := (I.mod.glob.keeps I.bk).lt
  exact Nat.lt_trans (by decide) h
theorem d_getItem {Q : Value → Shared → Prop} (hu : A.units + 1 < cLine) (I : Inv X pins σ H s) (g : DGet H a y (some v)) (ry : RelV y u) (h : ∀ w' s', Inv X pins σ H s' → RelV v w' → Q w' s') :
    wpAny (model X.prog X.w) A (getItem (.ref a) u) Q E s := by
  rcases g with ⟨kvs, k, e, ey, l⟩ | ⟨kvs, k, b, e, ey, eb, l⟩
  · subst ey
    obtain ⟨z, hd, vs, rel, dd⟩ := dk_rd I.hok e
    obtain ⟨w', hw, rw'⟩ := RelO.some_of (v := v) (o := valueAt vs k) (by rw [l]; exact rel.val k)
    exact wpAny_getItem_of (kV_is ry) dd.mapOf hw (h w' _ (I.tok _) rw')
  · subst ey
    cases (show u = Value.ref b from ry)
    obtain ⟨z, hd, xs, rel, dd⟩ := dt_rd I.hok e
    obtain ⟨w', hw, rw'⟩ := RelO.some_of (v := v) (o := (atKey xs k).map (·.2)) (by rw [l]; exact rel.val k)
    obtain ⟨p, hp, hp2⟩ := Option.map_eq_some_iff.mp hw
    refine wpAny_getItem_heap (tupleKind_room_in1 hu) (key_of I.hok eb) dd hp ?_
    rw [hp2]
    exact h w' _ (I.tok _) rw'
theorem d_in {Q : Value → Shared → Prop} (hu : A.units + 1 < cLine) (I : Inv X pins σ H s) (g : DGet H a y o) (ry : RelV y u) (h : ∀ s', Inv X pins σ H s' → Q (.bool o.isSome) s') :
    wpAny (model X.prog X.w) A (compareOp .In u (.ref a)) Q E s := by
  rcases g with ⟨kvs, k, e, ey, l⟩ | ⟨kvs, k, b, e, ey, eb, l⟩
  · subst ey
    obtain ⟨z, hd, vs, rel, dd⟩ := dk_rd I.hok e
    refine wpAny_in_of (kV_is ry) hd dd.mapOf ?_
    rw [← (rel.val k).isSome_eq, ← l]
    exact h _ (I.tok _)
  · subst ey
    cases (show u = Value.ref b from ry)
    obtain ⟨z, hd, xs, rel, dd⟩ := dt_rd I.hok e
    refine wpAny_in_heap (tupleKind_room_in1 hu) (key_of I.hok eb) hd dd ?_
    have q := (rel.val k).isSome_eq
    rw [Option.isSome_map] at q
    rw [← q, ← l]
    exact h _ (I.tok _)
theorem d_notIn {Q : Value → Shared → Prop} (hu : A.units + 1 < cLine) (I : Inv X pins σ H s) (g : DGet H a y o) (ry : RelV y u) (h : ∀ s', Inv X pins σ H s' → Q (.bool (!o.isSome)) s') :
    wpAny (model X.prog X.w) A (compareOp .NotIn u (.ref a)) Q E s := by
  rcases g with ⟨kvs, k, e, ey, l⟩ | ⟨kvs, k, b, e, ey, eb, l⟩
  · subst ey
    obtain ⟨z, hd, vs, rel, dd⟩ := dk_rd I.hok e
    refine wpAny_notIn_of (kV_is ry) hd dd.mapOf ?_
    rw [← (rel.val k).isSome_eq, ← l]
    exact h _ (I.tok _)
  · subst ey
    cases (show u = Value.ref b from ry)
    obtain ⟨z, hd, xs, rel, dd⟩ := dt_rd I.hok e
    refine wpAny_notIn_heap (tupleKind_room_in1 hu) (key_of I.hok eb) hd dd ?_
    have q := (rel.val k).isSome_eq
    rw [Option.isSome_map] at q
    rw [← q, ← l]
    exact h _ (I.tok _)
theorem d_write {h' : Heap} {t' : Nat} {ob : HO} (I : Inv X pins σ H s) (mu : Mut (H a)) (hs : Heap.SameBut a s.heap h') (he : ∃ q, h'.get? a = some q) (new : ObjOk X.prog X.w (upd H a ob) h' a ob) :
    Inv X pins σ (upd H a ob) { s with heap := h', toks := t' } :=
  I.write (x := a) (e := a) mu (.inl rfl) (fun b q hb z => (hs.2 b hb).trans z) he new
theorem dk_new {P : Program} {w : World} {H' : Hp} {h' : Heap} {kvs : List (Key × V)} {vs : List (Key × Value)} (z : kvs.length ≤ sizeLine) (hd : (a == sysModules) = false) (rel : KV kvs vs) (dd : h'.DictOf (mixKind P w) a vs) :
    ObjOk P w H' h' a (.dK kvs) := ⟨z, hd, vs, rel, dd⟩
theorem d_setItem {H' : Hp} {Q : Unit → Shared → Prop} (hu : A.units + 1 < cLine) (I : Inv X pins σ H s) (g : DPut H a y v H') (ry : RelV y u) (rv : RelV v r) (h : ∀ s', Inv X pins σ H' s' → Q () s') :
    wpAny (model X.prog X.w) A (setItem (.ref a) u r) Q E s := by
  rcases g with ⟨kvs, k, e, ey, l, eH⟩ | ⟨kvs, k, b, e, ey, eb, l, eH⟩
  · subst ey eH
    obtain ⟨z, hd, vs, rel, dd⟩ := dk_of I.hok e
    have hz : vs.length ≤ sizeLine := by rw [← rel.length]; exact z
    have hl : (putK kvs k v).length ≤ sizeLine := by have := length_putK kvs k v; omega
    refine wpAny_setItem_pairs (hsz := hz) (kV_is ry) dd fun h' dd' hs => h _ ?_
    have he : ∃ q, h'.get? a = some q := let ⟨q, _, _, hq, _⟩ := dd'; ⟨q, hq⟩
    exact d_write I (by rw [e]; exact True.intro) hs he (dk_new hl hd (rel.put k rv) dd')
  · subst ey eH
    cases (show u = Value.ref b from ry)
    obtain ⟨z, hd, xs, rel, dd⟩ := dt_of I.hok e
    have hz : xs.length ≤ sizeLine := by rw [← Paired.length rel]; exact z
    have hl : (putK kvs k v).length ≤ sizeLine := by have := length_putK kvs k v; omega
    refine wpAny_setItem_heap (hsz := hz) (tupleKind_room_in1 hu) (key_of I.hok eb) dd fun h' dd' hs => h _ ?_
    obtain ⟨q, es, ep, hq, h2, h3, h4, _, h5⟩ := dd'
    refine d_write I (by rw [e]; exact True.intro) hs ⟨q, hq⟩ ⟨hl, hd, _, (rel.put k eb rv).keeps fun c ys ec => ?_, q, es, ep, hq, h2, h3, h4, h5⟩
    rw [upd_ne (ne_of ec e (fun z => nomatch z))]
    exact ec
end
section
variable {X : Cx} {pins : List (Addr × Obj)} {σ : St} {H : Hp} {s : Shared} {a : Addr} {kvs : List (Key × V)} {k : Key} {u : Value} {A : Around} {E : Value → Shared → Prop}
end
def NoSl (i : Expr) : Prop := ∀ ov iv, subscripted i false ov iv = operate [ov, iv] (getItem ov iv)
theorem subD_of {prog : Program} {w : World} {A : Around} {E : Value → Shared → Prop} {s : Shared} {env : Env} {value slice : Expr} {pos : Pos} {T id : String} {Q : Value → Shared → Prop}
    (hl : typeLookup (.type T) "__getitem__" = pure (some (.builtin id))) (hs : NoSl slice)
    (h : wpAny (model prog w) A (eval value env) (fun o s₁ => wpAny (model prog w) A (eval slice env) (fun i s₂ => s₂.TypeIs o T ∧ wpAny (model prog w) A (getItem o i) Q E s₂) E s₁) E s) :
    wpAny (model prog w) A (eval (.Subscript value slice pos) env) Q E s := by
  refine Subscript_ (wpAny_mono h (fun o s₁ h₁ => wpAny_mono h₁ (fun i s₂ h₂ => ?_) fun _ _ x => x) fun _ _ x => x)
  obtain ⟨hT, h₂⟩ := h₂
  unfold subscriptTail
  refine wpAny_bind ?_
  rw [getitemInPython_of_ne hT.not_modules]
  refine wpAny_bind (wpAny_specialOf hT hl ?_)
  have fin : wpAny (model prog w) A (subscripted slice false o i) (fun r s₃ => wpAny (model prog w) A (letTemporaryGo value o r >>= fun _ => pure r) Q E s₃) E s₂ := by
    rw [hs o i]
    exact wpAny_operating (wpAny_mono h₂ (fun r s₃ h₃ => wpAny_bind (wpAny_letTemporaryGo (wpAny_pure h₃))) fun _ _ x => x)
  first
    | exact wpAny_pure (wpAny_bind fin)
    | exact wpAny_bind (wpAny_pure (wpAny_bind fin))
    | exact wpAny_bind fin
theorem dict_typeIs {X : Cx} {pins : List (Addr × Obj)} {σ : St} {H : Hp} {s : Shared} {a : Addr} {y : V} {o : Option V} (I : Inv X pins σ H s) (g : DGet H a y o) : s.TypeIs (.ref a) "dict" := by
  rcases g with ⟨kvs, k, e, _, _⟩ | ⟨kvs, k, b, e, _, _, _⟩
  · obtain ⟨_, _, vs, _, dd⟩ := dk_rd I.hok e
    exact dd.typeIs
  · obtain ⟨_, _, xs, _, dd⟩ := dt_rd I.hok e
    exact dd.typeIs
def tDGet (td ty : TE) : TE := fun σ H Q => td σ H fun x H1 => ty σ H1 fun y H2 => ∃ a v, x = .ref a ∧ DGet H2 a y (some v) ∧ Q v H2
def tDIn (ty td : TE) : TE := fun σ H Q => ty σ H fun y H1 => td σ H1 fun x H2 => ∃ a o, x = .ref a ∧ DGet H2 a y o ∧ Q (.bl o.isSome) H2
def tDNotIn (ty td : TE) : TE := fun σ H Q => ty σ H fun y H1 => td σ H1 fun x H2 => ∃ a o, x = .ref a ∧ DGet H2 a y o ∧ Q (.bl (!o.isSome)) H2
def sDPut (td ty tv : TE) : TS := fun D σ H => tv σ H fun v H1 => td σ H1 fun x H2 => ty σ H2 fun y H3 => ∃ a H4, x = .ref a ∧ DPut H3 a y v H4 ∧ D.nx σ H4
section
variable {X : Cx} {o i e value : Expr} {pos pos' tpos : Pos} {td ty tv : TE}
theorem pe_dget (hu : X.A.units + 1 < cLine) (ho : PE X o td) (hi : PE X i ty) (hs : NoSl i) : PE X (.Subscript o i pos) (tDGet td ty) := by
  intro pins s σ H Q I h
  refine subD_of PySem.F.slot_dict_getitem.lookup hs (thn (ho pins s σ H _ I h) fun u s1 ⟨x, H1, I1, rx, q1⟩ => thn (hi pins s1 σ H1 _ I1 q1) fun iv s2 ⟨y, H2, I2, ry, a, v, ex, g, q2⟩ => ?_)
  subst ex
  obtain rfl : u = Value.ref a := rx
  exact ⟨dict_typeIs I2 g, d_getItem hu I2 g ry fun w' s3 I3 rw' => ⟨v, H2, I3, rw', q2⟩⟩
theorem pc_din (hu : X.A.units + 1 < cLine) (hi : PE X i ty) (ho : PE X o td) : PC X .In i o (tDIn ty td) := by
  intro pins s σ H Q I h
  refine thn (hi pins s σ H _ I h) fun iv s1 ⟨y, H1, I1, ry, q1⟩ => thn (ho pins s1 σ H1 _ I1 q1) fun u s2 ⟨x, H2, I2, rx, a, ov, ex, g, q2⟩ => ?_
  subst ex
  obtain rfl : u = Value.ref a := rx
  exact d_in hu I2 g ry fun s3 I3 => ⟨.bl ov.isSome, H2, I3, rfl, q2⟩
theorem pc_dnotin (hu : X.A.units + 1 < cLine) (hi : PE X i ty) (ho : PE X o td) : PC X .NotIn i o (tDNotIn ty td) := by
  intro pins s σ H Q I h
  refine thn (hi pins s σ H _ I h) fun iv s1 ⟨y, H1, I1, ry, q1⟩ => thn (ho pins s1 σ H1 _ I1 q1) fun u s2 ⟨x, H2, I2, rx, a, ov, ex, g, q2⟩ => ?_
  subst ex
  obtain rfl : u = Value.ref a := rx
  exact d_notIn hu I2 g ry fun s3 I3 => ⟨.bl (!ov.isSome), H2, I3, rfl, q2⟩
theorem ps_dput (hu : X.A.units + 1 < cLine) (ho : PE X o td) (hi : PE X i ty) (hv : PE X value tv) (hs : swapsWith value (some (.Subscript o i pos')) pos.line X.env = pure false) :
    PS X (.Assign [.Subscript o i pos'] value pos) (sDPut td ty tv) := by
  intro pins s σ H D I h
  refine wpAny_Assign_Subscript (thn (hv pins s σ H _ I h) fun r s1 ⟨v, H1, I1, rv, q1⟩ => thn (ho pins s1 σ H1 _ I1 q1) fun u s2 ⟨x, H2, I2, rx, q2⟩ => thn (hi pins s2 σ H2 _ I2 q2) fun iv s3 ⟨y, H3, I3, ry, a, H4, ex, g, q3⟩ => ?_) hs
  subst ex
  obtain rfl : u = Value.ref a := rx
  exact d_setItem hu I3 g ry rv fun s4 I4 => ⟨σ, H4, I4, q3⟩
end
theorem dk_empty {P : Program} {w : World} {H : Hp} (h : Heap) (hb : sysModules < h.objs.size) : ObjOk P w H (h.push { cls := .type "dict", data := .dict #[] }) h.objs.size (.dK []) :=
  ⟨Nat.zero_le _, beq_eq_false_iff_ne.mpr (Ne.symm (Nat.ne_of_lt hb)), [], .nil, Heap.DictOf.new h⟩
def tDNewK : TE := fun _ H Q => ∀ p, H p = none → Q (.ref p) (upd H p (.dK []))
section
variable {X : Cx} {pos : Pos}
theorem pe_dnewK : PE X (.Dict [] [] pos) tDNewK := fun pins s σ H Q I h =>
  wpAny_Dict_empty ⟨.ref s.heap.objs.size, _, I.laid (a := s.heap.objs.size) (o := .dK []) (t' := s.toks) (fun _ _ q => Heap.get?_push_of_some _ q) (Nat.le_refl _) (dk_empty s.heap I.big), rfl, h _ (I.hok.fresh (Nat.le_refl _))⟩
end
def tPairs : List (TE × TE) → St → Hp → (List (V × V) → Hp → Prop) → Prop
  | [], _, H, Q => Q [] H
  | (tk, tv) :: r, σ, H, Q => tk σ H fun x H1 => tv σ H1 fun y H2 => tPairs r σ H2 fun ps H3 => Q ((x, y) :: ps) H3
abbrev VV : List (V × V) → List (Value × Value) → Prop := Paired fun p q => RelV p.1 q.1 ∧ RelV p.2 q.2
def PPs (X : Cx) (pos : Pos) (keys : List (Option Expr)) (values : List Expr) (trs : List (TE × TE)) : Prop :=
  ∀ (pins : List (Addr × Obj)) (s : Shared) (σ : St) (H : Hp) (Q : List (V × V) → Hp → Prop), Inv X pins σ H s → tPairs trs σ H Q →
    wpAny (model X.prog X.w) X.A (evalPairs (pairTrees keys values X.env pos)) (fun vs s' => ∃ ps H', Inv X pins σ H' s' ∧ VV ps vs ∧ Q ps H') X.xe s
theorem pps_nil {X : Cx} {pos : Pos} : PPs X pos [] [] [] := fun pins s σ H Q I h => pairTrees_nil_walk ⟨[], H, I, .nil, h⟩
theorem pps_cons {X : Cx} {pos : Pos} {k v : Expr} {ks : List (Option Expr)} {vs : List Expr} {tk tv : TE} {trs : List (TE × TE)} (hk : PE X k tk) (hv : PE X v tv) (hr : PPs X pos ks vs trs) :
    PPs X pos (some k :: ks) (v :: vs) ((tk, tv) :: trs) := fun pins s σ H Q I h =>
  pairTrees_cons_walk (thn (hk pins s σ H _ I h) fun u s1 ⟨x, H1, I1, rx, q1⟩ => thn (hv pins s1 σ H1 _ I1 q1) fun w2 s2 ⟨y, H2, I2, ry, q2⟩ =>
    thn (hr pins s2 σ H2 _ I2 q2) fun ws s3 ⟨ps, H3, I3, rel, q3⟩ => ⟨(x, y) :: ps, H3, I3, .cons ⟨rx, ry⟩ rel, q3⟩)
def mergeK (kvs more : List (Key × V)) : List (Key × V) := more.foldl (fun acc kv => putK acc kv.1 kv.2) kvs
theorem KV.merge : ∀ {more : List (Key × V)} {rs : List (Key × Value)} {kvs : List (Key × V)} {vs : List (Key × Value)}, KV more rs → KV kvs vs → KV (mergeK kvs more) (merged vs rs) := by
  intro more rs kvs vs r
  unfold KV at r
  induction r generalizing kvs vs with
  | nil => intro q; exact q
  | @cons p q ps qs h t ih =>
    intro r0
    have e : KV (putK kvs p.1 p.2) (stored vs q.1 q.2) := by
      have := r0.put p.1 h.2
      rw [← h.1]; exact this
    exact ih e
theorem length_mergeK : ∀ (more kvs : List (Key × V)), (mergeK kvs more).length ≤ kvs.length + more.length
  | [], kvs => by show kvs.length ≤ kvs.length + 0; omega
  | p :: r, kvs => by
    have h1 := length_mergeK r (putK kvs p.1 p.2)
    have h2 := length_putK kvs p.1 p.2
    show (mergeK (putK kvs p.1 p.2) r).length ≤ _
    rw [List.length_cons]; omega
theorem carries_of {P : Program} {w : World} : ∀ {kvs : List (Key × V)} {ws : List (Value × Value)}, VV (kvs.map fun kv => (kV kv.1, kv.2)) ws → ∃ rs, Carries (mixKind P w) ws rs ∧ KV kvs rs
  | [], _, r => by rw [List.map_nil] at r; cases r; exact ⟨[], True.intro, .nil⟩
  | p :: kvs, _, r => by
    rw [List.map_cons] at r
    cases r with
    | @cons a b as bs h t =>
      obtain ⟨rs, c, q⟩ := carries_of (P := P) (w := w) t
      obtain ⟨b1, b2⟩ := b
      exact ⟨(p.1, b2) :: rs, ⟨kV_is h.1, rfl, c⟩, .cons ⟨rfl, h.2⟩ q⟩
def tDisp (trs : List (TE × TE)) : TE := fun σ H Q => ∀ p, H p = none → tPairs trs σ (upd H p (.dK [])) fun ps H2 => H2 p = some (.dK []) ∧ ∃ kvs : List (Key × V), ps = kvs.map (fun kv => (kV kv.1, kv.2)) ∧ kvs.length ≤ 15 ∧ Q (.ref p) (upd H2 p (.dK (mergeK [] kvs)))
theorem pe_disp {X : Cx} {pos : Pos} {keys : List (Option Expr)} {values : List Expr} {trs : List (TE × TE)} (h : PPs X pos keys values trs) (hall : keys.all (·.isSome) = true) (hl : keys.length = values.length) (h0 : keys ≠ [])
    (h15 : keys.length ≤ 15) : PE X (.Dict keys values pos) (tDisp trs) := by
  intro pins s σ H Q I q
  have hn := I.hok.fresh (Nat.le_refl s.heap.objs.size)
  have I1 := I.laid (a := s.heap.objs.size) (o := .dK []) (h' := s.heap.push { cls := .type "dict", data := .dict #[] }) (t' := s.toks) (fun _ _ q => Heap.get?_push_of_some _ q) (Nat.le_refl _) (dk_empty s.heap I.big)
  refine wpAny_Dict_walk (knd := mixKind X.prog X.w) hall hl h0 h15 (thn (h pins _ σ _ _ I1 (q _ hn)) fun ws s2 ⟨ps, H2, I2, rel, e, kvs, ep, lk, q2⟩ => ?_)
  subst ep
  obtain ⟨rs, c, rk⟩ := carries_of (P := X.prog) (w := X.w) rel
  obtain ⟨z, hd, vs0, r0, dd⟩ := dk_of I2.hok e
  cases r0
  refine ⟨rs, c, dd, fun h' dd' hs => ⟨.ref s.heap.objs.size, _, ?_, rfl, q2⟩⟩
  have hz : (mergeK [] kvs).length ≤ sizeLine := by
    have h1 := length_mergeK kvs []
    rw [List.length_nil] at h1
    rw [sizeLine_eq]; omega
  have he : ∃ q, h'.get? s.heap.objs.size = some q := let ⟨q, _, _, hq, _⟩ := dd'; ⟨q, hq⟩
  exact d_write I2 (by rw [e]; exact True.intro) hs he (dk_new hz hd (rk.merge .nil) dd')
structure M1 (X : Cx) (o : Expr) (m : Str) (apos : Pos) (e : Expr) (cpos : Pos) : Prop where
  base : attributeBase o m X.env (eval o X.env) = eval o X.env
  few : ((backTo cpos (starEach [e] X.env)).all (fun x => !x.1) && (backToKw cpos (keywordEach [] X.env)).all (fun x => x.1.isSome)
    && decide (([e] : List Expr).length + ([] : List Keyword).length + (if ([] : List Keyword).isEmpty then 0 else 1) < 30)) = true
  line : (apos.endLine == cpos.line) = true
  trees : backTo cpos (starEach [e] X.env) = [(false, eval e X.env)]
structure M2 (X : Cx) (o : Expr) (m : Str) (apos : Pos) (e f : Expr) (cpos : Pos) : Prop where
  base : attributeBase o m X.env (eval o X.env) = eval o X.env
  few : ((backTo cpos (starEach [e, f] X.env)).all (fun x => !x.1) && (backToKw cpos (keywordEach [] X.env)).all (fun x => x.1.isSome)
    && decide (([e, f] : List Expr).length + ([] : List Keyword).length + (if ([] : List Keyword).isEmpty then 0 else 1) < 30)) = true
  line : (apos.endLine == cpos.line) = true
  trees : backTo cpos (starEach [e, f] X.env) = [(false, eval e X.env), (false, eval f X.env)]
section
variable {X : Cx} {pins : List (Addr × Obj)} {σ : St} {H : Hp} {s : Shared} {a : Addr} {y d : V} {u r : Value} {o : Option V} {A : Around} {E : Value → Shared → Prop}
end
section
variable {X : Cx} {o e f : Expr} {apos cpos : Pos} {td ty tx : TE}
end
section
variable {X : Cx} {pins : List (Addr × Obj)} {σ : St} {H : Hp} {s : Shared} {a : Addr} {kvs : List (Key × V)} {A : Around} {E : Value → Shared → Prop}
end
section
variable {X : Cx} {pins : List (Addr × Obj)} {σ : St} {H : Hp} {s : Shared} {a : Addr} {y : V} {u : Value} {A : Around} {E : Value → Shared → Prop}
end
end L2
namespace Att
open PySem PySem.W PySem.Calls PyProof.Rows
theorem ints_of_wellAll {P : Params} {h : Heap} : ∀ (ns : List Int) (vs : List Value), WellAll P h vs (ns.map WData.int) → IntsAre vs ns := by
  intro ns
  induction ns with
  | nil =>
    intro vs w
    rw [List.map_nil] at w
    cases w
    exact .nil
  | cons n ns ih =>
    intro vs w
    rw [List.map_cons] at w
    cases w with
    | cons a b =>
      cases a
      exact .cons _ _ (ih _ b)
theorem script_of {l : OpenLaw} {n : Nat} (hn : l.most = some n) {P : Params} {h : Heap} {args : List WData} {vals : List Value}
    (hpre : l.row.toRowW.claim.pre args = true) (hwl : WellAll P h vals args) :
    ∃ a vs ns, vals = [Value.ref a] ∧ args = [WData.list (ns.map WData.int)] ∧ h.get? a = some { cls := .type "list", data := .seq vs.toArray } ∧ IntsAre vs ns ∧ ns.length ≤ n := by
  have hsh : WShape.hasAll [] args [.list .int] = true := (pre_splitW hpre).1
  have hc : l.pre.holds [] { args := args } = true := (pre_splitW hpre).2
  obtain ⟨d, r, rfl, h1, h2⟩ := hasAllW_cons hsh
  obtain rfl := hasAllW_nil h2
  obtain ⟨xs, rfl, h3⟩ := hasW_list h1
  obtain ⟨ns, rfl⟩ := items_int h3
  have hlen : ns.length ≤ n := by
    unfold OpenLaw.pre at hc
    have h4 : (WTm.not (.lt (.lit (.int (n : Int))) (.len (.arg 0)))).holds [] { args := [.list (ns.map .int)] } = true := by
      have h4 := (holds_andW hc).1
      rw [hn] at h4
      exact h4
    have h5 := condW_of h4 (w_not (w_lt w_lit (w_len_list (w_arg rfl))))
    rw [List.length_map] at h5
    refine Nat.le_of_not_lt fun q => ?_
    have q' : (n : Int) < ((ns.length : Nat) : Int) := by omega
    first
      | (rw [decide_eq_true q'] at h5; exact absurd h5 (by decide))
      | (simp at h5; omega)
  cases hwl with
  | cons w1 w2 =>
    cases w2
    cases w1 with
    | list ho hall => exact ⟨_, _, ns, rfl, rfl, ho, ints_of_wellAll ns _ hall, hlen⟩
theorem post_true (l : OpenLaw) (args : List WData) : l.row.toRowW.claim.post args (.bool true) args = true :=
  postW_of (r := l.row.toRowW) (X := (true == true))
    (show WShape.has [] (.bool true) .bool = true by first | rfl | decide | simp [WShape.has, WShape.arms, WShape.armsAll])
    (show (WTm.eq .res (.lit (.bool true))).value [] { args := args, res := some (.bool true), after := args } = some (.bool (true == true)) from w_eq_bool (w_res rfl) w_lit) rfl
theorem attach_call {l : OpenLaw} {n : Nat} {q : Program} {loose : List Str} {XP : (Str → Option Value) → Heap → Prop} {YP : World → Heap → Prop} {d : DefRec}
    (hn : l.most = some n) (hdf : d.params.defaults = [])
    (call : ∀ (w : World) (s₀ s₁ : Shared) (mg mb : Str → Option Value) (fa : Addr) (o : Obj) (pm cd doc : Value) (a : Addr) (vs : List Value) (ns : List Int),
      Ground q loose [] XP w s₀ mg mb s₁.heap → YP w s₁.heap →
      s₁.heap.get? fa = some o → o.data = .func (docDef d.name d.params d.body d.scope pm cd doc) → s₁.heap.CodeRec cd d.name → mg d.name = some (.ref fa) →
      s₁.heap.get? a = some { cls := .type "list", data := .seq vs.toArray } → IntsAre vs ns → ns.length ≤ n → s₁.gens = #[] →
      codeAny (model l.prog w) callerA (.call (.ref fa) ⟨[.ref a], []⟩) (fun r s' => r = .ok (.ret (.bool true)) ∧ OldK s₁.heap s'.heap ∧ s'.os = s₁.os ∧ AllBare s'.gens) s₁) :
    WalkO q loose XP YP l.row.toRowW d [] (fun f vs => PySem.call f vs) := by
  intro w s₀ s₁ mg mb G Y fa o pm cd doc dV kV ho hd hcd hD hmg hg args vals as hpre hlay hrd hwl hlo
  obtain rfl : dV = .none := Dflts.none hD hdf
  obtain rfl : kV = .none := Dflts.noKw hD
  obtain ⟨a, vs, ns, rfl, rfl, hobj, hints, hlen⟩ := script_of hn hpre hwl
  refine enter_call (codeAny_mono (call w s₀ s₁ mg mb fa o pm cd doc a vs ns G Y ho (fd_plain hd) hcd hmg hobj hints hlen hg) fun r s' hq => ?_)
  obtain ⟨rfl, h2, h3, h4⟩ := hq
  exact ⟨.inl ⟨.bool true, .bool true, [], rfl, fun _ => rfl, .bool true, post_true l _, fun _ => ⟨List.Pairwise.nil, fun _ hm => (nomatch hm)⟩⟩, h2, h3, h4⟩
section
variable {prog : Program} {w : World} {A : Around} {E : Value → Shared → Prop} {s : Shared} {K : Frag}
end
end Att
namespace L2
open PySem PySem.Spec PyProof.Rows
theorem vals_ints : ∀ {vs : List Value} {ns : List Int}, IntsAre vs ns → Vals (ns.map V.int) vs
  | _, _, .nil => .nil
  | _, _, .cons n t h => .cons ⟨t, rfl⟩ (vals_ints h)
def Only (H : Hp) : Prop := ∀ b, H b = none ∨ ∃ o xs, H b = some (.frz o (.lst xs))
theorem law_call {P : Program} {w : World} {K : PySem.W.Frag} {mg mb : Str → Option Value} {CX : CXT} {k : Nat} {fa a : Addr} {fd : FuncData} {x : Str} {sp : Sp} {s₁ : Shared} {vs : List Value} {ns : List Int}
    (KX : K.In s₁.heap) (hns : s₁.heap.Ns mainGlobals mg) (hb : s₁.heap.Ns builtinsNs mb) (hbb : ∀ x : Str, x ≠ "__name__" → mb x = bootBuiltins x) (hlim : s₁.heap.NoLimit) (hbm : BmK mg s₁.heap) (hg : s₁.gens = #[])
    (ha : s₁.heap.get? a = some { cls := .type "list", data := .seq vs.toArray }) (hi : IntsAre vs ns) (hl : ns.length ≤ sizeLine) (hr : Room k callerA)
    (F : ∀ base : Heap, K.In base → base.Ns mainGlobals mg → FnOk P w K mg base CX k fa fd [x] sp) (hbind : ∀ (s : Shared) (u : Value), BindsTo s fd ⟨[u], []⟩ [(x, u)])
    (hsp : ∀ H : Hp, Only H → SqL K H a (ns.map V.int) → sp [.ref a] H (fun v _ => v = .bl true) fun _ _ _ => False)
    (hCX : ∀ H e s', CX callerA.handled [] H s₁ (fun _ _ _ => False) e s' → False) :
    codeAny (model P w) callerA (.call (.ref fa) ⟨[.ref a], []⟩) (fun r s' => r = .ok (.ret (.bool true)) ∧ OldK s₁.heap s'.heap ∧ s'.os = s₁.os ∧ AllBare s'.gens) s₁ := by
  have rv := vals_ints hi
  have lenV := hi.length
  -- from an abstract heap in which nothing but the script may be tracked
  have core : ∀ H : Hp, Only H → SqL K H a (ns.map V.int) → HOk P w H s₁.heap → (∀ b, H b ≠ none → b = a) → (H a ≠ none → K.lookup a = none) →
      codeAny (model P w) callerA (.call (.ref fa) ⟨[.ref a], []⟩) (fun r s' => r = .ok (.ret (.bool true)) ∧ OldK s₁.heap s'.heap ∧ s'.os = s₁.os ∧ AllBare s'.gens) s₁ := by
    intro H hO hS hok hA hK
    have base_of : ∀ {b : Addr} {o : Obj}, s₁.heap.get? b = some o → H b = none → (hidT s₁.heap H).get? b = some o := fun e n => hidT_get e n
    have noA : ∀ {b : Addr} {o : Obj} {es : Array DictEntry} {ep : Nat}, s₁.heap.get? b = some o → o.data = .dict es ep → H b = none := fun {b o es ep} e d => by
      cases q : H b with
      | none => rfl
      | some u =>
        have e' : b = a := hA b (by rw [q]; simp)
        subst e'
        rw [ha] at e; cases e
        have d' : Data.seq vs.toArray _ = Data.dict es ep := d
        cases d'
    have nsK : ∀ {b : Addr} {m : Str → Option Value}, s₁.heap.Ns b m → (hidT s₁.heap H).Ns b m := fun {b m} ⟨o, es, ep, e, d, r⟩ => ⟨o, es, ep, base_of e (noA e d), d, r⟩
    have hKb : K.In (hidT s₁.heap H) := fun b o e => base_of (KX b o e) (by
      cases q : H b with
      | none => rfl
      | some u =>
        have e' : b = a := hA b (by rw [q]; simp)
        subst e'
        rw [hK (by rw [q]; simp)] at e; cases e)
    have bmK : ∀ {m : Str → Option Value}, BmK m s₁.heap → BmK m (hidT s₁.heap H) := fun {m} ⟨bm, ob, e1, e2, e3, e4⟩ => ⟨bm, ob, e1, e2, base_of e3 (by
      cases q : H bm with
      | none => rfl
      | some u =>
        have e' : bm = a := hA bm (by rw [q]; simp)
        subst e'
        rw [ha] at e3; cases e3
        exact absurd (show Value.type "list" = Value.type "module" from e4.1) (by simp)), e4⟩
    have hM : Mod K mg (hidT s₁.heap H) := ⟨hKb, nsK hns, ⟨mb, nsK hb, hbb⟩, let ⟨mc, h1, h2⟩ := hlim; ⟨mc, nsK h1, h2⟩, bmK hbm⟩
    have e0 : Env0 P w K mg (hidT s₁.heap H) callerA [] s₁ H := ⟨rfl, hM, fun b o e => of_hidT e, Nat.le_of_eq (hidT_size _ _), trivial, fun b hb => absurd (show b ∈ ([] : List Addr) from hb) (by simp), hok, .of_eq hg, .inl rfl⟩
    refine codeAny_mono ((F _ hKb (nsK hns)).run callerA [] s₁ H ⟨[.ref a], []⟩ [.ref a] [.ref a] _ _ hr e0 (hbind s₁ (.ref a)) (.cons rfl .nil) (hsp H hO hS)) fun r s' h => ?_
    cases r with
    | error e => exact (hCX H e s' h).elim
    | ok fl =>
      cases fl with
      | next => exact False.elim h
      | brk => exact False.elim h
      | cont => exact False.elim h
      | ret u =>
        obtain ⟨v, H', os, bare, un, hok', r', q⟩ := h
        have q' : v = .bl true := q
        subst q'
        obtain rfl : u = Value.bool true := r'
        refine ⟨rfl, OldK.of_keep fun b o e => ?_, os, bare⟩
        cases q : H b with
        | none => exact un.keep b o e q (by intro z; exact absurd (show b ∈ ([] : List Addr) from z) (by simp)) (by simp)
        | some u =>
          rcases hO b with z | ⟨ob, xs, z⟩
          · rw [q] at z; cases z
          · have z2 := un.frzs b ob _ z
            obtain ⟨e1, _⟩ := hok b _ z
            obtain ⟨e2, _⟩ := hok' b _ z2
            rw [e] at e1; cases e1
            exact e2
  cases hk : K.lookup a with
  | some o =>
    -- the script is one of the module's own objects
    have e := KX a o hk
    rw [ha] at e
    cases e
    refine core (fun _ => none) (fun _ => .inl rfl) (.inr ⟨_, vs.toArray, _, hk, rfl, rfl, rfl, by rw [List.size_toArray, lenV]; exact hl, by simpa using rv⟩) (fun b u z => by have z' : (none : Option HO) = some u := z; cases z') (fun b z => absurd rfl z) fun z => absurd rfl z
  | none =>
    refine core (fun b => if b = a then some (.frz { cls := .type "list", data := .seq vs.toArray } (.lst (ns.map V.int))) else none) (fun b => ?_) (.inl (.inr ⟨{ cls := .type "list", data := .seq vs.toArray }, if_pos rfl⟩)) (fun b u z => ?_) (fun b z => ?_) fun _ => hk
    · by_cases hb : b = a
      · exact .inr ⟨_, _, if_pos hb⟩
      · exact .inl (if_neg hb)
    · by_cases hb : b = a
      · have z' := (if_pos hb).symm.trans z
        cases z'
        subst hb
        exact ⟨ha, by rw [List.length_map]; exact hl, vs, _, rv, ha⟩
      · have z' := (if_neg hb).symm.trans z
        cases z'
    · by_cases hb : b = a
      · exact hb
      · exact absurd (if_neg hb) z
end L2
namespace L2
open PySem PySem.Spec PyProof.Rows
abbrev KOf {K : PySem.W.Frag} {h : Heap} (_ : K.In h) : PySem.W.Frag := K
theorem walk_of {l : PySem.W.OpenLaw} {n k : Nat} {q : Program} {loose : List Str} {XP : (Str → Option Value) → Heap → Prop} {YP : World → Heap → Prop} {d : DefRec} {K : Params → PySem.W.Frag} {CX : World → CXT} {sp : World → Sp} {x : Str}
    (hn : l.most = some n) (hn2 : n ≤ sizeLine) (hdf : d.params.defaults = []) (hr : Room k callerA)
    (hY : ∀ (w : World) (h : Heap), YP w h → (K w.params).In h)
    (F : ∀ (w : World) (mg : Str → Option Value) (fa : Addr) (h : Heap), (K w.params).In h → h.Ns mainGlobals mg → mg d.name = some (.ref fa) →
      ∃ fd : FuncData, (∀ (s : Shared) (u : Value), BindsTo s fd ⟨[u], []⟩ [(x, u)]) ∧
        ∀ base : Heap, (K w.params).In base → base.Ns mainGlobals mg → FnOk l.prog w (K w.params) mg base (CX w) k fa fd [x] (sp w))
    (hsp : ∀ (w : World) (H : Hp) (a : Addr) (ns : List Int), ns.length ≤ n → Only H → SqL (K w.params) H a (ns.map V.int) → sp w [.ref a] H (fun v _ => v = .bl true) fun _ _ _ => False)
    (hCX : ∀ (w : World) (H : Hp) (s : Shared) (e : Value) (s' : Shared), CX w callerA.handled [] H s (fun _ _ _ => False) e s' → False) :
    PySem.W.WalkO q loose XP YP l.row.toRowW d [] (fun f vs => PySem.call f vs) := by
  refine Att.attach_call hn hdf fun w s₀ s₁ mg mb fa o pm cd doc a vs ns G Y ho hd hcd hmg hobj hints hlen hg => ?_
  have KX := hY w _ Y
  obtain ⟨fd, hb, hF⟩ := F w mg fa _ KX G.T.g hmg
  exact law_call KX G.T.g G.T.b G.T.builtins G.T.nolimit G.T.bmain hg hobj hints (Nat.le_trans hlen hn2) hr hF hb (fun H hO hS => hsp w H a ns hlen hO hS) fun H e s' => hCX w H s₁ e s'
end L2
namespace L2
open PySem PySem.Spec PyProof.Rows
def defArgs (s : Stmt) : Arguments := match s with
  | .FunctionDef _ a _ _ _ _ _ _ _ _ => a
  | _ => { posonlyargs := [], args := [], vararg := none, kwonlyargs := [], kw_defaults := [], kwarg := none, defaults := [] }
def defBody (s : Stmt) : List Stmt := match s with
  | .FunctionDef _ _ b _ _ _ _ _ _ _ => b
  | _ => []
def defScope (s : Stmt) : Scope := match s with
  | .FunctionDef _ _ _ _ _ _ sc _ _ _ => sc
  | _ => { kind := .function, names := [], isGenerator := false, isCoroutine := false }
abbrev CX0 : CXT := fun _ _ _ _ _ _ _ => False
abbrev E0 : XK := fun _ _ _ => False
theorem pass0 {X : Cx} : Passes CX0 X E0 := fun _ _ _ _ _ _ _ h => h.elim
structure Fun (K : PySem.W.Frag) (x qual : Str) (st : Stmt) (f : Addr) (fd : FuncData) : Prop where
  ex : ∃ (oc : Value) (od : Option Addr) (kV doc pm : Value) (an : Option Addr) (cdv ct : Value) (osl : Array (Option Value)),
    fd = PySem.W.fnOf x qual (defArgs st) (defBody st) (defScope st) .none kV doc pm an cdv ct ∧ K.lookup f = some ⟨oc, od, .func fd, osl⟩ ∧ PySem.W.codeIn K cdv qual = true
  kp : PySem.W.keepIn K (.ref f) = true
section
variable {P : Program} {w : World} {K : PySem.W.Frag} {mg : Str → Option Value} {base : Heap}
theorem Fun.ok {x qual : Str} {st : Stmt} {f : Addr} {fd : FuncData} {N ps : List Str} {k : Nat} {sp : Sp} (F : Fun K x qual st f fd) (S : FnScope N ps (defScope st)) (len : ∀ vs H Q E, sp vs H Q E → vs.length = ps.length)
    (hbody : ∀ (cdv : Value) (A : Around) (outer : List Env) (s : Shared) (H : Hp) (vs : List V) (Q : VK) (E : XK), Room k (A.deeper (envOfC qual (defScope st) s.heap.objs.size f cdv)) → sp vs H Q E →
      ∃ t, PSs (cxOf CX0 P w K mg base N qual (defScope st) f cdv A outer s H E).nox (defBody st) t ∧ t { nx := fun _ H' => Q .non H', rt := Q } (start N vs) H) : FnOk P w K mg base CX0 (k + 1) f fd ps sp := by
  obtain ⟨oc, od, kV, doc, pm, an, cdv, ct, osl, rfl, lk, hcd⟩ := F.ex
  refine fn_of lk hcd S len fun A outer s H vs Q E hr hsp => ?_
  obtain ⟨t, h, q⟩ := hbody cdv A outer s H vs Q E hr hsp
  exact ⟨t, h.nox, q⟩
theorem Fun.binds {x qual : Str} {st : Stmt} {f : Addr} {fd : FuncData} {ps : List Str} (F : Fun K x qual st f fd)
    (h : ∀ (kV doc pm : Value) (an : Option Addr) (cdv ct : Value) (us : List Value), us.length = ps.length → bindArgs (PySem.W.fnOf x qual (defArgs st) (defBody st) (defScope st) .none kV doc pm an cdv ct) ⟨us, []⟩ = pure (ps.zip us)) : Binds K fd ps [] := by
  obtain ⟨oc, od, kV, doc, pm, an, cdv, ct, osl, rfl, lk, hcd⟩ := F.ex
  exact .all (h kV doc pm an cdv ct)
theorem fun_mk {x qual : Str} {st : Stmt} {f : Addr} {oc : Value} {od an : Option Addr} {osl : Array (Option Value)} {kV doc pm cdv ct : Value} (l : K.lookup f = some ⟨oc, od, .func (PySem.W.fnOf x qual (defArgs st) (defBody st) (defScope st) .none kV doc pm an cdv ct), osl⟩)
    (c : PySem.W.codeIn K cdv qual = true) (k : PySem.W.keepIn K (.ref f) = true) : Fun K x qual st f (PySem.W.fnOf x qual (defArgs st) (defBody st) (defScope st) .none kV doc pm an cdv ct) := ⟨⟨oc, od, kV, doc, pm, an, cdv, ct, osl, rfl, l, c⟩, k⟩
end
theorem hu_of {A : Around} {k : Nat} (hr : Room k A) : A.units + 1 < cLine := Nat.lt_of_le_of_lt (Nat.add_le_add_left (by decide : 1 ≤ 64) _) hr.units
section
variable {X : Cx}
theorem pv (i : Nat) {x : Str} {pos : Pos} (hN : X.N[i]? = some x := by rfl) (hv : Vis X.env.scope x := by first | exact Or.inl rfl | exact Or.inr (Or.inl rfl) | exact Or.inr (Or.inr rfl)) (hd : (x == ("__debug__" : Str)) = false := by decide)
    (hcd : (x == ("__classdict__" : Str)) = false := by decide) : PE X (.Name x pos) (tVar i) := pe_var hN hv hd hcd
end
theorem iteF {A B : Prop} (h : B) : if false = true then A else B := by
  rw [if_neg Bool.false_ne_true]
  exact h
theorem iteT {A B : Prop} (h : A) : if true = true then A else B := by
  rw [if_pos rfl]
  exact h
theorem ite2 {c A B : Prop} [Decidable c] (h1 : c → A) (h2 : ¬ c → B) : if c then A else B := by
  by_cases h : c
  · rw [if_pos h]
    exact h1 h
  · rw [if_neg h]
    exact h2 h
def Same (H H' : Hp) : Prop := ∀ b o, H b = some o → H' b = some o
theorem Same.refl (H : Hp) : Same H H := fun _ _ h => h
theorem Same.trans {H H1 H2 : Hp} (a : Same H H1) (b : Same H1 H2) : Same H H2 := fun c o h => b c o (a c o h)
theorem Same.free {H H' : Hp} (e : Same H H') {l : Addr} (h : H' l = Option.none) : H l = Option.none := by
  cases q : H l with
  | none => rfl
  | some o =>
    rw [e l o q] at h
    cases h
end L2
namespace L2
open PySem PySem.Spec PyProof.Rows
section
variable {X : Cx}
end
section
variable {κ : Type} [DecidableEq κ]
theorem valV_in {kvs : List (κ × V)} {k : κ} {v : V} (h : valV kvs k = some v) : k ∈ kvs.map (·.1) := by
  have q : (kvs.any fun kv => decide (kv.1 = k)) = true := by
    rw [valV_any, h]
    all_goals rfl
  obtain ⟨p, hp, e⟩ := List.any_eq_true.mp q
  exact List.mem_map.mpr ⟨p, hp, of_decide_eq_true e⟩
end
end L2
end
section
namespace L3
open PySem PySem.Spec PyProof.Rows L2
def closedC (env : Env) : List (Str × NameKind) → List (Str × Addr) → List (Str × Addr)
  | [], cs => cs
  | (n, k) :: r, cs => closedC env r (if (k == .free) = true then (n, (env.cells.lookup n).getD 0) :: cs else cs)
theorem closedC_eq {env : Env} {scope : Scope} (h : ∀ x ∈ scope.names, x.2 = .free → ∃ c, env.cells.lookup x.1 = some c) : closureFor scope env = pure (closedC env scope.names []) := by
  unfold closureFor
  have go : ∀ (l : List (Str × NameKind)) (cs : List (Str × Addr)), (∀ x ∈ l, x.2 = .free → ∃ c, env.cells.lookup x.1 = some c) →
      (forIn l cs fun (x : Str × NameKind) (r : List (Str × Addr)) => if (x.2 == .free) = true then (do let a ← cellOf env x.1; pure (ForInStep.yield ((x.1, a) :: r))) else pure (ForInStep.yield r) : Sem (List (Str × Addr))) = pure (closedC env l cs) := by
    intro l
    induction l with
    | nil => intro cs _; rfl
    | cons x l ih =>
      intro cs hl
      obtain ⟨n, k⟩ := x
      have hr : ∀ y ∈ l, y.2 = .free → ∃ c, env.cells.lookup y.1 = some c := fun y hy => hl y (List.mem_cons_of_mem _ hy)
      rw [List.forIn_cons, closedC]
      by_cases hk : (k == NameKind.free) = true
      · obtain ⟨c, hc⟩ := hl (n, k) List.mem_cons_self (by simpa using hk)
        have hc : env.cells.lookup n = some c := hc
        have e : cellOf env n = pure c := by unfold cellOf; rw [hc]
        simp only [hk, if_true, e, pure_bind, hc, Option.getD_some]
        exact ih _ hr
      · simp only [hk, if_false, pure_bind]
        exact ih _ hr
  have q := go scope.names [] h
  simp only [bind_pure]
  exact q
theorem closedC_keep {env : Env} {x : Str} : ∀ (l : List (Str × NameKind)) (cs : List (Str × Addr)), (∃ c, cs.lookup x = some c) → ∃ c, (closedC env l cs).lookup x = some c
  | [], _, h => h
  | (n, k) :: r, cs, h => by
    rw [closedC]
    refine closedC_keep r _ ?_
    by_cases hk : (k == NameKind.free) = true
    · rw [if_pos hk, List.lookup_cons]
      cases x == n with
      | true => exact ⟨_, rfl⟩
      | false => exact h
    · rw [if_neg hk]; exact h
theorem closedC_has {env : Env} {x : Str} : ∀ (l : List (Str × NameKind)) (cs : List (Str × Addr)), (x, NameKind.free) ∈ l → ∃ c, (closedC env l cs).lookup x = some c
  | [], _, h => by cases h
  | (n, k) :: r, cs, h => by
    rw [closedC]
    rcases List.mem_cons.mp h with e | h
    · cases e
      refine closedC_keep r _ ?_
      rw [if_pos (by decide), List.lookup_cons, beq_self_eq_true]
      exact ⟨_, rfl⟩
    · exact closedC_has r _ h
theorem closedC_sound {env : Env} : ∀ (l : List (Str × NameKind)) (cs : List (Str × Addr)), (∀ x ∈ l, x.2 = .free → ∃ c, env.cells.lookup x.1 = some c) → (∀ x c, cs.lookup x = some c → env.cells.lookup x = some c) →
    ∀ x c, (closedC env l cs).lookup x = some c → env.cells.lookup x = some c
  | [], _, _, h => h
  | (n, k) :: r, cs, hl, h => by
    rw [closedC]
    refine closedC_sound r _ (fun y hy => hl y (List.mem_cons_of_mem _ hy)) fun x c e => ?_
    by_cases hk : (k == NameKind.free) = true
    · rw [if_pos hk, List.lookup_cons] at e
      cases hx : x == n with
      | true =>
        rw [hx] at e
        obtain rfl : x = n := by simpa using hx
        obtain ⟨c', hc'⟩ := hl (x, k) List.mem_cons_self (by simpa using hk)
        have hc' : env.cells.lookup x = some c' := hc'
        rw [hc'] at e ⊢
        exact e
      | false =>
        rw [hx] at e
        exact h x c e
    · rw [if_neg hk] at e
      exact h x c e
theorem relabel_free {env : Env} : ∀ {l : List (Str × NameKind)} {x : Str}, l.lookup x = some .free →
    (l.map fun (p : Str × NameKind) => if (p.2 == NameKind.free && env.scope.kind == .function && env.kindOf p.1 == some .cell) then (p.1, NameKind.cell) else (p.1, p.2)).lookup x = some .cell ∨
    (l.map fun (p : Str × NameKind) => if (p.2 == NameKind.free && env.scope.kind == .function && env.kindOf p.1 == some .cell) then (p.1, NameKind.cell) else (p.1, p.2)).lookup x = some .free
  | [], _, h => by simp at h
  | (n, k) :: r, x, h => by
    have ih := @relabel_free env r x
    rw [List.lookup_cons] at h
    rw [List.map_cons]
    by_cases hc : (k == NameKind.free && env.scope.kind == .function && env.kindOf n == some .cell) = true
    · simp only [hc, if_true]
      rw [List.lookup_cons]
      cases hx : x == n with
      | true => exact .inl rfl
      | false => rw [hx] at h; exact ih h
    · simp only [hc, Bool.false_eq_true, if_false]
      rw [List.lookup_cons]
      cases hx : x == n with
      | true => rw [hx] at h; exact .inr h
      | false => rw [hx] at h; exact ih h
theorem of_relabel {env : Env} : ∀ {l : List (Str × NameKind)} {x : Str}, (∀ y ∈ l, y.2 ≠ .cell) →
    ((l.map fun (p : Str × NameKind) => if (p.2 == NameKind.free && env.scope.kind == .function && env.kindOf p.1 == some .cell) then (p.1, NameKind.cell) else (p.1, p.2)).lookup x = some .cell ∨
    (l.map fun (p : Str × NameKind) => if (p.2 == NameKind.free && env.scope.kind == .function && env.kindOf p.1 == some .cell) then (p.1, NameKind.cell) else (p.1, p.2)).lookup x = some .free) → (x, NameKind.free) ∈ l
  | [], _, _, h => by simp at h
  | (n, k) :: r, x, hl, h => by
    have ih := @of_relabel env r x fun y hy => hl y (List.mem_cons_of_mem _ hy)
    rw [List.map_cons] at h
    by_cases hc : (k == NameKind.free && env.scope.kind == .function && env.kindOf n == some .cell) = true
    · simp only [hc, if_true] at h
      rw [List.lookup_cons] at h
      cases hx : x == n with
      | true =>
        obtain rfl : x = n := by simpa using hx
        have : k = .free := by simp only [Bool.and_eq_true] at hc; simpa using hc.1.1
        rw [this]
        exact List.mem_cons_self
      | false => rw [hx] at h; exact List.mem_cons_of_mem _ (ih h)
    · simp only [hc, Bool.false_eq_true, if_false] at h
      rw [List.lookup_cons] at h
      cases hx : x == n with
      | true =>
        rw [hx] at h
        obtain rfl : x = n := by simpa using hx
        rcases h with h | h
        · exact absurd (Option.some.inj h) (hl (x, k) List.mem_cons_self)
        · have : k = .free := Option.some.inj h
          rw [this]
          exact List.mem_cons_self
      | false => rw [hx] at h; exact List.mem_cons_of_mem _ (ih h)
abbrev blkEnv (X : Cx) (scope : Scope) (C : Addr) : Env := compEnvC scope (closedC X.env scope.names []) C X.env
abbrev blkCx (X : Cx) (N' : List Str) (scope : Scope) (s3 : Shared) (H3 : Hp) (fp : List Addr) : Cx :=
  { X with N := N', s₀ := s3, H₀ := H3, env := blkEnv X scope s3.heap.objs.size, outer := X.stack, stack := X.stack, ex := fp, fn := fun _ => false, pn := X.pn, xe := fun _ _ => False }
def blkSt (own : Nat) (fr : List Nat) (σ : L2.St) : L2.St := List.replicate own none ++ fr.map fun i => (σ[i]?).join
structure BlkScope (X : Cx) (N' : List Str) (own : Nat) (fr : List Nat) (scope : Scope) : Prop where
  kind : scope.kind = .function
  nocell : ∀ y ∈ scope.names, y.2 ≠ .cell
  loc : ∀ x ∈ scope.names, x.2 = .local → scope.names.lookup x.1 = some .local
  free : ∀ x ∈ scope.names, x.2 = .free → X.env.kindOf x.1 = some .cell ∨ X.env.kindOf x.1 = some .free
  len : N'.length = own + fr.length
  fr : ∀ j i, fr[j]? = some i → ∃ x, N'[own + j]? = some x ∧ X.N[i]? = some x ∧ scope.names.lookup x = some .free
theorem un_sameBut {fs ex : List Addr} {H H' : Hp} {h h1 h2 : Heap} {C : Addr} (u : Un fs ex H H' h h1) (hC : h.objs.size ≤ C) (hs : Heap.SameBut C h1 h2) : Un fs ex H H' h h2 := by
  have ne : ∀ b o, h.get? b = some o → b ≠ C := fun b o e => Nat.ne_of_lt (Nat.lt_of_lt_of_le (Heap.lt_size e) hC)
  refine ⟨fun b o e n hb hx => (hs.2 b (ne b o e)).trans (u.keep b o e n hb hx), fun b o e n hb hx => ?_, u.free, fun b o e hx => ?_, u.tups, u.frzs, u.tbls⟩
  · obtain ⟨sl, q⟩ := u.slot b o e n hb hx
    exact ⟨sl, (hs.2 b (ne b o e)).trans q⟩
  · obtain ⟨o', q⟩ := u.there b o e hx
    exact ⟨o', (hs.2 b (ne b o e)).trans q⟩
theorem hok_sameBut {P : Program} {w : World} {H : Hp} {h h2 : Heap} {C : Addr} (k : HOk P w H h) (hC : H C = none) (hs : Heap.SameBut C h h2) : HOk P w H h2 := fun b ob e => by
  refine (k b ob e).stay (fun c w' hc q => (hs.2 c ?_).trans q) (fun _ q => q) fun _ _ q => q
  rintro rfl
  rcases hc with rfl | hc
  · rw [hC] at e; cases e
  · rw [hC] at hc; cases hc
def PIf (Y : Cx) (ifs : List Expr) (tt : TT) : Prop :=
  ∀ (pins : List (Addr × Obj)) (s : Shared) (σ : L2.St) (H : Hp) (Q : Bool → Hp → Prop), Inv Y pins σ H s → tt σ H Q →
    wpAny (model Y.prog Y.w) Y.A (forIn ifs true fun c r => if r = true then do let ok ← isTrue c Y.env (eval c Y.env); pure (ForInStep.yield ok) else pure (ForInStep.yield r)) (TP Y pins σ Q) Y.xe s
def tYes : TT := fun _ H Q => Q true H
theorem pif_nil {Y : Cx} : PIf Y [] tYes := fun _ _ _ H _ I h => wpAny_tests_nil ⟨H, I, h⟩
theorem pif_one {Y : Cx} {c : Expr} {t : TT} (h : PT Y c t) : PIf Y [c] t := fun pins s σ H Q I hq => wpAny_tests_one (h pins s σ H Q I hq)
section
variable {prog : Program} {w : World} {A : Around} {R : Result → Shared → Prop} {s : Shared}
theorem compLoop_go {elt target iter : Expr} {ifs : List Expr} {scope : Scope} {pos : Pos} {it acc : Value} {env : Env} (J : Nat → Shared → Prop)
    (turn : ∀ n s, J n s → wpAny (model prog w) A (pyNext it) (fun r s₁ => match r with
      | none => R (.ok .next) s₁
      | some v => wpAny (model prog w) A (letOwnedTupleGo target it v) (fun _ s₀ => wpAny (model prog w) A (assign target env v) (fun _ s₂ =>
          wpAny (model prog w) A (forIn ifs true fun c r => if r = true then do let ok ← isTrue c env (eval c env); pure (ForInStep.yield ok) else pure (ForInStep.yield r)) (fun ok s₃ =>
            if ok = true then wpAny (model prog w) A (eval elt env) (fun x s₄ =>
              wpAny (model prog w) A (call (.builtin "list.append") [acc, x]) (fun _ s₅ => ∃ m, m < n ∧ J m s₅) (fun _ _ => False) s₄) (fun _ _ => False) s₃
            else ∃ m, m < n ∧ J m s₃) (fun _ _ => False) s₂) (fun _ _ => False) s₀) (fun _ _ => False) s₁) (fun _ _ => False) s)
    (n : Nat) (h : J n s) :
    codeAny (model prog w) A (.compLoop (.ListComp elt [⟨target, iter, ifs, 0⟩] scope pos) 0 it acc env) R s := by
  refine codeAny_loop rfl J (fun n s hJ => ?_) n h
  show wpAny _ A ((compTurn (.ListComp elt [⟨target, iter, ifs, 0⟩] scope pos) 0 it acc env).onRaise (fun x => do noteFrame x env; theTreesLotGoes x)) _ _ s
  refine wpAny_noted ?_
  rw [compTurn_list]
  have no : ∀ {α : Type} {m : Sem α} {Q : α → Shared → Prop} {E' : Value → Shared → Prop} {s' : Shared}, wpAny (model prog w) A m Q (fun _ _ => False) s' → wpAny (model prog w) A m Q E' s' := fun hm => wpAny_mono hm (fun _ _ q => q) fun _ _ f => f.elim
  refine wpAny_bind (wpAny_standAt (wpAny_bind (no (wpAny_mono (turn n s hJ) (fun r s₁ h₁ => ?_) fun _ _ h' => h'))))
  cases r with
  | none => exact wpAny_pure h₁
  | some v =>
    refine wpAny_bind (no (wpAny_mono h₁ (fun _ s₀ h₀ => wpAny_bind (no (wpAny_mono h₀ (fun _ s₂ h₂ => wpAny_bind (no (wpAny_mono h₂ (fun ok s₃ h₃ => ?_) fun _ _ h' => h'))) fun _ _ h' => h'))) fun _ _ h' => h'))
    cases ok with
    | false => exact wpAny_pure ⟨rfl, h₃⟩
    | true =>
      exact wpAny_bind (wpAny_bind (no (wpAny_mono h₃ (fun x s₄ h₄ => wpAny_bind (no (wpAny_mono h₄ (fun _ s₅ h₅ => wpAny_pure (wpAny_pure ⟨rfl, h₅⟩)) fun _ _ h' => h'))) fun _ _ h' => h')))
end
def Own (own : Nat) (g : TG) : Prop := ∀ v σ H Q, g v σ H Q → g v σ H fun σ4 H4 => Q σ4 H4 ∧ σ4.length = σ.length ∧ ∀ i, own ≤ i → σ4[i]? = σ[i]?
theorem own_name {own i : Nat} (h : i < own) : Own own (gName i) := fun v σ H Q q => ⟨q, by simp, fun j hj => List.getElem?_set_ne (by omega)⟩
theorem own_pair {own i j n : Nat} {K : PySem.W.Frag} (hi : i < own) (hj : j < own) : Own own (gTup K n (gCons (gName i) (gCons (gName j) gNil))) := by
  intro v σ H Q q
  obtain ⟨a, xs, e1, e2, e3, x, r, e4, y, r', e5, e6, q⟩ := q
  refine ⟨a, xs, e1, e2, e3, x, r, e4, y, r', e5, e6, q, by simp, fun k hk => ?_⟩
  rw [List.getElem?_set_ne (by omega), List.getElem?_set_ne (by omega)]
def tComp (own : Nat) (fr : List Nat) (wi : TI) (g : TG) (tt : TT) (te : TE) : TE := fun σ H Q => wi σ H fun J H1 => ∀ p, H1 p = none → ∃ W : Nat → Nat → List V → Hp → Prop,
  (∃ m, W 0 m [] (upd H1 p (.lst []))) ∧ ∀ i m acc H2, W i m acc H2 → (J.stop i H2 ∧ Q (.ref p) H2) ∨ (J.go i H2 ∧ ∀ x H3, J.yld i H2 x H3 → g x (blkSt own fr σ) H3 fun σ4 H4 => tt σ4 H4 fun ok H5 =>
    if ok = true then te σ4 H5 fun v H6 => H6 p = some (.lst acc) ∧ acc.length < sizeLine ∧ ∃ m', m' < m ∧ W (i + 1) m' (acc ++ [v]) (upd H6 p (.lst (acc ++ [v])))
    else ∃ m', m' < m ∧ W (i + 1) m' acc H5)
theorem blk_inv {X : Cx} {scope : Scope} {N' : List Str} {own : Nat} {fr : List Nat} {pins : List (Addr × Obj)} {σ : L2.St} {H3 : Hp} {s3 : Shared} {h4 : Heap} {fp : List Addr} {t4 : Nat} {m : Str → Option Value} (S : BlkScope X N' own fr scope)
    (I3 : Inv X pins σ H3 s3) (hfp : ∀ b ∈ fp, FpOk X pins H3 b ∧ b < s3.heap.objs.size) (keep : ∀ b o, s3.heap.get? b = some o → h4.get? b = some o) (hns : h4.Ns s3.heap.objs.size m) :
    Inv (blkCx X N' scope s3 H3 fp) [] (blkSt own fr σ) H3 { s3 with heap := h4, toks := t4 } := by
  have hcs : ∀ x ∈ scope.names, x.2 = .free → ∃ c, X.env.cells.lookup x.1 = some c := fun x hx e => I3.ok.has x.1 (S.free x hx e)
  have snd : ∀ x c, (closedC X.env scope.names []).lookup x = some c → X.env.cells.lookup x = some c := closedC_sound _ _ hcs fun x c e => by simp at e
  have ok : (blkCx X N' scope s3 H3 fp).Ok := by
    refine ⟨I3.ok.mod, S.kind, I3.ok.glob, I3.ok.blt, Nat.le_refl _, fun x y c e1 e2 => I3.ok.inj x y c (snd x c e1) (snd y c e2), fun x hx => closedC_has _ _ (of_relabel S.nocell hx), fun x c z => (by cases z), I3.ok.hd, I3.ok.frames, .inl rfl,
      fun b hb => ⟨Nat.ne_of_lt (hfp b hb).2, fun x c e => (hfp b hb).1.2.2.2.2.1 x c (snd x c e)⟩, I3.bs, Nat.le_trans I3.ok.bsz I3.sz, fun b o e hb => ?_, fun b hb hz => ?_, I3.stack, I3.stkFree⟩
    · rcases (hfp b hb).1.2.2.2.1 with z | z
      · exact I3.ok.noex b o e z
      · exact absurd (Nat.lt_of_lt_of_le (Heap.lt_size e) I3.ok.bsz) (Nat.not_lt.mpr z)
    · rcases List.mem_cons.mp (I3.stkSub b hz) with z | z
      · exact (hfp b hb).1.2.1 z
      · exact (hfp b hb).1.2.2.1 z
  refine ⟨ok, rfl, I3.bare, Un.kept keep, ⟨m, hns, fun i x v h1 h2 h3 => ?_⟩, fun x c e => ?_, I3.hok.fresh (Nat.le_refl _), fun x c e => I3.freeC x c (snd x c e), fun p hp => ?_, I3.hok.kept keep, ?_⟩
  · have h1 : N'[i]? = some x := h1
    have hi : ¬ i < own := fun z => by
      unfold blkSt at h2
      rw [List.getElem?_append_left (by simpa using z), List.getElem?_replicate] at h2
      split at h2 <;> cases h2
    obtain ⟨j, rfl⟩ : ∃ j, i = own + j := ⟨i - own, by omega⟩
    unfold blkSt at h2
    rw [List.getElem?_append_right (by simp), List.length_replicate, Nat.add_sub_cancel_left, List.getElem?_map] at h2
    cases ek : fr[j]? with
    | none => rw [ek] at h2; cases h2
    | some k =>
      rw [ek] at h2
      have h2 : (σ[k]?).join = some v := Option.some.inj h2
      have hσ : σ[k]? = some (some v) := by
        cases q : σ[k]? with
        | none => rw [q] at h2; cases h2
        | some w' => rw [q] at h2; exact congrArg some h2
      obtain ⟨x', e1, e2, e3⟩ := S.fr j k ek
      rw [h1] at e1
      cases e1
      have mem := PySem.mem_of_lookup e3
      have hk := S.free _ mem rfl
      obtain ⟨m3, hn3, hl3⟩ := I3.loc
      obtain ⟨u, r, look⟩ := hl3 k x v e2 hσ (.inr hk)
      rcases look with ⟨q, _⟩ | ⟨q, c, hc, o, ho, hd⟩
      · rcases hk with z | z
        · have z : X.env.kindOf x = some .cell := z
          rw [z] at q; cases q
        · have z : X.env.kindOf x = some .free := z
          rw [z] at q; cases q
      · obtain ⟨c', e'⟩ := closedC_has (env := X.env) scope.names [] mem
        have e'' := snd x c' e'
        rw [hc] at e''
        cases e''
        exact ⟨u, r, .inr ⟨relabel_free e3, c, e', o, keep _ _ ho, hd⟩⟩
  · obtain ⟨v, o, ho, hd⟩ := I3.cell x c (snd x c e)
    exact ⟨v, o, keep _ _ ho, hd⟩
  · obtain ⟨q1, q2, q3, q4, q5⟩ := I3.pin p (List.mem_append_left _ (by simpa using hp))
    refine ⟨keep _ _ q1, q2, Nat.ne_of_lt (Heap.lt_size q1), fun z => ?_, q5⟩
    rcases List.mem_cons.mp (I3.stkSub _ z) with z | z
    · exact q3 z
    · exact q4 z
  · show (blkSt own fr σ).length = N'.length
    unfold blkSt
    rw [S.len, List.length_append, List.length_replicate, List.length_map]
theorem pe_comp {X : Cx} {tg iter elt : Expr} {ifs : List Expr} {scope : Scope} {pos : Pos} {wi : TI} {g : TG} {tt : TT} {te : TE} {N' : List Str} {own : Nat} {fr : List Nat} (hc : X.calm = true)
    (S : BlkScope X N' own fr scope) (hi : PI X tg iter wi) (ho : Own own g) (hg : ∀ s3 H3 fp, PG (blkCx X N' scope s3 H3 fp) tg g) (hf : ∀ s3 H3 fp, PIf (blkCx X N' scope s3 H3 fp) ifs tt) (he : ∀ s3 H3 fp, PE (blkCx X N' scope s3 H3 fp) elt te)
    (hs : ∀ x, foldedSetIterable iter X.env x = pure x := by intro _; rfl) : PE X (.ListComp elt [⟨tg, iter, ifs, 0⟩] scope pos) (tComp own fr wi g tt te) := by
  intro pins s σ H Q I h
  have hcs : ∀ x ∈ scope.names, x.2 = .free → ∃ c, X.env.cells.lookup x.1 = some c := fun x hx e => I.ok.has x.1 (S.free x hx e)
  rw [eval_ListComp]
  refine wpAny_comprehension_free (use := none) rfl hs (closedC_eq hcs) S.kind S.loc ?_
  refine thn (hi pins s σ H _ I h) fun v s1 h1 => thn h1 fun itv s2 h2 => ?_
  obtain ⟨it, fp, tn, J, H2, e, I2, T, st2, f2, h2⟩ := h2
  subst e
  refine wpAny_newObj_type (hd := by size_fits) (wpAny_newFunctionEnv S.nocell (by intro y hy; simp at hy) (fun h4 hns hsb => ?_) S.kind)
  have hp0 := I2.hok.fresh (Nat.le_refl s2.heap.objs.size)
  obtain ⟨W, ⟨m0, w0⟩, turn⟩ := h2 _ hp0
  have I3 : Inv X pins σ (upd H2 s2.heap.objs.size (.lst [])) { s2 with heap := s2.heap.push { cls := .type "list", dict := none, data := .seq ([] : List Value).toArray }, toks := s2.toks } := I2.lnew .nil (Nat.zero_le _)
  have lt2 : ∀ b ∈ fp, b < s2.heap.objs.size := fun b hb => let ⟨o, e, _⟩ := T.obj _ _ st2 b hb; Heap.lt_size e
  have up2 : ∀ b o, s2.heap.get? b = some o → ∀ ob : Obj, (s2.heap.push ob).get? b = some o := fun b o e ob => Heap.get?_push_of_some _ e
  have sz3 : (s2.heap.push { cls := .type "list", dict := none, data := .seq ([] : List Value).toArray }).objs.size = s2.heap.objs.size + 1 := Heap.size_push ..
  revert hns hsb I3
  generalize e3 : s2.heap.push { cls := .type "list", dict := none, data := .seq ([] : List Value).toArray } = h3 at sz3 ⊢
  intro hns hsb I3
  have keep : ∀ b o, h3.get? b = some o → h4.get? b = some o := fun b o e => (hsb.2 b (Nat.ne_of_lt (Heap.lt_size e))).trans (Heap.get?_push_of_some _ e)
  have fp3 : ∀ b ∈ fp, FpOk X pins (upd H2 s2.heap.objs.size (.lst [])) b ∧ b < h3.objs.size := fun b hb => by
    refine ⟨⟨?_, (f2 b hb).2⟩, by rw [sz3]; exact Nat.lt_succ_of_lt (lt2 b hb)⟩
    rw [upd_ne (Nat.ne_of_lt (lt2 b hb))]
    exact (f2 b hb).1
  have I4 := blk_inv (t4 := s2.toks + ([] : List (Str × Value)).length) S I3 fp3 keep hns
  have tn4 : tn 0 h4 := T.keep _ _ _ st2 fun b hb o e => keep b o (by rw [← e3]; exact up2 b o e _)
  have stat : ∀ {H' : Hp}, (∀ b ∈ fp, H' b = none) → ∀ b ∈ fp, FpOk (blkCx X N' scope { s2 with heap := h3, toks := s2.toks } (upd H2 s2.heap.objs.size (.lst [])) fp) [] H' b := fun {H'} hn b hb =>
    ⟨hn b hb, Nat.ne_of_lt (fp3 b hb).2, fun z => I4.ok.exfs b hb z, .inl hb, (I4.ok.exf b hb).2, fun p hp => (f2 b hb).2.2.2.2.2 p (List.mem_append_left _ (by simpa using hp))⟩
  have loop : ∀ sx : Shared, Inv (blkCx X N' scope { s2 with heap := h3, toks := s2.toks } (upd H2 s2.heap.objs.size (.lst [])) fp) [] (blkSt own fr σ) (upd H2 s2.heap.objs.size (.lst [])) sx → tn 0 sx.heap →
      codeAny (model X.prog X.w) X.A (.compLoop (.ListComp elt [⟨tg, iter, ifs, 0⟩] scope pos) 0 (.ref it) (.ref s2.heap.objs.size) (blkEnv X scope h3.objs.size)) (compPost (model X.prog X.w) X.A X.xe none (EP X pins σ Q) (.ref s2.heap.objs.size) h3.objs.size) sx := by
    intro sx Ix tx
    refine compLoop_go (fun n s' => ∃ i acc H', Inv (blkCx X N' scope { s2 with heap := h3, toks := s2.toks } (upd H2 s2.heap.objs.size (.lst [])) fp) [] (blkSt own fr σ) H' s' ∧ tn i s'.heap ∧ (∀ b ∈ fp, H' b = none) ∧ W i n acc H') ?_ m0 ⟨0, [], _, Ix, tx, fun b hb => (fp3 b hb).1.1, w0⟩
    rintro n s5 ⟨i, acc, H5, I5, st5, fr5, w5⟩
    rcases turn i n acc H5 w5 with ⟨stop, qn⟩ | ⟨go, step⟩
    · refine thn (T.done (blkCx X N' scope { s2 with heap := h3, toks := s2.toks } (upd H2 s2.heap.objs.size (.lst [])) fp) rfl rfl rfl hc i [] s5 _ H5 (fun _ _ => False) I5 (stat fr5) st5 stop) fun r s6 ⟨hr, I6⟩ => ?_
      subst hr
      obtain ⟨m6, hm6, _⟩ := id I6.loc
      refine ⟨m6, hm6, fun h7 hs7 => ⟨.ref s2.heap.objs.size, H5, ?_, rfl, qn⟩⟩
      exact I3.call' (s' := { s6 with heap := h7 }) (ch := fp) I6.os (un_sameBut I6.base (Nat.le_refl _) hs7) (hok_sameBut I6.hok I6.free hs7) I6.bare fun b hb => ⟨(f2 b hb).2.2.2.1, (f2 b hb).2.1, (f2 b hb).2.2.2.2.1, (f2 b hb).2.2.2.2.2⟩
    · refine thn (T.item (blkCx X N' scope { s2 with heap := h3, toks := s2.toks } (upd H2 s2.heap.objs.size (.lst [])) fp) rfl rfl rfl hc i [] s5 _ H5 (fun _ _ => False) I5 (stat fr5) st5 go) fun r s6 ⟨u, hr, h6⟩ => ?_
      subst hr
      refine thn h6 fun _ s7 ⟨x, H7, I7, r7, y7, st7, fr7⟩ => ?_
      have I7' := I7.pinned (stat fr7) (T.obj _ _ st7)
      refine thn (hg _ _ _ _ s7 _ H7 x u _ I7' r7 (ho _ _ _ _ (step x H7 y7))) fun _ s8 ⟨σ8, H8, I8, q8, l8, k8⟩ => ?_
      have again : ∀ {H9 : Hp} {s9 : Shared}, Inv (blkCx X N' scope { s2 with heap := h3, toks := s2.toks } (upd H2 s2.heap.objs.size (.lst [])) fp) ([] ++ pinsAt fp s7.heap) σ8 H9 s9 →
          Inv (blkCx X N' scope { s2 with heap := h3, toks := s2.toks } (upd H2 s2.heap.objs.size (.lst [])) fp) [] (blkSt own fr σ) H9 s9 ∧ tn (i + 1) s9.heap ∧ ∀ b ∈ fp, H9 b = none := fun {H9 s9} I9 => by
        refine ⟨I9.unpinned.weak l8.symm fun j v e => ?_, T.keep _ _ _ st7 fun b hb o e => (I9.pin (b, o) (List.mem_append_right _ (List.mem_append_right _ (mem_pinsAt hb e)))).1, fun b hb => ?_⟩
        · have hj : own ≤ j := by
            refine Nat.le_of_not_lt fun z => ?_
            unfold blkSt at e
            rw [List.getElem?_append_left (by simpa using z), List.getElem?_replicate] at e
            split at e <;> cases e
          rw [k8 j hj]
          exact e
        · obtain ⟨o, e, _⟩ := T.obj _ _ st7 b hb
          exact (I9.pin (b, o) (List.mem_append_right _ (List.mem_append_right _ (mem_pinsAt hb e)))).2.1
      refine thn (hf _ _ _ _ s8 σ8 H8 _ I8 q8) fun ok s9 ⟨H9, I9, q9⟩ => ?_
      cases ok with
      | false =>
        obtain ⟨m', hm', w9⟩ := q9
        obtain ⟨a1, a2, a3⟩ := again I9
        exact ⟨m', hm', i + 1, acc, H9, a1, a2, a3, w9⟩
      | true =>
        refine thn (he _ _ _ _ s9 σ8 H9 _ I9 q9) fun y s10 ⟨v, H10, I10, r10, hD10, hl10, m', hm', w10⟩ => ?_
        refine thn (mt_append _ s10 σ8 H10 (.ref s2.heap.objs.size) [v] (.ref s2.heap.objs.size) [y] (fun _ Hn => Hn = upd H10 s2.heap.objs.size (.lst (acc ++ [v]))) I10 rfl (.cons r10 .nil) ⟨_, acc, v, rfl, rfl, hD10, hl10, rfl⟩) fun _ s11 ⟨_, H11, I11, _, e11⟩ => ?_
        subst e11
        obtain ⟨a1, a2, a3⟩ := again I11
        exact ⟨m', hm', i + 1, acc ++ [v], _, a1, a2, a3, w10⟩
  exact codeAny_compStart_list (loop _ I4 tn4) (wpAny_mono (T.self X.A 0 _ (fun v s' => v = .ref it ∧ s' = _) (fun _ _ => False) tn4 ⟨rfl, rfl⟩) (fun v s' ⟨e1, e2⟩ => by subst e1; subst e2; exact loop _ I4 tn4) fun _ _ f => f.elim)
def Nx (n i : Nat) (P : Prop) : Prop := ∃ m', m' < n - i ∧ m' = n - (i + 1) ∧ i + 1 ≤ n ∧ P
theorem nx {n i : Nat} {P : Prop} (h : i < n) (p : P) : Nx n i P := ⟨n - (i + 1), by omega, rfl, h, p⟩
theorem comp_by {J : It} {p : Addr} {H1 : Hp} {g : TG} {tt : TT} {te : TE} {b : L2.St} {Q : VK} (n : Nat) (Pv : Nat → List V → Hp → Prop) (h0 : Pv 0 [] (upd H1 p (.lst [])))
    (hgo : ∀ i acc H2, i < n → Pv i acc H2 → J.go i H2 ∧ ∀ x H3, J.yld i H2 x H3 → g x b H3 fun σ4 H4 => tt σ4 H4 fun ok H5 =>
      if ok = true then te σ4 H5 fun v H6 => H6 p = some (.lst acc) ∧ acc.length < sizeLine ∧ Nx n i (Pv (i + 1) (acc ++ [v]) (upd H6 p (.lst (acc ++ [v])))) else Nx n i (Pv (i + 1) acc H5))
    (hd : ∀ acc H2, Pv n acc H2 → J.stop n H2 ∧ Q (.ref p) H2) :
    ∃ W : Nat → Nat → List V → Hp → Prop, (∃ m, W 0 m [] (upd H1 p (.lst []))) ∧ ∀ i m acc H2, W i m acc H2 → (J.stop i H2 ∧ Q (.ref p) H2) ∨ (J.go i H2 ∧ ∀ x H3, J.yld i H2 x H3 → g x b H3 fun σ4 H4 => tt σ4 H4 fun ok H5 =>
      if ok = true then te σ4 H5 fun v H6 => H6 p = some (.lst acc) ∧ acc.length < sizeLine ∧ ∃ m', m' < m ∧ W (i + 1) m' (acc ++ [v]) (upd H6 p (.lst (acc ++ [v]))) else ∃ m', m' < m ∧ W (i + 1) m' acc H5) := by
  refine ⟨fun i m acc H => m = n - i ∧ i ≤ n ∧ Pv i acc H, ⟨n, by simp, Nat.zero_le _, h0⟩, ?_⟩
  rintro i m acc H2 ⟨rfl, hi, w⟩
  by_cases hlt : i < n
  · exact .inr (hgo i acc H2 hlt w)
  · obtain rfl : i = n := by omega
    exact .inl (hd acc H2 w)
end L3
end
section
namespace L3
open PySem L2
section
variable {prog : Program} {w : World} {A : Around} {E : Value → Shared → Prop} {s : Shared}
theorem nx_tup {it t : Addr} {i : Nat} {its : Array Value} {x : Value} {Q : Value → Shared → Prop} (gi : s.heap.IsTupleIter it t i) (gt : s.heap.IsTuple t its) (gx : its[i]? = some x)
    (hQ : ∀ h', h'.IsTupleIter it t (i + 1) → Heap.SameBut it s.heap h' → Q x { s with heap := h' }) : wpAny (model prog w) A (Builtin.SmallTypes.nextOf (.ref it)) Q E s := by
  obtain ⟨oi, ei, ci, di⟩ := id gi
  obtain ⟨ot, et, _, nt, dt⟩ := gt
  unfold Builtin.SmallTypes.nextOf
  refine wpAny_bind (wpAny_callSpecial?_slot (name := Str.ofString "__next__") gi.typeIs F.slot_tuple_iterator_next (wpAny_call_entry F.slot_tuple_iterator_next gi.typeIs F.entry_tuple_iterator_next ?_ (F.args_tuple_iterator_next_1 _)))
  show wpAny (model prog w) _ (field (.ref it) 0 >>= _) _ _ s
  refine wpAny_bind (wpAny_field ei di (x := .ref t) rfl ?_)
  show wpAny (model prog w) _ (if (Value.ref t == Value.none) = true then _ else _) _ _ s
  rw [if_neg (show ¬ (Value.ref t == Value.none) = true from Bool.false_ne_true)]
  show wpAny (model prog w) _ (field (.ref it) 1 >>= _) _ _ s
  refine wpAny_bind (wpAny_field ei di (x := .int i 0) rfl ?_)
  show wpAny (model prog w) _ (seqItems? (.ref t) >>= _) _ _ s
  refine wpAny_bind (wpAny_seqItems et dt ?_)
  simp only [Int.toNat_natCast, gx]
  refine wpAny_bind (wpAny_setField ei di (by simp) (wpAny_pure ⟨x, rfl, wpAny_pure (hQ _ ?_ (Heap.SameBut.update ..))⟩))
  refine ⟨_, Heap.get?_update_self _ ei (Obj.isFreed_of_fields (Obj.data_mapFields di _)), (Obj.cls_mapFields ..).trans ci, ?_⟩
  rw [Obj.data_mapFields di]
  simp [rawInt]
theorem nx_tup_end {it t : Addr} {i : Nat} {its : Array Value} {Q : Value → Shared → Prop} (hb : HB s.heap A) (na : ∀ a, A.handled = some (.ref a) → a ≠ it) (gi : s.heap.IsTupleIter it t i) (gt : s.heap.IsTuple t its) (gx : its[i]? = none)
    (hE : ∀ h' e, Heap.ExtBut it s.heap h' → (∃ o, h'.get? e = some o ∧ o.cls = .type "StopIteration") → E (.ref e) { s with heap := h' }) : wpAny (model prog w) A (Builtin.SmallTypes.nextOf (.ref it)) Q E s := by
  obtain ⟨oi, ei, ci, di⟩ := id gi
  obtain ⟨ot, et, _, nt, dt⟩ := gt
  unfold Builtin.SmallTypes.nextOf
  refine wpAny_bind (wpAny_callSpecial?_slot (name := Str.ofString "__next__") gi.typeIs F.slot_tuple_iterator_next (wpAny_call_entry F.slot_tuple_iterator_next gi.typeIs F.entry_tuple_iterator_next ?_ (F.args_tuple_iterator_next_1 _)))
  show wpAny (model prog w) _ (field (.ref it) 0 >>= _) _ _ s
  refine wpAny_bind (wpAny_field ei di (x := .ref t) rfl ?_)
  show wpAny (model prog w) _ (if (Value.ref t == Value.none) = true then _ else _) _ _ s
  rw [if_neg (show ¬ (Value.ref t == Value.none) = true from Bool.false_ne_true)]
  show wpAny (model prog w) _ (field (.ref it) 1 >>= _) _ _ s
  refine wpAny_bind (wpAny_field ei di (x := .int i 0) rfl ?_)
  show wpAny (model prog w) _ (seqItems? (.ref t) >>= _) _ _ s
  refine wpAny_bind (wpAny_seqItems et dt ?_)
  simp only [Int.toNat_natCast, gx]
  refine wpAny_bind (wpAny_rule (wpAny_bind (wpAny_setField ei di (by simp) ?_)))
  exact stop_made (A := A.in1) (hb.upd na) fun h' e k he => hE h' e (ext_upd k) he
end
theorem draws_tup {prog : Program} {w : World} {A : Around} (it t : Addr) (ne : t ≠ it) (na : ∀ a, A.handled = some (.ref a) → a ≠ it) (its : Array Value) :
    Draws prog w A it (it :: t :: hAdr A) its.size (fun i v => its[i]? = some v) (fun i h => h.IsTupleIter it t i ∧ h.IsTuple t its ∧ HB h A) where
  live := fun _ _ st => let ⟨o, ho, _⟩ := st.1; ⟨o, ho⟩
  frame := fun i h h' st hk => by
    obtain ⟨⟨o1, e1, r1⟩, ⟨o2, e2, r2⟩, hb⟩ := st
    exact ⟨⟨o1, hk it (by simp) o1 e1, r1⟩, ⟨o2, hk t (by simp) o2 e2, r2⟩, hb.frame fun b hb => hk b (by simp [hb])⟩
  item := fun i s Q E hi st hQ => by
    refine nx_tup st.1 st.2.1 (x := its[i]) (by simp [hi]) fun h' k1 k2 => ?_
    exact hQ _ h' s.toks (by simp [hi]) ⟨k1, st.2.1.extBut k2.extBut ne, st.2.2.mono fun a o ea eo => k2.extBut a o (na a ea) eo⟩ k2
  done := fun s Q E st hE => nx_tup_end st.2.2 na st.1 st.2.1 (by simp) hE
structure ZApart (z TI TO i1 i2 : Nat) (f1 f2 : List Nat) : Prop where
  TIz : TI ≠ z
  TOz : TO ≠ z
  TITO : TI ≠ TO
  TI1 : TI ≠ i1
  TI2 : TI ≠ i2
  TO1 : TO ≠ i1
  TO2 : TO ≠ i2
  i1z : i1 ≠ z
  i2z : i2 ≠ z
  zf1 : z ∉ f1
  zf2 : z ∉ f2
  Tf1 : TO ∉ f1
  Tf2 : TO ∉ f2
  i2f1 : i2 ∉ f1
  i1f2 : i1 ∉ f2
section
variable {prog : Program} {w : World} {A : Around} {E : Value → Shared → Prop} {s : Shared}
variable {z TI TO i1 i2 : Addr} {f1 f2 : List Addr} {n1 n2 : Nat} {P1 P2 : Nat → Value → Prop} {S1 S2 : Nat → Heap → Prop}
theorem zip_stepD {i : Nat} {a b : Value} {Q : Value → Shared → Prop} (D1 : Draws prog w A i1 f1 n1 P1 S1) (D2 : Draws prog w A i2 f2 n2 P2 S2) (ap : ZApart z TI TO i1 i2 f1 f2)
    (gz : IsZip s.heap z TI TO .none) (gTI : IsPair s.heap TI (.ref i1) (.ref i2)) (gTO : IsPair s.heap TO a b) (s1 : S1 i s.heap) (s2 : S2 i s.heap) (l1 : i < n1) (l2 : i < n2)
    (hQ : ∀ x y h' tk, P1 i x → P2 i y → IsZip h' z TI TO (rawInt s.heap.objs.size) → IsPair h' TO x y → S1 (i + 1) h' → S2 (i + 1) h' → IsPair h' s.heap.objs.size x y →
      (∀ c o, c ≠ z → c ≠ TO → c ≠ i1 → c ≠ i2 → s.heap.get? c = some o → h'.get? c = some o) → Q (.ref s.heap.objs.size) { s with heap := h', toks := tk }) :
    wpAny (model prog w) A (Builtin.«zip.__next__» ⟨[.ref z], []⟩) (fun fin s' => ∃ v, fin = .done (.ret v) ∧ Q v s') E s := by
  have fr1 : ∀ {k : Nat} {h h' : Heap} {c : Addr}, c ∉ f1 → Heap.SameBut c h h' → S1 k h → S1 k h' := fun {k h h' c} hc sb st => D1.frame _ _ _ st fun q hq o e => (sb.2 q fun z => hc (z ▸ hq)).trans e
  have fr2 : ∀ {k : Nat} {h h' : Heap} {c : Addr}, c ∉ f2 → Heap.SameBut c h h' → S2 k h → S2 k h' := fun {k h h' c} hc sb st => D2.frame _ _ _ st fun q hq o e => (sb.2 q fun z => hc (z ▸ hq)).trans e
  show wpAny (model prog w) _ (field (.ref z) 2 >>= _) _ _ _
  refine wpAny_bind (wpAny_field gz rfl (x := .bool false) rfl ?_)
  show wpAny (model prog w) _ (field (.ref z) 3 >>= _) _ _ _
  refine wpAny_bind (wpAny_field gz rfl (x := .ref TI) rfl ?_)
  refine wpAny_bind (wpAny_seqItems gTI rfl ?_)
  show wpAny (model prog w) _ (Builtin.SmallTypes.ownedTupleIsFree (.ref z) >>= _) _ _ _
  refine wpAny_bind ?_
  unfold Builtin.SmallTypes.ownedTupleIsFree
  refine wpAny_bind (wpAny_field gz rfl (x := .none) rfl (wpAny_pure ?_))
  simp only [if_true]
  refine wpAny_bind (wpAny_rule ?_)
  refine wpAny_bind (wpAny_field gz rfl (x := .ref TO) rfl ?_)
  refine wpAny_bind (wpAny_setField_rec gz (by simp) fun k1 z1 b1 => ?_)
  replace z1 : IsZip k1 z TI TO .ellipsis := z1
  refine wpAny_bind ?_
  simp only [List.zipIdx_cons, List.zipIdx_nil, List.forIn_cons, List.forIn_nil]
  refine wpAny_bind (wpAny_bind (wpAny_onRaise ?_))
  show wpAny (model prog w) _ (Builtin.SmallTypes.nextOf (.ref i1) >>= _) _ _ _
  refine wpAny_bind (D1.item i _ _ _ l1 (fr1 ap.zf1 b1 s1) fun x k2 t2 px q2 b2 => wpAny_pure ?_)
  have o2 : IsPair k2 TO a b := b2.extBut _ _ ap.TO1 (b1.extBut _ _ ap.TOz gTO)
  refine wpAny_bind (wpAny_seqItems o2 rfl ?_)
  refine wpAny_bind (wpAny_updateSeq_pair o2 fun k3 o3 b3 => ?_)
  replace o3 : IsPair k3 TO x b := o3
  refine wpAny_bind (wpAny_letGo (wpAny_pure ?_))
  refine wpAny_bind (wpAny_bind (wpAny_onRaise ?_))
  show wpAny (model prog w) _ (Builtin.SmallTypes.nextOf (.ref i2) >>= _) _ _ _
  refine wpAny_bind (D2.item i _ _ _ l2 (fr2 ap.Tf2 b3 (fr2 ap.i1f2 b2 (fr2 ap.zf2 b1 s2))) fun y k4 t4 py q4 b4 => wpAny_pure ?_)
  have o4 : IsPair k4 TO x b := b4.extBut _ _ ap.TO2 o3
  refine wpAny_bind (wpAny_seqItems o4 rfl ?_)
  refine wpAny_bind (wpAny_updateSeq_pair o4 fun k5 o5 b5 => ?_)
  replace o5 : IsPair k5 TO x y := o5
  refine wpAny_bind (wpAny_letGo (wpAny_pure (wpAny_pure ?_)))
  refine wpAny_bind (wpAny_seqItems o5 rfl ?_)
  refine wpAny_bind (wpAny_newTuple ?_)
  have sz : k5.objs.size = s.heap.objs.size := by rw [b5.1, b4.1, b3.1, b2.1, b1.1]
  have z5 : IsZip k5 z TI TO .ellipsis := b5.extBut _ _ ap.TOz.symm (b4.extBut _ _ ap.i2z.symm (b3.extBut _ _ ap.TOz.symm (b2.extBut _ _ ap.i1z.symm z1)))
  have kp : ∀ c o, c ≠ z → c ≠ TO → c ≠ i1 → c ≠ i2 → s.heap.get? c = some o → k5.get? c = some o := fun c o c1 c2 c3 c4 e =>
    b5.extBut _ _ c2 (b4.extBut _ _ c4 (b3.extBut _ _ c2 (b2.extBut _ _ c3 (b1.extBut _ _ c1 e))))
  have q1' : S1 (i + 1) k5 := fr1 ap.Tf1 b5 (fr1 ap.i2f1 b4 (fr1 ap.Tf1 b3 q2))
  have q2' : S2 (i + 1) k5 := fr2 ap.Tf2 b5 q4
  have lz : z < k5.objs.size := Heap.lt_size z5
  show wpAny (model prog w) _ (Builtin.SmallTypes.ownedTupleHandOut (.ref z) (.ref k5.objs.size) >>= _) _ _ _
  refine wpAny_bind ?_
  unfold Builtin.SmallTypes.ownedTupleHandOut
  have z6 : IsZip (k5.push { cls := .type "tuple", data := .seq #[x, y] }) z TI TO .ellipsis := Heap.get?_push_of_some _ z5
  refine wpAny_bind (wpAny_setField_rec z6 (by simp) fun k7 z7 b7 => ?_)
  replace z7 : IsZip k7 z TI TO (rawInt k5.objs.size) := z7
  refine wpAny_setField_rec z7 (by simp) fun k8 z8 b8 => ?_
  replace z8 : IsZip k8 z TI TO (rawInt k5.objs.size) := z8
  have up : ∀ c o, c ≠ z → k5.get? c = some o → k8.get? c = some o := fun c o c1 e => b8.extBut _ _ c1 (b7.extBut _ _ c1 (Heap.get?_push_of_some _ e))
  have t8 : IsPair k8 k5.objs.size x y := b8.extBut _ _ (Nat.ne_of_gt lz) (b7.extBut _ _ (Nat.ne_of_gt lz) (Heap.get?_push_size _ rfl))
  rw [sz] at z8 t8
  refine wpAny_pure ⟨_, rfl, ?_⟩
  show Q (.ref k5.objs.size) _
  rw [sz]
  exact hQ x y k8 _ px py z8 (up _ _ ap.TOz o5) (D1.frame _ _ _ q1' fun q hq o e => up q o (fun z => ap.zf1 (z ▸ hq)) e) (D2.frame _ _ _ q2' fun q hq o e => up q o (fun z => ap.zf2 (z ▸ hq)) e) t8 fun c o c1 c2 c3 c4 e => up c o c1 (kp c o c1 c2 c3 c4 e)
theorem zip_doneD {a b : Value} {Q : Fin → Shared → Prop} (D1 : Draws prog w A i1 f1 n1 P1 S1) (ap : ZApart z TI TO i1 i2 f1 f2)
    (gz : IsZip s.heap z TI TO .none) (gTI : IsPair s.heap TI (.ref i1) (.ref i2)) (gTO : IsPair s.heap TO a b) (s1 : S1 n1 s.heap)
    (hE : ∀ h' e, (∀ c o, c ≠ z → c ≠ TO → c ≠ i1 → c ≠ i2 → s.heap.get? c = some o → h'.get? c = some o) → (∃ o, h'.get? e = some o ∧ o.cls = .type "StopIteration") → E (.ref e) { s with heap := h' }) :
    wpAny (model prog w) A (Builtin.«zip.__next__» ⟨[.ref z], []⟩) Q E s := by
  show wpAny (model prog w) _ (field (.ref z) 2 >>= _) _ _ _
  refine wpAny_bind (wpAny_field gz rfl (x := .bool false) rfl ?_)
  show wpAny (model prog w) _ (field (.ref z) 3 >>= _) _ _ _
  refine wpAny_bind (wpAny_field gz rfl (x := .ref TI) rfl ?_)
  refine wpAny_bind (wpAny_seqItems gTI rfl ?_)
  show wpAny (model prog w) _ (Builtin.SmallTypes.ownedTupleIsFree (.ref z) >>= _) _ _ _
  refine wpAny_bind ?_
  unfold Builtin.SmallTypes.ownedTupleIsFree
  refine wpAny_bind (wpAny_field gz rfl (x := .none) rfl (wpAny_pure ?_))
  simp only [if_true]
  refine wpAny_bind (wpAny_rule ?_)
  refine wpAny_bind (wpAny_field gz rfl (x := .ref TO) rfl ?_)
  refine wpAny_bind (wpAny_setField_rec gz (by simp) fun k1 z1 b1 => ?_)
  replace z1 : IsZip k1 z TI TO .ellipsis := z1
  refine wpAny_bind ?_
  simp only [List.zipIdx_cons, List.zipIdx_nil, List.forIn_cons, List.forIn_nil]
  refine wpAny_bind (wpAny_bind (wpAny_onRaise ?_))
  show wpAny (model prog w) _ (Builtin.SmallTypes.nextOf (.ref i1) >>= _) _ _ _
  refine wpAny_bind (D1.done _ _ _ (D1.frame _ _ _ s1 fun q hq o e => (b1.2 q fun y => ap.zf1 (y ▸ hq)).trans e) fun k2 e b2 he => ?_)
  obtain ⟨oe, ee, ce⟩ := he
  have z2 : IsZip k2 z TI TO .ellipsis := b2 _ _ ap.i1z.symm z1
  have nz : e ≠ z := fun q => by
    subst q
    rw [z2] at ee
    cases ee
    simp at ce
  refine wpAny_setField_rec z2 (by simp) fun k3 _ b3 => hE k3 e (fun c o c1 _ c3 _ q => b3.extBut _ _ c1 (b2 _ _ c3 (b1.extBut _ _ c1 q))) ⟨oe, b3.extBut _ _ nz ee, ce⟩
theorem zip_nextD {i : Nat} {a b : Value} {Q : Option Value → Shared → Prop} (D1 : Draws prog w A.in1 i1 f1 n1 P1 S1) (D2 : Draws prog w A.in1 i2 f2 n2 P2 S2) (ap : ZApart z TI TO i1 i2 f1 f2)
    (gz : IsZip s.heap z TI TO .none) (gTI : IsPair s.heap TI (.ref i1) (.ref i2)) (gTO : IsPair s.heap TO a b) (s1 : S1 i s.heap) (s2 : S2 i s.heap) (l1 : i < n1) (l2 : i < n2)
    (hQ : ∀ x y h' tk, P1 i x → P2 i y → IsZip h' z TI TO (rawInt s.heap.objs.size) → IsPair h' TO x y → S1 (i + 1) h' → S2 (i + 1) h' → IsPair h' s.heap.objs.size x y →
      (∀ c o, c ≠ z → c ≠ TO → c ≠ i1 → c ≠ i2 → s.heap.get? c = some o → h'.get? c = some o) → Q (some (.ref s.heap.objs.size)) { s with heap := h', toks := tk }) :
    wpAny (model prog w) A (pyNext (.ref z)) Q E s := by
  have ty : s.TypeIs (.ref z) "zip" := ⟨_, gz, rfl⟩
  unfold pyNext
  refine wpAny_bind (wpAny_attempt (wpAny_callSpecial?_slot (name := Str.ofString "__next__") ty F.slot_zip_next (wpAny_call_entry F.slot_zip_next ty F.entry_zip_next ?_ (F.args_zip_next_1 _))))
  exact zip_stepD D1 D2 ap gz gTI gTO s1 s2 l1 l2 fun x y h' tk a1 a2 a3 a4 a5 a6 a7 a8 => wpAny_pure (hQ x y h' tk a1 a2 a3 a4 a5 a6 a7 a8)
theorem zip_stopD {a b : Value} {Q : Option Value → Shared → Prop} (D1 : Draws prog w A.in1 i1 f1 n1 P1 S1) (ap : ZApart z TI TO i1 i2 f1 f2)
    (gz : IsZip s.heap z TI TO .none) (gTI : IsPair s.heap TI (.ref i1) (.ref i2)) (gTO : IsPair s.heap TO a b) (s1 : S1 n1 s.heap)
    (hQ : ∀ h', (∀ c o, c ≠ z → c ≠ TO → c ≠ i1 → c ≠ i2 → s.heap.get? c = some o → h'.get? c = some o) → Q none { s with heap := h' }) : wpAny (model prog w) A (pyNext (.ref z)) Q E s := by
  have ty : s.TypeIs (.ref z) "zip" := ⟨_, gz, rfl⟩
  unfold pyNext
  refine wpAny_bind (wpAny_attempt (wpAny_callSpecial?_slot (name := Str.ofString "__next__") ty F.slot_zip_next (wpAny_call_entry F.slot_zip_next ty F.entry_zip_next (zip_doneD D1 ap gz gTI gTO s1 fun h' e hk he => ?_) (F.args_zip_next_1 _))))
  obtain ⟨o, ho, hc⟩ := he
  refine wpAny_bind (wpAny_isInstance (T := "StopIteration") (b := true) ⟨o, ho, hc⟩ isSubtype_stop (wpAny_pure (hQ _ hk)))
end
abbrev zt1 (h : Heap) (a : Addr) : Heap := h.push { cls := .type "tuple_iterator", data := .fields #[.ref a, .int 0 0] }
abbrev zt2 (h : Heap) (a b : Addr) : Heap := (zt1 h a).push { cls := .type "tuple_iterator", data := .fields #[.ref b, .int 0 0] }
abbrev zt3 (h : Heap) (a b : Addr) : Heap := (zt2 h a b).push { cls := .type "tuple", data := .seq #[.ref h.objs.size, .ref (zt1 h a).objs.size] }
abbrev zt4 (h : Heap) (a b : Addr) : Heap := (zt3 h a b).push { cls := .type "tuple", data := .seq #[.none, .none] }
abbrev zt5 (h : Heap) (a b : Addr) : Heap := (zt4 h a b).push { cls := .type "zip", data := .fields #[.none, .bool false, .bool false, .ref (zt2 h a b).objs.size, .ref (zt3 h a b).objs.size] }
theorem meets_zipT (a b : Addr) (xs ys : Array Value) :
    Meets (Builtin.«zip.__new__» ⟨[.type "zip", .ref a, .ref b], []⟩) (fun _ R s => s.heap.IsTuple a xs ∧ s.heap.IsTuple b ys ∧ R (.ok (.ret (.ref (zt4 s.heap a b).objs.size))) { s with heap := zt5 s.heap a b }) :=
  .of_wp fun prog w A R s h => by
    obtain ⟨hp, g, d, tk, os⟩ := s
    obtain ⟨k1, k2, h⟩ := h
    have hsub := sub_zip
    have t1 : Heap.IsTuple (Shared.heap ⟨hp, g, d, tk, os⟩) a xs := k1
    have t2 : Heap.IsTuple (Shared.heap ⟨hp.push { cls := .type "tuple_iterator", data := .fields #[.ref a, .int 0 0] }, g, d, tk, os⟩) b ys := Heap.IsTuple.push k2 _
    wp_walk using wpAny_pyIter_tuple t1, wpAny_pyIter_tuple t2
    exact ⟨_, rfl, h⟩
section
variable {prog : Program} {w : World} {A : Around} {E : Value → Shared → Prop} {s : Shared}
theorem call_zipT {a b : Addr} {xs ys : Array Value} {Q : Value → Shared → Prop} (k1 : s.heap.IsTuple a xs) (k2 : s.heap.IsTuple b ys)
    (h : ∀ h', IsZip h' (s.heap.objs.size + 4) (s.heap.objs.size + 2) (s.heap.objs.size + 3) .none → IsPair h' (s.heap.objs.size + 2) (.ref s.heap.objs.size) (.ref (s.heap.objs.size + 1)) → IsPair h' (s.heap.objs.size + 3) .none .none →
      h'.IsTupleIter s.heap.objs.size a 0 → h'.IsTupleIter (s.heap.objs.size + 1) b 0 → (∀ c o, s.heap.get? c = some o → h'.get? c = some o) → Q (.ref (s.heap.objs.size + 4)) { s with heap := h' }) :
    wpAny (model prog w) A (call (.type "zip") [.ref a, .ref b]) Q E s := by
  refine callType_new F.called_zip (by decide) (F.typeCall_zip_2 _ _) (F.newCall_zip_2 _ _) (fun obj => F.args_object_init_3 obj _ _) F.entry_zip_new (meets_zipT a b xs ys) ⟨k1, k2, ?_⟩
  have e1 : (zt1 s.heap a).objs.size = s.heap.objs.size + 1 := Heap.size_push ..
  have e2 : (zt2 s.heap a b).objs.size = s.heap.objs.size + 2 := by rw [Heap.size_push, e1]
  have e3 : (zt3 s.heap a b).objs.size = s.heap.objs.size + 3 := by rw [Heap.size_push, e2]
  have e4 : (zt4 s.heap a b).objs.size = s.heap.objs.size + 4 := by rw [Heap.size_push, e3]
  have p5 : (zt5 s.heap a b).get? (zt4 s.heap a b).objs.size = some _ := Heap.get?_push_size _ rfl
  have p4 : (zt5 s.heap a b).get? (zt3 s.heap a b).objs.size = some _ := Heap.get?_push_of_some _ (Heap.get?_push_size _ rfl)
  have p3 : (zt5 s.heap a b).get? (zt2 s.heap a b).objs.size = some _ := Heap.get?_push_of_some _ (Heap.get?_push_of_some _ (Heap.get?_push_size _ rfl))
  have p2 : (zt5 s.heap a b).get? (zt1 s.heap a).objs.size = some _ := Heap.get?_push_of_some _ (Heap.get?_push_of_some _ (Heap.get?_push_of_some _ (Heap.get?_push_size _ rfl)))
  have p1 : (zt5 s.heap a b).get? s.heap.objs.size = some _ := Heap.get?_push_of_some _ (Heap.get?_push_of_some _ (Heap.get?_push_of_some _ (Heap.get?_push_of_some _ (Heap.get?_push_size _ rfl))))
  show _ ∧ _
  rw [e2, e3, e4] at p5
  rw [e1, e2] at p3
  rw [e3] at p4
  rw [e1] at p2
  rw [e4]
  refine ⟨⟨_, p5, rfl⟩, h _ p5 p3 p4 ⟨_, p1, rfl, rfl⟩ ⟨_, p2, rfl, rfl⟩ fun c o q => ?_⟩
  exact Heap.get?_push_of_some _ (Heap.get?_push_of_some _ (Heap.get?_push_of_some _ (Heap.get?_push_of_some _ (Heap.get?_push_of_some _ q))))
end
end L3
end
section
namespace L3
open PySem PySem.Spec PyProof.Rows L2
section
variable {X : Cx} {pins : List (Addr × Obj)} {σ : L2.St} {H : Hp} {s : Shared} {h' : Heap}
theorem turnedNew {t' : Nat} {ch : List Addr} {T : Addr} {o : HO} (I : Inv X pins σ H s) (k : ∀ b ob, b ∉ ch → s.heap.get? b = some ob → h'.get? b = some ob) (hf : ∀ b ∈ ch, FpOk X pins H b) (hT : s.heap.objs.size ≤ T)
    (new : ObjOk X.prog X.w (upd H T o) h' T o) : Inv X pins σ (upd H T o) { s with heap := h', toks := t' } := by
  have hn : H T = none := I.hok.fresh hT
  have nch : ∀ b u, H b = some u → b ∉ ch := fun b u e z => by rw [(hf b z).1] at e; cases e
  refine I.step (g' := s.gens) (d' := s.drawn) (ch := ch) (fun b hb => ⟨(hf b hb).2.2.2.1, (hf b hb).2.1, (hf b hb).2.2.2.2.1, (hf b hb).2.2.2.2.2⟩) (fun b ob _ _ hc e _ => k b ob hc e) (fun b ob _ _ hc e _ => ⟨ob.slots, k b ob hc e⟩)
    (fun b ob _ e n => by rw [upd_ne (Nat.ne_of_lt (Nat.lt_of_lt_of_le (Heap.lt_size e) hT))]; exact n) (fun b ob hc e => ⟨ob, k b ob hc e⟩) (fun b xs e => by rw [upd_ne (ne_of_none e hn)]; exact e)
    (fun b ob u e => by rw [upd_ne (ne_of_none e hn)]; exact e) (fun b ps e => (by rw [upd_ne (ne_of_none e hn), e])) (fun m hm => ?_) (fun b u e => ?_) I.bare
  · obtain ⟨ob, es, ep, ho, r⟩ := hm
    exact ⟨ob, es, ep, k _ ob (fun z => (hf _ z).2.1 rfl) ho, r⟩
  · by_cases hb : b = T
    · subst hb
      rw [upd_same] at e
      cases e
      exact new
    · rw [upd_ne hb] at e
      refine (I.hok b u e).stay (fun c v hc q => k c v ?_ q) (fun c q => by rw [upd_ne (ne_of_none q hn)]; exact q) fun c xs q => by rw [upd_ne (ne_of_none q hn)]; exact q
      rcases hc with z | z
      · rw [z]; exact nch b u e
      · exact nch c _ z
theorem turnedL {t' : Nat} {ch : List Addr} (I : Inv X pins σ H s) (k : ∀ b ob, b ∉ ch → s.heap.get? b = some ob → h'.get? b = some ob) (hf : ∀ b ∈ ch, FpOk X pins H b) : Inv X pins σ H { s with heap := h', toks := t' } := by
  have nch : ∀ b u, H b = some u → b ∉ ch := fun b u e z => by rw [(hf b z).1] at e; cases e
  refine I.step (g' := s.gens) (d' := s.drawn) (ch := ch) (fun b hb => ⟨(hf b hb).2.2.2.1, (hf b hb).2.1, (hf b hb).2.2.2.2.1, (hf b hb).2.2.2.2.2⟩) (fun b ob _ _ hc e _ => k b ob hc e) (fun b ob _ _ hc e _ => ⟨ob.slots, k b ob hc e⟩)
    (fun b ob _ e n => n) (fun b ob hc e => ⟨ob, k b ob hc e⟩) (fun b xs e => e) (fun b ob u e => e) (fun b ps e => (by rw [e])) (fun m hm => ?_) (fun b u e => ?_) I.bare
  · obtain ⟨ob, es, ep, ho, r⟩ := hm
    exact ⟨ob, es, ep, k _ ob (fun z => (hf _ z).2.1 rfl) ho, r⟩
  · refine (I.hok b u e).stay (fun c v hc q => k c v ?_ q) (fun _ q => q) fun _ _ q => q
    rcases hc with z | z
    · rw [z]; exact nch b u e
    · exact nch c _ z
end
def Its (z : Str) : It := ⟨fun i _ => i < z.cps.size, fun i H x H' => H' = H ∧ ∃ c, z.cps[i]? = some c ∧ x = .str ⟨#[c]⟩, fun i _ => z.cps.size ≤ i⟩
theorem turn_str {P : Program} {w : World} {K : PySem.W.Frag} {tg : Expr} (it : Addr) (z : Str) (t : Tok) : Turn P w K tg (Its z) [it] it (fun i h => h.IsStrIter it (strIterType z) z t i) where
  mem := by simp
  obj := fun i h st b hb => by
    obtain rfl : b = it := by simpa using hb
    obtain ⟨o, e, c, d⟩ := st
    exact ⟨o, e, fun v q => by rw [d] at q; cases q⟩
  keep := fun i h h' st k => by
    obtain ⟨o, e, r⟩ := st
    exact ⟨o, k it (by simp) o e, r⟩
  item := by
    intro X hP hw hK hc i pins s σ H E I hf st hg
    subst hP hw hK
    have hi : i < z.cps.size := hg
    have hx : z.cps[i]? = some z.cps[i] := by simp [hi]
    obtain ⟨f0, f1, f2, f3, f4, f5⟩ := hf it (by simp)
    have fin : ∀ h', h'.IsStrIter it (strIterType z) z t (i + 1) → Heap.SameBut it s.heap h' → ∃ u, some (Value.str ⟨#[z.cps[i]]⟩ s.toks) = some u ∧
        wpAny (model X.prog X.w) X.A (letOwnedTupleGo tg (.ref it) u) (fun _ s2 => ∃ x H', Inv X pins σ H' s2 ∧ RelV x u ∧ (Its z).yld i H x H' ∧ s2.heap.IsStrIter it (strIterType z) z t (i + 1) ∧ ∀ b ∈ [it], H' b = none) E { s with heap := h', toks := s.toks + 1 } := by
      intro h' st' sb
      have I1 : Inv X pins σ H { s with heap := h', toks := s.toks + 1 } := I.turned (fun b o hb e => (sb.2 b hb).trans e) f0 f1 f3 f4 f5
      obtain ⟨o, e, c, d⟩ := id st'
      refine ⟨_, rfl, go_of (s := { s with heap := h', toks := s.toks + 1 }) e c d (by unfold strIterType; split <;> decide) ⟨.str ⟨#[z.cps[i]]⟩, H, I1, ⟨_, rfl⟩, ⟨rfl, _, hx, rfl⟩, st', fun b hb => (hf b hb).1⟩⟩
    cases ha : z.cps.all (· < 128) with
    | true =>
      have e : strIterType z = "str_ascii_iterator" := by simp [strIterType, ha]
      rw [e] at st fin ⊢
      exact wpAny_pyNext_ascii_item st hx fin
    | false =>
      have e : strIterType z = "str_iterator" := by simp [strIterType, ha]
      rw [e] at st fin ⊢
      exact wpAny_pyNext_wide_item st hx fin
  done := by
    intro X hP hw hK hc i pins s σ H E I hf st hg
    subst hP hw hK
    have hx : z.cps[i]? = none := by
      have hg : z.cps.size ≤ i := hg
      simpa using hg
    obtain ⟨f0, f1, f2, f3, f4, f5⟩ := hf it (by simp)
    have fin : ∀ h', Heap.ExtBut it s.heap h' → (none : Option Value) = none ∧ Inv X pins σ H { s with heap := h' } := fun h' eb => ⟨rfl, I.turned (t' := s.toks) (fun b o hb e => eb b o hb e) f0 f1 f3 f4 f5⟩
    cases ha : z.cps.all (· < 128) with
    | true =>
      have e : strIterType z = "str_ascii_iterator" := by simp [strIterType, ha]
      rw [e] at st
      exact next_ascii_end (I.hb hc) (I.hna hc f3 f5) st hx fin
    | false =>
      have e : strIterType z = "str_iterator" := by simp [strIterType, ha]
      rw [e] at st
      exact next_wide_end (I.hb hc) (I.hna hc f3 f5) st hx fin
  self := fun A i s Q E st h => by
    cases ha : z.cps.all (· < 128) with
    | true =>
      have e : strIterType z = "str_ascii_iterator" := by simp [strIterType, ha]
      rw [e] at st
      exact wpAny_pyIter_striter_ascii st h
    | false =>
      have e : strIterType z = "str_iterator" := by simp [strIterType, ha]
      rw [e] at st
      exact wpAny_pyIter_striter_wide st h
def iStr (tl : TE) : TI := fun σ H R => tl σ H fun x H1 => ∃ z, x = .str z ∧ R (Its z) H1
theorem pi_str {X : Cx} {tg l : Expr} {tl : TE} (hl : PE X l tl) : PI X tg l (iStr tl) := by
  intro pins s σ H R I h
  refine thn (hl pins s σ H _ I h) fun v s1 ⟨x, H1, I1, r1, z, e, q⟩ => ?_
  subst e
  obtain ⟨t, rfl⟩ := r1
  refine wpAny_pyIter_strU ?_
  refine ⟨s1.heap.objs.size, [s1.heap.objs.size], _, Its z, H1, rfl, I1.kept (t' := s1.toks) fun b o e => Heap.get?_push_of_some _ e, turn_str _ z t, ⟨_, Heap.get?_push_size _ rfl, rfl, rfl⟩, fun b hb => ?_, q⟩
  obtain rfl : b = s1.heap.objs.size := by simpa using hb
  exact I1.fpOk (Nat.le_refl _) (I1.hok.fresh (Nat.le_refl _))
theorem sq_ne {X : Cx} {pins : List (Addr × Obj)} {σ : L2.St} {H : Hp} {s : Shared} {a d : Addr} {xs : List V} (I : Inv X pins σ H s) (q : SqT X.K H a xs) (f : FpOk X pins H d) : a ≠ d := fun z => by
  subst z
  rcases q with (q | ⟨o, q⟩) | ⟨o, _, _, q, _⟩
  · rw [f.1] at q; cases q
  · rw [f.1] at q; cases q
  · have e := I.ok.mod.kin a o q
    rcases f.2.2.2.1 with z | z
    · exact I.ok.noex a o e z
    · exact absurd (Nat.lt_of_lt_of_le (Heap.lt_size e) I.ok.bsz) (Nat.not_lt.mpr z)
def Itz (K : PySem.W.Frag) (a b : Addr) : It :=
  ⟨fun i H => ∃ xs ys x y, SqT K H a xs ∧ SqT K H b ys ∧ xs[i]? = some x ∧ ys[i]? = some y,
   fun i H v H' => ∃ p x y, v = .ref p ∧ H p = none ∧ H' = upd H p (.tup [x, y]) ∧ ∀ xs ys, SqT K H a xs → SqT K H b ys → xs[i]? = some x ∧ ys[i]? = some y,
   fun i H => ∃ xs ys, SqT K H a xs ∧ SqT K H b ys ∧ xs.length = i⟩
structure ZRec (a b z TI TO i1 i2 : Addr) (i : Nat) (h : Heap) : Prop where
  z : IsZip h z TI TO .none
  TI : IsPair h TI (.ref i1) (.ref i2)
  TO : ∃ u v, IsPair h TO u v
  i1 : h.IsTupleIter i1 a i
  i2 : h.IsTupleIter i2 b i
theorem turn_zip {P : Program} {w : World} {K : PySem.W.Frag} {es : List Expr} {k : Nat} {pos : Pos} (a b n : Nat) :
    Turn P w K (.Tuple es k pos) (Itz K a b) [n + 4, n + 2, n + 3, n, n + 1] (n + 4) (ZRec a b (n + 4) (n + 2) (n + 3) n (n + 1)) where
  mem := by simp
  obj := fun i h st c hc => by
    simp only [List.mem_cons, List.not_mem_nil, or_false] at hc
    obtain ⟨o1, e1, _, d1⟩ := st.i1
    obtain ⟨o2, e2, _, d2⟩ := st.i2
    obtain ⟨u, v, eo⟩ := st.TO
    rcases hc with rfl | rfl | rfl | rfl | rfl
    · exact ⟨_, st.z, fun v q => by cases q⟩
    · exact ⟨_, st.TI, fun v q => by cases q⟩
    · exact ⟨_, eo, fun v q => by cases q⟩
    · exact ⟨o1, e1, fun v q => by rw [d1] at q; cases q⟩
    · exact ⟨o2, e2, fun v q => by rw [d2] at q; cases q⟩
  keep := fun i h h' st kp => by
    obtain ⟨o1, e1, r1⟩ := st.i1
    obtain ⟨o2, e2, r2⟩ := st.i2
    obtain ⟨u, v, eo⟩ := st.TO
    exact ⟨kp _ (by simp) _ st.z, kp _ (by simp) _ st.TI, ⟨u, v, kp _ (by simp) _ eo⟩, ⟨o1, kp _ (by simp) _ e1, r1⟩, ⟨o2, kp _ (by simp) _ e2, r2⟩⟩
  item := by
    intro X hP hw hK hc i pins s σ H E I hf st hg
    subst hP hw hK
    obtain ⟨xs, ys, x, y, q1, q2, hx, hy⟩ := hg
    obtain ⟨its1, rv1, p1, _⟩ := I.tuple q1
    obtain ⟨its2, rv2, p2, _⟩ := I.tuple q2
    obtain ⟨u1, hu1, ru1⟩ := rv1.get hx
    obtain ⟨u2, hu2, ru2⟩ := rv2.get hy
    obtain ⟨u, v, eo⟩ := st.TO
    have ltz := Heap.lt_size st.z
    have l1 : i < its1.toArray.size := by rw [List.size_toArray]; exact (List.getElem?_eq_some_iff.mp hu1).1
    have l2 : i < its2.toArray.size := by rw [List.size_toArray]; exact (List.getElem?_eq_some_iff.mp hu2).1
    have na : ∀ d ∈ [n + 4, n + 2, n + 3, n, n + 1], a ≠ d := fun d hd => sq_ne I q1 (hf d hd)
    have nb : ∀ d ∈ [n + 4, n + 2, n + 3, n, n + 1], b ≠ d := fun d hd => sq_ne I q2 (hf d hd)
    have ap : ZApart (n + 4) (n + 2) (n + 3) n (n + 1) (n :: a :: hAdr X.A.in1) ((n + 1) :: b :: hAdr X.A.in1) := by
      have nh : ∀ d ∈ [n + 4, n + 2, n + 3, n, n + 1], d ∉ hAdr X.A.in1 := fun d hd z => I.hna hc (hf d hd).2.2.2.1 (hf d hd).2.2.2.2.2 d (mem_hAdr z) rfl
      have a1 := na (n + 4) (by simp)
      have a2 := na (n + 3) (by simp)
      have a3 := na (n + 1) (by simp)
      have b1 := nb (n + 4) (by simp)
      have b2 := nb (n + 3) (by simp)
      have b3 := nb n (by simp)
      constructor <;> (try simp only [List.mem_cons, not_or]) <;> first | omega | exact ⟨by omega, by omega, nh _ (by simp)⟩
    have ha1 : ∀ d ∈ [n + 4, n + 2, n + 3, n, n + 1], ∀ a, X.A.in1.handled = some (.ref a) → a ≠ d := fun d hd => I.hna hc (hf d hd).2.2.2.1 (hf d hd).2.2.2.2.2
    refine zip_nextD (draws_tup n a (na n (by simp)) (ha1 n (by simp)) its1.toArray) (draws_tup (n + 1) b (nb (n + 1) (by simp)) (ha1 (n + 1) (by simp)) its2.toArray) ap st.z st.TI eo ⟨st.i1, p1, I.hb hc⟩ ⟨st.i2, p2, I.hb hc⟩ l1 l2 fun x' y' h1 tk e1 e2 z1 o1 s1 s2 pr kp => ?_
    have e1 : its1.toArray[i]? = some x' := e1
    have e2 : its2.toArray[i]? = some y' := e2
    have ex : u1 = x' := by
      rw [List.getElem?_toArray, hu1] at e1
      exact Option.some.inj e1
    have ey : u2 = y' := by
      rw [List.getElem?_toArray, hu2] at e2
      exact Option.some.inj e2
    subst ex ey
    refine ⟨_, rfl, wpAny_letOwnedTupleGo_zip (s := { s with heap := h1, toks := tk }) z1 fun h2 z2 sb => ?_⟩
    have lt : ∀ d ∈ [n + 4, n + 2, n + 3, n, n + 1], d < s.heap.objs.size := fun d hd => by
      have : d ≤ n + 4 := by simp at hd; omega
      exact Nat.lt_of_le_of_lt this ltz
    have up : ∀ c o, c ≠ n + 4 → h1.get? c = some o → h2.get? c = some o := fun c o hc' e => (sb.2 c hc').trans e
    have prT : h2.get? s.heap.objs.size = some { cls := .type "tuple", data := .seq #[u1, u2] } := up _ _ (Nat.ne_of_gt ltz) pr
    refine ⟨.ref s.heap.objs.size, _, turnedNew (s := s) (h' := h2) (t' := tk) (ch := [n + 4, n + 3, n, n + 1]) (T := s.heap.objs.size) (o := .tup [x, y]) I (fun c o hc' e => ?_) (fun d hd => hf d (by simp only [List.mem_cons, List.not_mem_nil, or_false] at hd ⊢; rcases hd with z | z | z | z <;> simp [z])) (Nat.le_refl _) ?_, rfl, ⟨_, x, y, rfl, I.hok.fresh (Nat.le_refl _), rfl, fun xs' ys' a1 a2 => ?_⟩, ?_, fun d hd => ?_⟩
    · simp only [List.mem_cons, List.not_mem_nil, or_false, not_or] at hc'
      exact up c o hc'.1 (kp c o hc'.1 hc'.2.1 hc'.2.2.1 hc'.2.2.2 e)
    · exact ⟨(by show 2 ≤ sizeLine; decide), [u1, u2], .cons ru1 (.cons ru2 .nil), ⟨_, prT, rfl, _, rfl⟩⟩
    · rw [I.tuple_inj a1 q1, I.tuple_inj a2 q2]
      exact ⟨hx, hy⟩
    · obtain ⟨⟨oa, ea, ra⟩, _⟩ := s1
      obtain ⟨⟨ob, eb, rb⟩, _⟩ := s2
      refine ⟨z2, up _ _ ap.TIz (kp _ _ ap.TIz ap.TITO ap.TI1 ap.TI2 st.TI), ⟨_, _, up _ _ (by omega) o1⟩, ⟨oa, up _ _ (by omega) ea, ra⟩, ⟨ob, up _ _ (by omega) eb, rb⟩⟩
    · rw [upd_ne (Nat.ne_of_lt (lt d hd))]
      exact (hf d hd).1
  done := by
    intro X hP hw hK hc i pins s σ H E I hf st hg
    subst hP hw hK
    obtain ⟨xs, ys, q1, q2, hl⟩ := hg
    obtain ⟨its1, rv1, p1, _⟩ := I.tuple q1
    obtain ⟨u, v, eo⟩ := st.TO
    have na : ∀ d ∈ [n + 4, n + 2, n + 3, n, n + 1], a ≠ d := fun d hd => sq_ne I q1 (hf d hd)
    have nb : ∀ d ∈ [n + 4, n + 2, n + 3, n, n + 1], b ≠ d := fun d hd => sq_ne I q2 (hf d hd)
    have ap : ZApart (n + 4) (n + 2) (n + 3) n (n + 1) (n :: a :: hAdr X.A.in1) ((n + 1) :: b :: hAdr X.A.in1) := by
      have nh : ∀ d ∈ [n + 4, n + 2, n + 3, n, n + 1], d ∉ hAdr X.A.in1 := fun d hd z => I.hna hc (hf d hd).2.2.2.1 (hf d hd).2.2.2.2.2 d (mem_hAdr z) rfl
      have a1 := na (n + 4) (by simp)
      have a2 := na (n + 3) (by simp)
      have a3 := na (n + 1) (by simp)
      have b1 := nb (n + 4) (by simp)
      have b2 := nb (n + 3) (by simp)
      have b3 := nb n (by simp)
      constructor <;> (try simp only [List.mem_cons, not_or]) <;> first | omega | exact ⟨by omega, by omega, nh _ (by simp)⟩
    have hi : its1.toArray.size = i := by rw [List.size_toArray, ← rv1.length]; exact hl
    subst hi
    have ha1 : ∀ d ∈ [n + 4, n + 2, n + 3, n, n + 1], ∀ a, X.A.in1.handled = some (.ref a) → a ≠ d := fun d hd => I.hna hc (hf d hd).2.2.2.1 (hf d hd).2.2.2.2.2
    refine zip_stopD (draws_tup n a (na n (by simp)) (ha1 n (by simp)) its1.toArray) ap st.z st.TI eo ⟨st.i1, p1, I.hb hc⟩ fun h1 kp => ⟨rfl, ?_⟩
    refine turnedL (t' := s.toks) (ch := [n + 4, n + 3, n, n + 1]) I (fun c o hc' e => ?_) fun d hd => hf d (by simp only [List.mem_cons, List.not_mem_nil, or_false] at hd ⊢; rcases hd with z | z | z | z <;> simp [z])
    simp only [List.mem_cons, List.not_mem_nil, or_false, not_or] at hc'
    exact kp c o hc'.1 hc'.2.1 hc'.2.2.1 hc'.2.2.2 e
  self := fun A i s Q E st h => wpAny_pyIter_zip st.z h
def iZipT (K : PySem.W.Frag) (ta : TA) : TI := fun σ H R => ta σ H fun vs H1 => ∃ a b xs ys, vs = [.ref a, .ref b] ∧ SqT K H1 a xs ∧ SqT K H1 b ys ∧ R (Itz K a b) H1
theorem pi_zipT {X : Cx} {es : List Expr} {k : Nat} {tpos : Pos} {a b : Expr} {ta : TA} {p pos : Pos} (hg : Gl X "zip") (hm : X.mg "zip" = none) (ha : PA X [a, b] ta) (hs : starEach [a, b] X.env = [(false, eval a X.env), (false, eval b X.env)] := by rfl)
    (hs2 : starEach [b] X.env = [(false, eval b X.env)] := by rfl) : PI X (.Tuple es k tpos) (.Call (.Name "zip" p) [a, b] [] pos) (iZipT X.K ta) := by
  intro pins s σ H R I h
  refine Call_ (ld_blt I hg hm boot_zip (PyProof.Rows.callWith_type1 (thn (ha pos pins s σ H _ I h) fun us s1 ⟨vs, H1, I1, r1, q1⟩ => ?_) (by rw [hs, hs2]) (by rw [hs2]; rfl)))
  obtain ⟨a1, b1, xs, ys, e, k1, k2, q⟩ := q1
  subst e
  obtain ⟨u1, u2, rfl, ru1, ru2⟩ := Vals.two r1
  cases ru1
  cases ru2
  obtain ⟨its1, rv1, p1, _⟩ := I1.tuple k1
  obtain ⟨its2, rv2, p2, _⟩ := I1.tuple k2
  refine call_zipT p1 p2 fun h1 z1 t1 o1 s1' s2' kp => ?_
  refine wpAny_pyIter_zip (s := { s1 with heap := h1 }) z1 ?_
  have I2 : Inv X pins σ H1 { s1 with heap := h1 } := I1.kept (t' := s1.toks) kp
  refine ⟨_, _, _, _, H1, rfl, I2, turn_zip a1 b1 s1.heap.objs.size, ⟨z1, t1, ⟨_, _, o1⟩, s1', s2'⟩, fun d hd => ?_, q⟩
  have : s1.heap.objs.size ≤ d := by
    simp only [List.mem_cons, List.not_mem_nil, or_false] at hd
    rcases hd with z | z | z | z | z <;> rw [z] <;> first | exact Nat.le_add_right _ _ | exact Nat.le_refl _
  exact I1.fpOk this (I1.hok.fresh this)
end L3
end
section
namespace L3
open PySem PySem.Spec PyProof.Rows L2
section
variable {X : Cx}
theorem call_isinst : CallR X (.builtin "isinstance") (fun xs H Q => ∃ x t n b, xs = [x, .ty n] ∧ TyOf X.K H x t ∧ PySem.W.kitOne X.K t (.type n) = some b ∧ Q (.bl b) H) := by
  intro pins s σ H xs us Q I r h
  obtain ⟨x, t, n, b, rfl, ty, e, q⟩ := h
  obtain ⟨u, v, rfl, ru, rv⟩ := r.two
  obtain rfl : v = Value.type n := rv
  exact isinst_ok I ru ty e fun tk => ⟨.bl b, H, I.tok tk, rfl, q⟩
theorem bls_get : ∀ {bs : List Bool} {us : List Value}, Vals (bs.map V.bl) us → ∀ (i : Nat) (u : Value), us[i]? = some u → u = Value.bool ((bs[i]?).getD true)
  | [], _, .nil, i, u, e => by simp at e
  | b :: bs, _, .cons r t, 0, u, e => by
    have r : _ = Value.bool b := r
    simp at e
    rw [← e, r]
    rfl
  | b :: bs, _, .cons r t, i + 1, u, e => by simpa using bls_get t i u (by simpa using e)
theorem call_all_bls (hc : X.calm = true) : CallR X (.builtin "all") (fun xs H Q => ∃ (p : Addr) (bs : List Bool), xs = [.ref p] ∧ SqL X.K H p (bs.map V.bl) ∧ Q (.bl (bs.all id)) H) := by
  intro pins s σ H xs us Q I r h
  obtain ⟨p, bs, rfl, hq, q⟩ := h
  obtain ⟨u, rfl, ru⟩ := r.one
  cases ru
  obtain ⟨its, rv, pl, hz⟩ := I.list hq
  have hl := pl.isList
  have lt : p < s.heap.objs.size := by
    obtain ⟨o, e, _⟩ := hl
    exact Heap.lt_size e
  have na : ∀ a, X.A.in1.handled = some (.ref a) → a ≠ s.heap.objs.size := fun a ea => by
    rcases I.hb hc with z | ⟨b, oe, vs, e1, e2, _⟩
    · rw [show X.A.in1.handled = X.A.handled from rfl, z] at ea; cases ea
    · rw [show X.A.in1.handled = X.A.handled from rfl, e1] at ea; cases ea; exact Nat.ne_of_lt (Heap.lt_size e2)
  refine call_all_walk (wpAny_pyIter_list hl ?_)
  refine ⟨s.heap.objs.size, _, [s.heap.objs.size], its.toArray.size, _, _, fun i => (bs[i]?).getD true, rfl, walks_list _ p (Nat.ne_of_lt lt) its.toArray na, ⟨⟨_, Heap.get?_push_size _ rfl, rfl, rfl⟩, hl.push _, (I.hb hc).mono fun a o _ eo => Heap.get?_push_of_some _ eo⟩, fun i v s' Q' E' hP hQ => ?_, fun h' tk hk => ?_⟩
  · have e : v = .bool ((bs[i]?).getD true) := bls_get rv i v (by simpa using hP)
    subst e
    exact wpAny_truthy_bool hQ
  · have e : ((List.range its.toArray.size).all fun i => (bs[i]?).getD true) = bs.all id := by
      have n : its.toArray.size = bs.length := by rw [List.size_toArray, ← rv.length, List.length_map]
      rw [n]
      clear n
      rw [Bool.eq_iff_iff, List.all_eq_true, List.all_eq_true]
      constructor
      · intro z x hx
        obtain ⟨i, hi, rfl⟩ := List.mem_iff_getElem.mp hx
        have := z i (by simpa using hi)
        simpa [hi] using this
      · intro z i hi
        have hi : i < bs.length := by simpa using hi
        have := z bs[i] (List.getElem_mem hi)
        simpa [hi] using this
    refine ⟨.bl (bs.all id), H, I.kept (h' := h') (t' := tk) fun b o eb => hk b o (fun hm => ?_) (Heap.get?_push_of_some _ eb), by rw [e]; rfl, q⟩
    rw [List.mem_singleton.mp hm] at eb
    exact Nat.lt_irrefl _ (Heap.lt_size eb)
end
structure TabK (K : PySem.W.Frag) (a : Addr) (D : List (Str × V)) : Prop where
  sys : (a == sysModules) = false
  ex : ∃ o es ep, K.lookup a = some o ∧ o.ExactDict ∧ o.data = .dict es ep ∧ KTD.Rows RelV es.toList D
section
variable {X : Cx} {pins : List (Addr × Obj)} {σ : L2.St} {H : Hp} {s : Shared} {a : Addr} {D : List (Str × V)} {k : Str} {tk : Tok} {A : Around} {E : Value → Shared → Prop}
theorem TabK.typeIs (T : TabK X.K a D) (I : Inv X pins σ H s) : s.TypeIs (.ref a) "dict" := let ⟨o, _, _, e, x, _⟩ := T.ex; ⟨o, I.kIn a o e, x.1⟩
theorem tab_get {Q : Option Value → Shared → Prop} (T : TabK X.K a D) (I : Inv X pins σ H s) (h1 : ∀ v u, KTD.datumAt k D = some v → RelV v u → Q (some u) { s with toks := s.toks + 1 })
    (h2 : KTD.datumAt k D = none → Q none { s with toks := s.toks + 1 }) : wpAny (model X.prog X.w) A (dictGet a (.str k tk)) Q E s := by
  obtain ⟨_, o, es, ep, ek, _, ed, er⟩ := T
  have eo := I.kIn a o ek
  unfold dictGet
  try with_reducible refine wpAny_holding ?_
  have ea : (es.all fun e => isExactStrKey e.key) = true := by
    obtain ⟨l⟩ := es
    simpa using er.exact
  refine wpAny_bind (wpAny_pyHash_str (wpAny_bind (KTD.kt_dictFind_strs (s := { s with toks := s.toks + 1 }) eo ed ea ?_)))
  have fq : Q (findBy (fun k v => v.isStr k) es k) { s with toks := s.toks + 1 } := by
    have ef : findBy (fun k v => v.isStr k) es k = (es.toList.find? fun e => e.key.isStr k).map (·.val) := by
      obtain ⟨l⟩ := es
      simp [findBy]
    rw [ef]
    cases hat : KTD.datumAt k D with
    | some d =>
      obtain ⟨v, hv, hr⟩ := er.find_some hat
      rw [hv]
      exact h1 d v hat hr
    | none =>
      rw [er.find_none hat]
      exact h2 hat
  rw [findBy_of_findIdx?] at fq
  cases hi : es.findIdx? fun e => e.key.isStr k with
  | none => rw [hi] at fq; exact wpAny_pure fq
  | some i => rw [hi] at fq; exact wpAny_bind (wpAny_dictEntries (s := { s with toks := s.toks + 1 }) eo ed (wpAny_pure fq))
theorem tab_item {Q : Value → Shared → Prop} {v : V} (T : TabK X.K a D) (I : Inv X pins σ H s) (hd : KTD.datumAt k D = some v) (h : ∀ u, RelV v u → Q u { s with toks := s.toks + 1 }) : wpAny (model X.prog X.w) A (getItem (.ref a) (.str k tk)) Q E s := by
  have ty := T.typeIs I
  unfold getItem
  try with_reducible refine wpAny_holding ?_
  refine wpAny_bind (wpAny_sequenceKey ty (by decide) ?_)
  refine wpAny_bind (wpAny_callSpecial?_slot (name := Str.ofString "__getitem__") ty slot_dict_getitem (wpAny_call_entry slot_dict_getitem ty entry_dict_getitem ?_ (args_dict_getitem _ _)))
  show wpAny (model X.prog X.w) _ (dictGet a (.str k tk) >>= _) _ _ s
  refine wpAny_bind (tab_get T I (fun v' u e r => ?_) fun hn => ?_)
  · rw [hd] at e
    cases e
    exact wpAny_pure ⟨u, rfl, wpAny_pure (h u r)⟩
  · rw [hd] at hn
    cases hn
def inT (k : Str) (D : List (Str × V)) : Bool := (KTD.datumAt k D).isSome
theorem tab_contains {Q : Bool → Shared → Prop} (T : TabK X.K a D) (I : Inv X pins σ H s) (h : Q (inT k D) { s with toks := s.toks + 1 }) : wpAny (model X.prog X.w) A (contains (.ref a) (.str k tk)) Q E s := by
  have ty := T.typeIs I
  unfold contains
  try with_reducible refine wpAny_holding ?_
  refine wpAny_bind (wpAny_specialOf ty slot_dict_contains.lookup ?_)
  show wpAny (model X.prog X.w) _ (if (some (Value.builtin "dict.__contains__") == some Value.none) = true then _ else _) _ E s
  rw [if_neg (by rw [beq_builtin_none]; exact Bool.false_ne_true)]
  refine wpAny_bind (wpAny_callSpecialUnlessNone?_slot (name := Str.ofString "__contains__") ty slot_dict_contains (wpAny_call_entry slot_dict_contains ty entry_dict_contains ?_ (args_dict_contains _ _)))
  show wpAny (model X.prog X.w) _ (dictGet a (.str k tk) >>= _) _ _ s
  refine wpAny_bind (tab_get T I (fun v u e _ => ?_) fun hn => ?_)
  · have hb : inT k D = true := by unfold inT; rw [e]; rfl
    rw [hb] at h
    show wpAny (model X.prog X.w) _ (ret (.bool true)) _ _ _
    exact wpAny_pure ⟨_, rfl, wpAny_truthy_bool h⟩
  · have hb : inT k D = false := by unfold inT; rw [hn]; rfl
    rw [hb] at h
    show wpAny (model X.prog X.w) _ (Builtin.Dict.pendingKey? a (.str k tk) >>= _) _ _ _
    exact wpAny_bind (wpAny_pendingKey_other T.sys (wpAny_pure ⟨_, rfl, wpAny_truthy_bool h⟩))
end
section
variable {X : Cx}
theorem op_notin_tab : OpR X (compareOp .NotIn) (fun x y H Q => ∃ k a D, x = .str k ∧ y = .ref a ∧ TabK X.K a D ∧ Q (.bl (!inT k D)) H) := by
  intro pins s σ H x y v u Q I rx ry h
  obtain ⟨k, a, D, rfl, rfl, T, q⟩ := h
  obtain ⟨t, rfl⟩ := rx
  cases ry
  show wpAny (model X.prog X.w) _ (do return Value.bool (!(← contains (.ref a) (.str k t))) : Sem Value) _ _ s
  exact wpAny_bind (tab_contains T I (wpAny_pure ⟨.bl _, H, I.tok _, rfl, q⟩))
def rIxD (K : PySem.W.Frag) : R2 := fun x y H Q => ∃ a D k v, x = .ref a ∧ y = .str k ∧ TabK K a D ∧ KTD.datumAt k D = some v ∧ Q v H
theorem pe_tab {o i : Expr} {pos : Pos} {td ty : TE} (ho : PE X o td) (hi : PE X i ty) (hs : NoSl i) : PE X (.Subscript o i pos) (tOp (rIxD X.K) td ty) := by
  intro pins s σ H Q I h
  refine subD_of PySem.F.slot_dict_getitem.lookup hs (thn (ho pins s σ H _ I h) fun u s1 ⟨x, H1, I1, rx, q1⟩ => thn (hi pins s1 σ H1 _ I1 q1) fun iv s2 ⟨y, H2, I2, ry, a, D, k, v, ex, ey, T, e, q2⟩ => ?_)
  subst ex ey
  cases rx
  obtain ⟨t, rfl⟩ := ry
  exact ⟨T.typeIs I2, tab_item T I2 e fun u r => ⟨v, H2, I2.tok _, r, q2⟩⟩
end
end L3
end
section
namespace KM
open PySem
inductive D where
  | non
  | bl (b : Bool)
  | int (i : Int)
  | str (x : Str)
  | tup (ds : List D)
deriving Inhabited
mutual
def knots : D → Nat
  | .tup ds => 1 + knotsL ds
  | .non => 0
  | .bl _ => 0
  | .int _ => 0
  | .str _ => 0
def knotsL : List D → Nat
  | [] => 0
  | d :: r => knots d + knotsL r
end
mutual
def depth : D → Nat
  | .tup ds => 1 + depthL ds
  | .non => 0
  | .bl _ => 0
  | .int _ => 0
  | .str _ => 0
def depthL : List D → Nat
  | [] => 0
  | d :: r => max (depth d) (depthL r)
end
def isTup : D → Bool
  | .tup _ => true
  | _ => false
def tk : D → List D
  | .tup ds => ds.filter isTup
  | _ => []
def lv : Nat → List D → List D
  | 0, l => l
  | n + 1, l => lv n (l.flatMap tk)
theorem knotsL_filter : ∀ l : List D, knotsL (l.filter isTup) = knotsL l
  | [] => rfl
  | d :: r => by
    have ih := knotsL_filter r
    cases d <;> simp [isTup, List.filter_cons, knotsL, knots, ih]
theorem depthL_filter : ∀ l : List D, depthL (l.filter isTup) = depthL l
  | [] => rfl
  | d :: r => by
    have ih := depthL_filter r
    cases d <;> simp [isTup, List.filter_cons, depthL, depth, ih]
theorem knotsL_app : ∀ l r : List D, knotsL (l ++ r) = knotsL l + knotsL r
  | [], r => by simp [knotsL]
  | d :: l, r => by simp [knotsL, knotsL_app l r]; omega
theorem depthL_app : ∀ l r : List D, depthL (l ++ r) = max (depthL l) (depthL r)
  | [], r => by simp [depthL]
  | d :: l, r => by simp only [List.cons_append, depthL, depthL_app l r]; exact (Nat.max_assoc _ _ _).symm
theorem knots_tk : ∀ d : D, isTup d = true → knots d = 1 + knotsL (tk d)
  | .tup ds, _ => by simp [knots, tk, knotsL_filter]
theorem depth_tk : ∀ d : D, isTup d = true → depth d = 1 + depthL (tk d)
  | .tup ds, _ => by simp [depth, tk, depthL_filter]
theorem tk_tups (d : D) : ∀ x ∈ tk d, isTup x = true := by
  cases d <;> simp [tk]
theorem knots_step : ∀ l : List D, (∀ x ∈ l, isTup x = true) → knotsL l = l.length + knotsL (l.flatMap tk)
  | [], _ => rfl
  | d :: r, h => by
    have h1 := knots_step r fun x hx => h x (List.mem_cons_of_mem _ hx)
    have h2 := knots_tk d (h d List.mem_cons_self)
    simp only [List.flatMap_cons, knotsL_app, knotsL, List.length_cons]
    omega
theorem depth_step : ∀ l : List D, (∀ x ∈ l, isTup x = true) → l ≠ [] → depthL l = 1 + depthL (l.flatMap tk)
  | [], _, h => (h rfl).elim
  | [d], h, _ => by
    have h2 := depth_tk d (h d List.mem_cons_self)
    simp only [List.flatMap_cons, List.flatMap_nil, List.append_nil, depthL]
    omega
  | d :: e :: r, h, _ => by
    have h1 := depth_step (e :: r) (fun x hx => h x (List.mem_cons_of_mem _ hx)) (by simp)
    have h2 := depth_tk d (h d List.mem_cons_self)
    rw [List.flatMap_cons, depthL_app]
    have h3 : depthL (d :: e :: r) = max (depth d) (depthL (e :: r)) := rfl
    omega
theorem tups_step (l : List D) : ∀ x ∈ l.flatMap tk, isTup x = true := by
  intro x hx
  obtain ⟨d, _, h⟩ := List.mem_flatMap.mp hx
  exact tk_tups d x h
theorem lv_nil : ∀ n, lv n [] = []
  | 0 => rfl
  | n + 1 => by rw [lv, List.flatMap_nil]; exact lv_nil n
theorem lv_succ : ∀ n l, lv (n + 1) l = (lv n l).flatMap tk
  | 0, l => rfl
  | n + 1, l => by rw [lv, lv_succ n, ← lv]
theorem lv_tups : ∀ n l, (∀ x ∈ l, isTup x = true) → ∀ x ∈ lv n l, isTup x = true
  | 0, _, h => h
  | n + 1, l, _ => lv_tups n _ (tups_step l)
def upto : Nat → List D → Nat
  | 0, _ => 0
  | n + 1, l => upto n l + (lv n l).length
theorem upto_succ' : ∀ n l, upto (n + 1) l = l.length + upto n (l.flatMap tk)
  | 0, l => by simp [upto, lv]
  | n + 1, l => by
    have := upto_succ' n l
    simp only [upto] at this ⊢
    rw [show lv (n + 1) l = lv n (l.flatMap tk) from rfl]
    omega
theorem knots_upto : ∀ n l, (∀ x ∈ l, isTup x = true) → knotsL l = upto n l + knotsL (lv n l)
  | 0, l, _ => by simp [upto, lv]
  | n + 1, l, h => by
    have h1 := knots_step l h
    have h2 := knots_upto n (l.flatMap tk) (tups_step l)
    rw [upto_succ', show lv (n + 1) l = lv n (l.flatMap tk) from rfl]
    omega
theorem lv_empty : ∀ n l, (∀ x ∈ l, isTup x = true) → (lv n l = [] ↔ depthL l ≤ n)
  | 0, l, h => by
    cases l with
    | nil => simp [lv, depthL]
    | cons d r =>
      have := depth_step (d :: r) h (by simp)
      simp only [lv]
      constructor
      · intro q; cases q
      · intro q; omega
  | n + 1, l, h => by
    cases l with
    | nil => simp [lv_nil, depthL]
    | cons d r =>
      have h1 := depth_step (d :: r) h (by simp)
      have h2 := lv_empty n ((d :: r).flatMap tk) (tups_step _)
      rw [show lv (n + 1) (d :: r) = lv n ((d :: r).flatMap tk) from rfl, h2]
      omega
theorem upto_knots (n : Nat) (l : List D) (h : ∀ x ∈ l, isTup x = true) : upto n l ≤ knotsL l := by
  have := knots_upto n l h
  omega
theorem small_iff (l : List D) (h : ∀ x ∈ l, isTup x = true) : (upto 40 l ≤ 600 ∧ lv 40 l = []) ↔ (knotsL l ≤ 600 ∧ depthL l ≤ 40) := by
  rw [lv_empty 40 l h]
  have e := knots_upto 40 l h
  constructor
  · rintro ⟨h1, h2⟩
    rw [(lv_empty 40 l h).mpr h2] at e
    simp only [knotsL] at e
    exact ⟨by omega, h2⟩
  · rintro ⟨h1, h2⟩
    exact ⟨by omega, h2⟩
end KM
end
section
namespace L3
open PySem PySem.Spec PyProof.Rows L2 KM
mutual
/-- v stands for d on the heap H -/
def Rep (H : Hp) : D → V → Prop
  | .non, v => v = .non
  | .bl b, v => v = .bl b
  | .int i, v => v = .int i
  | .str x, v => v = .str x ∧ x.length ≤ 1000
  | .tup ds, v => ∃ a vs, v = .ref a ∧ H a = some (.tup vs) ∧ Reps H ds vs
def Reps (H : Hp) : List D → List V → Prop
  | [], vs => vs = []
  | d :: ds, vs => ∃ v r, vs = v :: r ∧ Rep H d v ∧ Reps H ds r
end
mutual
theorem Rep.mono {H H' : Hp} (h : Same H H') : ∀ {d : D} {v : V}, Rep H d v → Rep H' d v
  | .non, _, r => r
  | .bl _, _, r => r
  | .int _, _, r => r
  | .str _, _, r => r
  | .tup _, _, ⟨a, vs, e, q, r⟩ => ⟨a, vs, e, h _ _ q, Reps.mono h r⟩
theorem Reps.mono {H H' : Hp} (h : Same H H') : ∀ {ds : List D} {vs : List V}, Reps H ds vs → Reps H' ds vs
  | [], _, r => r
  | _ :: _, _, ⟨v, r, e, q, t⟩ => ⟨v, r, e, Rep.mono h q, Reps.mono h t⟩
end
theorem Reps.length {H : Hp} : ∀ {ds : List D} {vs : List V}, Reps H ds vs → vs.length = ds.length
  | [], _, r => by
    have r : _ = [] := r
    rw [r]; rfl
  | _ :: _, _, ⟨v, r, e, q, t⟩ => by
    rw [e, List.length_cons, List.length_cons, Reps.length t]
theorem Reps.get {H : Hp} : ∀ {ds : List D} {vs : List V} {i : Nat} {d : D}, Reps H ds vs → ds[i]? = some d → ∃ v, vs[i]? = some v ∧ Rep H d v
  | [], _, _, _, _, e => by simp at e
  | d :: _, _, 0, _, ⟨v, r, e, q, t⟩, h => by
    simp at h
    subst h
    exact ⟨v, by rw [e]; rfl, q⟩
  | _ :: ds, _, i + 1, d, ⟨v, r, e, q, t⟩, h => by
    obtain ⟨u, h1, h2⟩ := Reps.get (i := i) t (by simpa using h)
    exact ⟨u, by rw [e]; simpa using h1, h2⟩
theorem Reps.get' {H : Hp} {ds : List D} {vs : List V} {i : Nat} {v : V} (r : Reps H ds vs) (e : vs[i]? = some v) : ∃ d, ds[i]? = some d ∧ Rep H d v := by
  have hi : i < vs.length := (List.getElem?_eq_some_iff.mp e).1
  rw [r.length] at hi
  obtain ⟨u, h1, h2⟩ := r.get (d := ds[i]) (i := i) (by simp [hi])
  rw [e] at h1
  cases h1
  exact ⟨ds[i], by simp [hi], h2⟩
theorem Reps.append {H : Hp} : ∀ {ds es : List D} {vs us : List V}, Reps H ds vs → Reps H es us → Reps H (ds ++ es) (vs ++ us)
  | [], _, _, _, r, q => by
    have r : _ = [] := r
    subst r
    exact q
  | _ :: _, _, _, _, ⟨v, r, e, p, t⟩, q => by
    subst e
    exact ⟨v, r ++ _, rfl, p, Reps.append t q⟩
theorem Reps.one {H : Hp} {d : D} {v : V} (r : Rep H d v) : Reps H [d] [v] := ⟨v, [], rfl, r, rfl⟩
def tyD : D → String
  | .non => "NoneType"
  | .bl _ => "bool"
  | .int _ => "int"
  | .str _ => "str"
  | .tup _ => "tuple"
theorem Rep.ty {K : PySem.W.Frag} {H : Hp} : ∀ {d : D} {v : V}, Rep H d v → TyOf K H v (.type (tyD d))
  | .non, _, r => by cases (show _ = V.non from r); exact .non
  | .bl b, _, r => by cases (show _ = V.bl b from r); exact .bl b
  | .int i, _, r => by cases (show _ = V.int i from r); exact .int i
  | .str x, _, r => by cases (show _ = V.str x from r.1); exact .str x
  | .tup _, _, ⟨a, vs, e, q, _⟩ => by cases e; exact .tup q
def isStrD : D → Bool
  | .str _ => true
  | _ => false
def isBlD : D → Bool
  | .bl _ => true
  | _ => false
def isIntD : D → Bool
  | .bl _ => true
  | .int _ => true
  | _ => false
theorem kit_tup (K : PySem.W.Frag) (d : D) : PySem.W.kitOne K (.type (tyD d)) (.type "tuple") = some (isTup d) := by cases d <;> rfl
theorem kit_str (K : PySem.W.Frag) (d : D) : PySem.W.kitOne K (.type (tyD d)) (.type "str") = some (isStrD d) := by cases d <;> rfl
theorem kit_bl (K : PySem.W.Frag) (d : D) : PySem.W.kitOne K (.type (tyD d)) (.type "bool") = some (isBlD d) := by cases d <;> rfl
theorem kit_int (K : PySem.W.Frag) (d : D) : PySem.W.kitOne K (.type (tyD d)) (.type "int") = some (isIntD d) := by cases d <;> rfl
theorem same_new {H : Hp} {p : Addr} (h : H p = none) (o : HO) : Same H (upd H p o) := fun b u q => by rw [upd_ne (ne_of_none q h)]; exact q
end L3
end
section
namespace L3
open PySem PySem.Spec PyProof.Rows L2
def tSlS (te : TE) (tl th ts : TO) : TE := fun σ H Q => te σ H fun x H1 => tl σ H1 fun _ H2 => th σ H2 fun _ H3 => ts σ H3 fun st H4 => ∃ z, x = .str z ∧ z.length ≤ sizeLine ∧ st ≠ some 0 ∧ ∀ y : Str, y.length ≤ z.length → Q (.str y) H4
theorem part_of {u : Value} {o : Option Int} (p : IsPart u o) : ∃ q : Option (Int × Tok), u = partValue q ∧ q.map (·.1) = o := by
  cases p with
  | none => exact ⟨none, rfl, rfl⟩
  | int i t => exact ⟨some (i, t), rfl, rfl⟩
theorem pe_slS {X : Cx} {e : Expr} {lo hi st : Option Expr} {p2 pos : Pos} {te : TE} {tl th ts : TO} (he : PE X e te) (hl : PO X lo tl) (hu : PO X hi th) (ht : PO X st ts)
    (hb : ∀ o i, ∃ ops, subscripted (.Slice lo hi st p2) false o i = operate ops (getItem o i) := by intro o i; exact ⟨_, rfl⟩) : PE X (.Subscript e (.Slice lo hi st p2) pos) (tSlS te tl th ts) := by
  intro pins s σ H Q I h
  refine Subscript_ (thn (he pins s σ H _ I h) fun v s1 ⟨x, H1, I1, r1, q1⟩ => ?_)
  refine wpAny_Slice (thn (hl pins s1 σ H1 _ I1 q1) fun vl s2 ⟨l, H2, I2, pl, q2⟩ => thn (hu pins s2 σ H2 _ I2 q2) fun vu s3 ⟨u, H3, I3, pu, q3⟩ => thn (ht pins s3 σ H3 _ I3 q3) fun vt s4 ⟨t, H4, I4, pt, z, e1, hz, h0, q⟩ => ?_)
  subst e1
  obtain ⟨tk, rfl⟩ := r1
  obtain ⟨al, rfl, el⟩ := part_of pl
  obtain ⟨au, rfl, eu⟩ := part_of pu
  obtain ⟨at', rfl, et⟩ := part_of pt
  have I5 : Inv X pins σ H4 { s4 with heap := s4.heap.push { cls := .type "slice", data := .fields #[partValue al, partValue au, partValue at'] } } := I4.kept (t' := s4.toks) fun b ob q => Heap.get?_push_of_some _ q
  have hk : ((at'.map (·.1)).getD 1 == 0) = false := by
    rw [et]
    cases t with
    | none => rfl
    | some i => simpa using fun z => h0 (by rw [z])
  show wpAny (model X.prog X.w) X.A (subscriptTail e (.Slice lo hi st p2) (.str z tk) (.ref s4.heap.objs.size)) (EP X pins σ Q) X.xe _
  obtain ⟨ops, hb⟩ := hb (.str z tk) (.ref s4.heap.objs.size)
  refine tail_any (ops := ops) (T := "str") (typeIs_str _ _ _) PySem.F.slot_str_getitem.lookup (wpAny_getItem_str_slice (l := al) (u := au) (st := at') ⟨_, Heap.get?_push_size _ rfl, rfl, rfl⟩ hk ?_) hb
  have fin : ∀ y : Str, y.length ≤ z.length → ∀ t' k, EP X pins σ Q (.str y t') { s4 with heap := s4.heap.push { cls := .type "slice", data := .fields #[partValue al, partValue au, partValue at'] }, toks := k } := fun y hy t' k => ⟨.str y, H4, I5.tok k, ⟨t', rfl⟩, q y hy⟩
  unfold sliceMade
  split
  · exact fin z (Nat.le_refl _) _ _
  · have hy : (Str.mk ((slicePicked z al au at').filterMap (z.cps[·]?)).toArray).length ≤ z.length := by
      show (List.filterMap _ (slicePicked z al au at')).toArray.size ≤ z.length
      rw [List.size_toArray]
      refine Nat.le_trans (List.length_filterMap_le _ _) ?_
      exact sliceIndicesBy_le _ _ _ (by simpa using hk) z.length
    exact ⟨Nat.le_trans hy hz, fin _ hy _ _⟩
end L3
end
section
namespace L3
open PySem PySem.Spec PyProof.Rows L2
def tCut (t u : TS) : TS := fun D σ H => ∃ M : L2.St → Hp → Prop, t { D with nx := M } σ H ∧ ∀ σ' H', M σ' H' → u D σ' H'
theorem pss_cut {X : Cx} {st : Stmt} {rest : List Stmt} {t u : TS} (h1 : PS X st t) (h2 : PSs X rest u) : PSs X (st :: rest) (tCut t u) := by
  intro pins s σ H D I h
  obtain ⟨M, h, hM⟩ := h
  refine wpAny_execs_cons (thn (h1 pins s σ H { D with nx := M } I h) fun f s1 q => ?_)
  cases f with
  | next =>
    obtain ⟨σ', H', I', q⟩ := q
    exact h2 pins s1 σ' H' D I' (hM σ' H' q)
  | ret v => exact q
  | brk => exact q
  | cont => exact q
theorem for_by {J : It} {g : TG} {tb : TS} {D : Ends} {σ : L2.St} {H : Hp} (n : Nat) (Pv : Nat → L2.St → Hp → Prop) (h0 : Pv 0 σ H)
    (hgo : ∀ i σ H, i < n → Pv i σ H → J.go i H ∧ ∀ x H', J.yld i H x H' → g x σ H' fun σ2 H2 => tb { D with nx := Pv (i + 1), ct := Pv (i + 1), bk := D.nx } σ2 H2) (hd : ∀ σ H, Pv n σ H → J.stop n H ∧ D.nx σ H) :
    ∃ W : Nat → Nat → L2.St → Hp → Prop, (∃ m, W 0 m σ H) ∧ ∀ i m σ H, W i m σ H →
      (J.stop i H ∧ D.nx σ H) ∨ (J.go i H ∧ ∃ N : L2.St → Hp → Prop, (∀ σ' H', N σ' H' → ∃ m', m' < m ∧ W (i + 1) m' σ' H') ∧ ∀ x H', J.yld i H x H' → g x σ H' fun σ2 H2 => tb { D with nx := N, ct := N, bk := D.nx } σ2 H2) := by
  refine ⟨fun i m σ H => m = n - i ∧ i ≤ n ∧ Pv i σ H, ⟨n, by simp, Nat.zero_le _, h0⟩, ?_⟩
  rintro i m σ H ⟨rfl, hi, p⟩
  by_cases hlt : i < n
  · obtain ⟨g1, g2⟩ := hgo i σ H hlt p
    exact .inr ⟨g1, Pv (i + 1), fun σ' H' p' => ⟨n - (i + 1), by omega, rfl, hlt, p'⟩, g2⟩
  · obtain rfl : i = n := by omega
    exact .inl (hd σ H p)
def SameX (p : Addr) (H H' : Hp) : Prop := ∀ b o, b ≠ p → H b = some o → H' b = some o
theorem SameX.trans {p : Addr} {H H1 H2 : Hp} (a : SameX p H H1) (b : SameX p H1 H2) : SameX p H H2 := fun c o n h => b c o n (a c o n h)
theorem _root_.L2.Same.x {p : Addr} {H H' : Hp} (a : Same H H') : SameX p H H' := fun c o _ h => a c o h
theorem SameX.upd {p : Addr} {H : Hp} (o : HO) : SameX p H (upd H p o) := fun b u n h => by rw [upd_ne n]; exact h
mutual
theorem Rep.monoX {p : Addr} {H H' : Hp} (h : SameX p H H') (hp : ∀ vs, H p ≠ some (.tup vs)) : ∀ {d : KM.D} {v : V}, Rep H d v → Rep H' d v
  | .non, _, r => r
  | .bl _, _, r => r
  | .int _, _, r => r
  | .str _, _, r => r
  | .tup _, _, ⟨a, vs, e, q, r⟩ => ⟨a, vs, e, h _ _ (fun z => hp vs (by rw [← z]; exact q)) q, Reps.monoX h hp r⟩
theorem Reps.monoX {p : Addr} {H H' : Hp} (h : SameX p H H') (hp : ∀ vs, H p ≠ some (.tup vs)) : ∀ {ds : List KM.D} {vs : List V}, Reps H ds vs → Reps H' ds vs
  | [], _, r => r
  | _ :: _, _, ⟨v, r, e, q, t⟩ => ⟨v, r, e, Rep.monoX h hp q, Reps.monoX h hp t⟩
end
end L3
end
section
namespace L3
open PySem PySem.Spec PyProof.Rows L2
section
variable {prog : Program} {w : World} {A : Around} {E : Value → Shared → Prop} {s : Shared} {d : Addr} {o : Obj} {es : Array DictEntry} {ep : Nat} {hsh : Int}
theorem key_at {i : Nat} {e : DictEntry} (hall : (es.all fun e => isExactStrKey e.key) = true) (h : es[i]? = some e) : ∃ x t, e.key = .str x t := by
  have z := Array.all_eq_true_iff_forall_mem.mp hall e (Array.mem_of_getElem? h)
  cases q : e.key with
  | str x t => exact ⟨x, t, rfl⟩
  | _ => rw [q] at z; cases z
theorem stored_str (hall : (es.all fun e => isExactStrKey e.key) = true) (l : List Nat) : ∀ v ∈ l.filterMap (fun i => es[i]?.map (·.key)), ∃ x t, v = .str x t := fun v hv => by
  obtain ⟨i, _, hi⟩ := List.mem_filterMap.mp hv
  cases he : es[i]? with
  | none => rw [he] at hi; cases hi
  | some e =>
    rw [he] at hi
    obtain ⟨x, t, z⟩ := key_at hall he
    have hi : e.key = v := by simpa using hi
    exact ⟨x, t, by rw [← hi, z]⟩
theorem find_none {Q : Option Nat → Shared → Prop} (ho : s.heap.get? d = some o) (hd : o.data = .dict es ep) (hall : (es.all fun e => isExactStrKey e.key) = true) (h : Q none s) : wpAny (model prog w) A (dictFind d .none hsh) Q E s := by
  have hst := stored_str hall (placesWithHash es.size (fun i => es[i]?.map (·.hash)) hsh)
  unfold dictFind
  try with_reducible refine wpAny_holding ?_
  refine wpAny_bind (wpAny_dictEntries ho hd ?_)
  dsimp only
  rw [if_pos (by
    rw [List.all_cons, List.all_eq_true.mpr]
    · rfl
    · intro v hv
      obtain ⟨x, t, rfl⟩ := hst v hv
      rfl)]
  unfold dictWalkPlain
  refine wpAny_bind ?_
  refine wpAny_forIn_list _ (fun rest r s' => s' = s ∧ r = (none, ())) _ ?_ ?_ _ _ ⟨rfl, rfl⟩
  · rintro i rest r s' ⟨rfl, rfl⟩
    cases he : es[i]? with
    | none => exact wpAny_pure ⟨rfl, rfl⟩
    | some e =>
      dsimp only
      obtain ⟨x, t, ek⟩ := key_at hall he
      by_cases hh : (e.hash == hsh) = true
      · rw [if_pos hh, ek]
        refine wpAny_bind (wpAny_dictEpoch ho hd (wpAny_bind (SeqAt.EqAt.str_none x t prog w E _ (wpAny_bind (wpAny_dictEpoch ho hd ?_)))))
        rw [if_neg (by simp)]
        exact wpAny_bind (wpAny_rule (wpAny_pure ⟨rfl, rfl⟩))
      · rw [if_neg hh]
        exact wpAny_pure ⟨rfl, rfl⟩
  · rintro r s' ⟨rfl, rfl⟩
    exact wpAny_pure h
theorem quiet_empty {a : Addr} {n : Nat} {Q : Bool → Shared → Prop} (ht : s.heap.IsTuple a #[]) (h : Q true s) : wpAny (model prog w) A (eqIsQuiet (n + 1) (.ref a)) Q E s := by
  obtain ⟨oa, ea, ca, na, da⟩ := id ht
  unfold eqIsQuiet
  refine wpAny_bind (wpAny_specialOf ht.typeIs F.slot_tuple_eq.lookup ?_)
  dsimp only
  refine wpAny_bind (wpAny_isInstance ht.typeIs isSubtype_tuple_tuple ?_)
  simp only [Bool.not_true, Bool.false_eq_true, if_false]
  refine wpAny_bind (wpAny_seqItems ea da ?_)
  exact wpAny_pure h
theorem tells_empty {a : Addr} {stored : List Value} {Q : Bool → Shared → Prop} (ht : s.heap.IsTuple a #[]) (hst : ∀ v ∈ stored, ∃ x t, v = Value.str x t) (h : Q false s) : wpAny (model prog w) A (tableMayTell (.ref a) stored) Q E s := by
  unfold tableMayTell
  split
  · exact wpAny_pure h
  · refine wpAny_bind (quiet_empty ht ?_)
    simp only [Bool.not_true, Bool.false_eq_true, if_false]
    refine wpAny_bind ?_
    refine wpAny_forIn_list _ (fun rest r s' => s' = s ∧ r = (none, ()) ∧ ∀ v ∈ rest, ∃ x t, v = Value.str x t) _ ?_ ?_ _ _ ⟨rfl, rfl, hst⟩
    · rintro v rest r s' ⟨rfl, rfl, hr⟩
      obtain ⟨x, t, rfl⟩ := hr v List.mem_cons_self
      refine wpAny_bind (wpAny_of_eq (eqIsQuiet_byValue 8 rfl) ?_)
      simp only [Bool.not_true, Bool.false_eq_true, if_false]
      exact wpAny_pure ⟨rfl, rfl, fun v hv => hr v (List.mem_cons_of_mem _ hv)⟩
    · rintro r s' ⟨rfl, rfl, _⟩
      exact wpAny_pure h
theorem find_empty {a : Addr} {Q : Option Nat → Shared → Prop} (hu : A.units < cLine) (ho : s.heap.get? d = some o) (hd : o.data = .dict es ep) (hall : (es.all fun e => isExactStrKey e.key) = true) (ht : s.heap.IsTuple a #[]) (h : Q none s) :
    wpAny (model prog w) A (dictFind d (.ref a) hsh) Q E s := by
  have hst := stored_str hall (placesWithHash es.size (fun i => es[i]?.map (·.hash)) hsh)
  unfold dictFind
  try with_reducible refine wpAny_holding ?_
  refine wpAny_bind (wpAny_dictEntries ho hd ?_)
  dsimp only
  rw [if_neg (show ¬ ((Value.ref a :: (placesWithHash es.size (fun i => es[i]?.map (·.hash)) hsh).filterMap (fun i => es[i]?.map (·.key))).all carriedByValue) = true by simp [carriedByValue])]
  have hany : ¬ (es.any fun e => e.key == Value.ref a && e.hash != hsh) = true := by
    intro z
    obtain ⟨i, hi, q⟩ := Array.any_eq_true.mp z
    obtain ⟨x, t, ek⟩ := key_at hall (Array.getElem?_eq_getElem hi)
    rw [ek] at q
    cases q
  rw [if_neg hany]
  generalize hS : (placesWithHash es.size (fun i => es[i]?.map (·.hash)) hsh).filterMap (fun i => es[i]?.map (·.key)) = stored at hst ⊢
  have loop : wpAny (model prog w) A (if (false && decide (stored.length ≥ 2)) = true then unsupported "dict.find:order-among-keys-of-one-hash" else pure ()) (fun _ s' => s' = s) E s := by
    rw [if_neg (by simp)]
    exact wpAny_pure rfl
  have hone : ¬ (stored == [Value.ref a]) = true := fun z => by
    have z : stored = [Value.ref a] := by simpa using z
    obtain ⟨x, t, q⟩ := hst (Value.ref a) (by rw [z]; simp)
    cases q
  rw [if_neg hone]
  refine wpAny_bind (tells_empty ht hst ?_)
  rw [if_neg (by simp)]
  refine wpAny_bind ?_
  refine wpAny_forIn_list _ (fun rest r s' => s' = s ∧ r = (none, none)) _ ?_ ?_ _ _ ⟨rfl, rfl⟩
  · rintro i rest r s' ⟨rfl, rfl⟩
    cases he : es[i]? with
    | none => exact wpAny_pure ⟨rfl, rfl⟩
    | some e =>
      dsimp only
      obtain ⟨x, t, ek⟩ := key_at hall he
      by_cases hh : (e.hash == hsh) = true
      · rw [if_pos hh, ek]
        refine wpAny_bind (wpAny_dictEpoch ho hd (wpAny_bind (SeqAt.EqAt.str_tuple x t ht hu prog w E _ (wpAny_bind (wpAny_dictEpoch ho hd ?_)))))
        rw [if_neg (by simp)]
        refine wpAny_bind (wpAny_rule ?_)
        exact wpAny_pure ⟨rfl, rfl⟩
      · rw [if_neg hh]
        exact wpAny_pure ⟨rfl, rfl⟩
  · rintro r s' ⟨rfl, rfl⟩
    exact wpAny_pure h
theorem hash_none {Q : Int → Shared → Prop} (hu : A.units < cLine) (h : ∀ i t, Q i { s with toks := t }) : wpAny (model prog w) A (pyHash .none) Q E s := by
  have ty : s.TypeIs .none "NoneType" := rfl
  unfold pyHash pyHashByItsType
  refine wpAny_bind (wpAny_cRoomFor_or (.inr hu) ?_)
  refine wpAny_bind (wpAny_specialOf ty F.slot_NoneType_hash.lookup ?_)
  show wpAny (model prog w) _ (if (some (Value.builtin "NoneType.__hash__") == some Value.none) = true then _ else _) Q E s
  rw [if_neg (by rw [beq_builtin_none]; exact Bool.false_ne_true)]
  refine wpAny_bind (wpAny_specialOf ty F.slot_NoneType_hash.lookup ?_)
  show wpAny (model prog w) _ (callSpecialIfBoundUnlessNone? .none "__hash__" _ >>= _) Q E s
  refine wpAny_bind (wpAny_callSpecialIfBoundUnlessNone?_slot ty F.slot_NoneType_hash (wpAny_call_entry F.slot_NoneType_hash ty F.entry_NoneType_hash ?_ (F.args_NoneType_hash_1 _)))
  show wpAny (model prog w) _ (retInt 0xFCA86420) _ _ _
  refine wpAny_ret_mkInt ?_
  show wpAny (model prog w) _ (if (decide (-(2 : Int) ^ 63 ≤ 0xFCA86420) && decide ((0xFCA86420 : Int) < 2 ^ 63)) = true then _ else _) Q E _
  rw [if_pos (by decide)]
  exact wpAny_pure (h _ _)
end
section
variable {X : Cx} {pins : List (Addr × Obj)} {σ : L2.St} {H : Hp} {s : Shared} {a : Addr} {D : List (Str × V)} {A : Around} {E : Value → Shared → Prop}
def OddKey (H : Hp) (x : V) : Prop := x = .non ∨ ∃ b, x = .ref b ∧ H b = some (.tup [])
theorem odd_contains {x : V} {u : Value} {Q : Bool → Shared → Prop} (hu : A.units + 1 < cLine) (T : TabK X.K a D) (I : Inv X pins σ H s) (k : OddKey H x) (r : RelV x u) (h : ∀ t, Q false { s with toks := t }) : wpAny (model X.prog X.w) A (contains (.ref a) u) Q E s := by
  have ty := T.typeIs I
  obtain ⟨sys, o, es, ep, ek, _, ed, er⟩ := T
  have eo := I.kIn a o ek
  have ea : (es.all fun e => isExactStrKey e.key) = true := by
    obtain ⟨l⟩ := es
    simpa using er.exact
  unfold contains
  try with_reducible refine wpAny_holding ?_
  refine wpAny_bind (wpAny_specialOf ty slot_dict_contains.lookup ?_)
  show wpAny (model X.prog X.w) _ (if (some (Value.builtin "dict.__contains__") == some Value.none) = true then _ else _) _ E s
  rw [if_neg (by rw [beq_builtin_none]; exact Bool.false_ne_true)]
  refine wpAny_bind (wpAny_callSpecialUnlessNone?_slot (name := Str.ofString "__contains__") ty slot_dict_contains (wpAny_call_entry slot_dict_contains ty entry_dict_contains ?_ (args_dict_contains _ _)))
  show wpAny (model X.prog X.w) _ (dictGet a u >>= _) _ _ s
  refine wpAny_bind ?_
  unfold dictGet
  try with_reducible refine wpAny_holding ?_
  rcases k with rfl | ⟨b, rfl, hb⟩
  · cases r
    refine wpAny_bind (hash_none (by show A.units + 1 < cLine; exact hu) fun i t => wpAny_bind (find_none (s := { s with toks := t }) eo ed ea ?_))
    refine wpAny_pure ?_
    show wpAny (model X.prog X.w) _ (Builtin.Dict.pendingKey? a .none >>= _) _ _ _
    exact wpAny_bind (wpAny_pendingKey_other sys (wpAny_pure ⟨_, rfl, wpAny_truthy_bool (h t)⟩))
  · cases r
    obtain ⟨_, its, rv, hp⟩ := I.hok b _ hb
    cases rv
    have ht : s.heap.IsTuple b #[] := hp
    refine wpAny_bind (wpAny_pyHash_tuple (knd := mixKind X.prog X.w) (ks := []) (by show A.units + 1 < cLine; exact hu) ?_ (wpAny_bind (find_empty (by show A.units + 1 < cLine; exact hu) (s := { s with toks := s.toks + 1 }) eo ed ea ht ?_)))
    · obtain ⟨ob, e1, c1, n1, d1⟩ := ht
      exact ⟨ob, #[], n1, e1, c1, d1, .nil⟩
    · refine wpAny_pure ?_
      show wpAny (model X.prog X.w) _ (Builtin.Dict.pendingKey? a (.ref b) >>= _) _ _ _
      exact wpAny_bind (wpAny_pendingKey_other sys (wpAny_pure ⟨_, rfl, wpAny_truthy_bool (h _)⟩))
theorem op_notin_odd {X : Cx} (hu : X.A.units + 1 < cLine) : OpR X (compareOp .NotIn) (fun x y H Q => ∃ a D, y = .ref a ∧ TabK X.K a D ∧ OddKey H x ∧ Q (.bl true) H) := by
  intro pins s σ H x y v u Q I rx ry h
  obtain ⟨a, D, rfl, T, k, q⟩ := h
  cases ry
  show wpAny (model X.prog X.w) _ (do return Value.bool (!(← contains (.ref a) v)) : Sem Value) _ _ s
  exact wpAny_bind (odd_contains hu T I k rx fun t => wpAny_pure ⟨.bl true, H, I.tok _, rfl, q⟩)
end
end L3
end
section
namespace L3
open PySem L2
section
variable {prog : Program} {w : World} {A : Around} {E : Value → Shared → Prop} {s : Shared}
theorem nx_lst {it t : Addr} {i : Nat} {its : Array Value} {x : Value} {Q : Value → Shared → Prop} (gi : s.heap.IsListIter it t i) (gt : s.heap.IsList t its) (gx : its[i]? = some x)
    (hQ : ∀ h', h'.IsListIter it t (i + 1) → Heap.SameBut it s.heap h' → Q x { s with heap := h' }) : wpAny (model prog w) A (Builtin.SmallTypes.nextOf (.ref it)) Q E s := by
  obtain ⟨oi, ei, ci, di⟩ := id gi
  obtain ⟨ot, et, _, nt, dt⟩ := gt
  unfold Builtin.SmallTypes.nextOf
  refine wpAny_bind (wpAny_callSpecial?_slot (name := Str.ofString "__next__") gi.typeIs slot_listiter_next (wpAny_call_entry slot_listiter_next gi.typeIs entry_listiter_next ?_ (args_listiter_next _)))
  show wpAny (model prog w) _ (field (.ref it) 0 >>= _) _ _ s
  refine wpAny_bind (wpAny_field ei di (x := .ref t) rfl ?_)
  show wpAny (model prog w) _ (if (Value.ref t == Value.none) = true then _ else _) _ _ s
  rw [if_neg (show ¬ (Value.ref t == Value.none) = true from Bool.false_ne_true)]
  show wpAny (model prog w) _ (field (.ref it) 1 >>= _) _ _ s
  refine wpAny_bind (wpAny_field ei di (x := .int i 0) rfl ?_)
  show wpAny (model prog w) _ (seqItems? (.ref t) >>= _) _ _ s
  refine wpAny_bind (wpAny_seqItems et dt ?_)
  simp only [Int.toNat_natCast, gx]
  refine wpAny_bind (wpAny_setField ei di (by simp) (wpAny_pure ⟨x, rfl, wpAny_pure (hQ _ ?_ (Heap.SameBut.update ..))⟩))
  refine ⟨_, Heap.get?_update_self _ ei (Obj.isFreed_of_fields (Obj.data_mapFields di _)), (Obj.cls_mapFields ..).trans ci, ?_⟩
  rw [Obj.data_mapFields di]
  simp [rawInt]
theorem nx_lst_end {it t : Addr} {i : Nat} {its : Array Value} {Q : Value → Shared → Prop} (hb : HB s.heap A) (na : ∀ a, A.handled = some (.ref a) → a ≠ it) (gi : s.heap.IsListIter it t i) (gt : s.heap.IsList t its) (gx : its[i]? = none)
    (hE : ∀ h' e, Heap.ExtBut it s.heap h' → (∃ o, h'.get? e = some o ∧ o.cls = .type "StopIteration") → E (.ref e) { s with heap := h' }) : wpAny (model prog w) A (Builtin.SmallTypes.nextOf (.ref it)) Q E s := by
  obtain ⟨oi, ei, ci, di⟩ := id gi
  obtain ⟨ot, et, _, nt, dt⟩ := gt
  unfold Builtin.SmallTypes.nextOf
  refine wpAny_bind (wpAny_callSpecial?_slot (name := Str.ofString "__next__") gi.typeIs slot_listiter_next (wpAny_call_entry slot_listiter_next gi.typeIs entry_listiter_next ?_ (args_listiter_next _)))
  show wpAny (model prog w) _ (field (.ref it) 0 >>= _) _ _ s
  refine wpAny_bind (wpAny_field ei di (x := .ref t) rfl ?_)
  show wpAny (model prog w) _ (if (Value.ref t == Value.none) = true then _ else _) _ _ s
  rw [if_neg (show ¬ (Value.ref t == Value.none) = true from Bool.false_ne_true)]
  show wpAny (model prog w) _ (field (.ref it) 1 >>= _) _ _ s
  refine wpAny_bind (wpAny_field ei di (x := .int i 0) rfl ?_)
  show wpAny (model prog w) _ (seqItems? (.ref t) >>= _) _ _ s
  refine wpAny_bind (wpAny_seqItems et dt ?_)
  simp only [Int.toNat_natCast, gx]
  refine wpAny_bind (wpAny_rule (wpAny_bind (wpAny_setField ei di (by simp) ?_)))
  exact stop_made (A := A.in1) (hb.upd na) fun h' e k he => hE h' e (ext_upd k) he
end
theorem draws_lst {prog : Program} {w : World} {A : Around} (it t : Addr) (ne : t ≠ it) (na : ∀ a, A.handled = some (.ref a) → a ≠ it) (its : Array Value) :
    Draws prog w A it (it :: t :: hAdr A) its.size (fun i v => its[i]? = some v) (fun i h => h.IsListIter it t i ∧ h.IsList t its ∧ HB h A) where
  live := fun _ _ st => let ⟨o, ho, _⟩ := st.1; ⟨o, ho⟩
  frame := fun i h h' st hk => by
    obtain ⟨⟨o1, e1, r1⟩, ⟨o2, e2, r2⟩, hb⟩ := st
    exact ⟨⟨o1, hk it (by simp) o1 e1, r1⟩, ⟨o2, hk t (by simp) o2 e2, r2⟩, hb.frame fun b hb => hk b (by simp [hb])⟩
  item := fun i s Q E hi st hQ => by
    refine nx_lst st.1 st.2.1 (x := its[i]) (by simp [hi]) fun h' k1 k2 => ?_
    exact hQ _ h' s.toks (by simp [hi]) ⟨k1, st.2.1.extBut k2.extBut ne, st.2.2.mono fun a o ea eo => k2.extBut a o (na a ea) eo⟩ k2
  done := fun s Q E st hE => nx_lst_end st.2.2 na st.1 st.2.1 (by simp) hE
section
variable {prog : Program} {w : World} {A : Around} {E : Value → Shared → Prop} {s : Shared}
end
end L3
end
section
namespace L3
open PySem PySem.Spec PyProof.Rows L2
theorem sq_neL {X : Cx} {pins : List (Addr × Obj)} {σ : L2.St} {H : Hp} {s : Shared} {a d : Addr} {xs : List V} (I : Inv X pins σ H s) (q : SqL X.K H a xs) (f : FpOk X pins H d) : a ≠ d := fun z => by
  subst z
  rcases q with (q | ⟨o, q⟩) | ⟨o, _, _, q, _⟩
  · rw [f.1] at q; cases q
  · rw [f.1] at q; cases q
  · have e := I.ok.mod.kin a o q
    rcases f.2.2.2.1 with z | z
    · exact I.ok.noex a o e z
    · exact absurd (Nat.lt_of_lt_of_le (Heap.lt_size e) I.ok.bsz) (Nat.not_lt.mpr z)
structure ZRecL (a b z TI TO i1 i2 : Addr) (i : Nat) (h : Heap) : Prop where
  z : IsZip h z TI TO .none
  TI : IsPair h TI (.ref i1) (.ref i2)
  TO : ∃ u v, IsPair h TO u v
  i1 : h.IsListIter i1 a i
  i2 : h.IsListIter i2 b i
end L3
end
section
namespace L3
open PySem PySem.Spec PyProof.Rows L2
theorem bt_tuple : bootBuiltins "tuple" = some (.type "tuple") := by decide +kernel
theorem bt_int : bootBuiltins "int" = some (.type "int") := by decide +kernel
theorem bt_bool : bootBuiltins "bool" = some (.type "bool") := by decide +kernel
theorem bt_str : bootBuiltins "str" = some (.type "str") := by decide +kernel
theorem bt_list : bootBuiltins "list" = some (.type "list") := by decide +kernel
theorem bt_len : bootBuiltins "len" = some (.builtin "len") := by decide +kernel
theorem bt_isinstance : bootBuiltins "isinstance" = some (.builtin "isinstance") := by decide +kernel
theorem bt_all : bootBuiltins "all" = some (.builtin "all") := by decide +kernel
theorem bt_max : bootBuiltins "max" = some (.builtin "max") := by decide +kernel
def Df (K : PySem.W.Frag) (mg : Str → Option Value) (x : Str) (st : Stmt) (ps : List Str) : Prop := ∃ f fd, Fun K x x st f fd ∧ mg x = some (.ref f) ∧ Binds K fd ps []
def Cal (P : Program) (w : World) (K : PySem.W.Frag) (mg : Str → Option Value) (CX : CXT) (x : Str) (k : Nat) (ps : List Str) (sp : Sp) : Prop :=
  ∃ f fd, (∀ base, FnOk P w K mg base CX k f fd ps sp) ∧ mg x = some (.ref f) ∧ PySem.W.keepIn K (.ref f) = true ∧ Binds K fd ps []
section
variable {P : Program} {w : World} {K : PySem.W.Frag} {mg : Str → Option Value}
theorem Df.ok {x : Str} {st : Stmt} {N ps : List Str} {k : Nat} {sp : Sp} (D : Df K mg x st ps) (S : FnScope N ps (defScope st)) (len : ∀ vs H Q E, sp vs H Q E → vs.length = ps.length)
    (hbody : ∀ (base : Heap) (f : Addr) (cdv : Value) (A : Around) (outer : List Env) (s : Shared) (H : Hp) (vs : List V) (Q : VK) (E : XK), Room k (A.deeper (envOfC x (defScope st) s.heap.objs.size f cdv)) → sp vs H Q E →
      ∃ t, PSs (cxOf CX0 P w K mg base N x (defScope st) f cdv A outer s H E).nox (defBody st) t ∧ t { nx := fun _ H' => Q .non H', rt := Q } (start N vs) H) : Cal P w K mg CX0 x (k + 1) ps sp := by
  obtain ⟨f, fd, F, m, b⟩ := D
  exact ⟨f, fd, fun base => F.ok S len (hbody base f), m, F.kp, b⟩
theorem Cal.mono {CX : CXT} {x : Str} {j k : Nat} {ps : List Str} {sp : Sp} (F : Cal P w K mg CX x j ps sp) (h : j ≤ k) : Cal P w K mg CX x k ps sp := by
  obtain ⟨f, fd, F, r⟩ := F
  exact ⟨f, fd, fun base => (F base).mono h, r⟩
theorem Cal.never {x : Str} {st : Stmt} {ps : List Str} {sp : Sp} {k : Nat} {CX : CXT} (D : Df K mg x st ps) (no : ∀ vs H Q E, ¬ sp vs H Q E) : Cal P w K mg CX x k ps sp := by
  obtain ⟨f, fd, F, m, b⟩ := D
  exact ⟨f, fd, fun base => ⟨fun vs H Q E h => absurd h (no vs H Q E), fun A outer s H args us vs Q E _ _ _ _ h => absurd h (no vs H Q E)⟩, m, F.kp, b⟩
end
def hidX (h : Heap) (H : Hp) (fs : List Addr) : Heap := PySem.W.hideAll (hidT h H) fs
theorem hidX_get {h : Heap} {H : Hp} {fs : List Addr} {b : Addr} {o : Obj} (e : h.get? b = some o) (n : H b = none) (hf : b ∉ fs) : (hidX h H fs).get? b = some o := PySem.W.hideAll_get _ (hidT_get e n) hf
theorem of_hidX {h : Heap} {H : Hp} {fs : List Addr} {b : Addr} {o : Obj} (e : (hidX h H fs).get? b = some o) : h.get? b = some o ∧ H b = none := of_hidT (PySem.W.of_hideAll fs e)
theorem hidX_size (h : Heap) (H : Hp) (fs : List Addr) : (hidX h H fs).objs.size = h.objs.size := (PySem.W.hideAll_size _ _).trans (hidT_size h H)
theorem funFrames_of {h B B' : Heap} : ∀ {l : List Env}, h.FunFrames B l → (∀ L ∈ frs l, B'.get? L = none) → h.FunFrames B' l
  | [], _, _ => trivial
  | env :: l, ⟨hk, ⟨L, o, hf, _, ho, hd⟩, hr⟩, hn => ⟨hk, ⟨L, o, hf, hn L (by unfold frs; rw [List.filterMap_cons, hf]; exact List.mem_cons_self), ho, hd⟩, funFrames_of hr fun b hb => hn b (by unfold frs at hb ⊢; rw [List.filterMap_cons, hf]; exact List.mem_cons_of_mem _ hb)⟩
theorem env1 {X : Cx} {pins : List (Addr × Obj)} {σ : L2.St} {H : Hp} {s : Shared} (I : Inv X pins σ H s) (hc : X.calm = true) : Env0 X.prog X.w X.K X.mg (hidX s.heap H (frs X.stack)) X.A X.stack s H := by
  have nf : ∀ b o, X.base.get? b = some o → b ∉ frs X.stack := fun b o e z => by
    rcases List.mem_cons.mp (I.stkSub b z) with z | z
    · have := Heap.lt_size e
      rw [z] at this
      exact absurd this (Nat.not_lt.mpr (Nat.le_trans I.ok.bsz I.ok.above))
    · exact I.ok.nofr e z
  have up : ∀ b o, X.base.get? b = some o → (hidX s.heap H (frs X.stack)).get? b = some o := fun b o e => hidX_get (I.bs b o e).1 (I.bs b o e).2 (nf b o e)
  obtain ⟨mb, b1, b2⟩ := I.ok.mod.blt
  refine ⟨I.ok.frames, ⟨I.ok.mod.kin.keeps up, I.ok.mod.glob.keeps up, ⟨mb, b1.keeps up, b2⟩, I.ok.mod.nolimit.keeps up, I.ok.mod.bm.keeps up⟩, fun b o e => of_hidX e, Nat.le_of_eq (hidX_size _ _ _), funFrames_of I.stack fun L hL => PySem.W.hideAll_none _ hL, I.stkFree, I.hok, I.bare, ?_⟩
  rcases I.ok.hd hc with h | ⟨a, oe, vs, e1, e2, e3⟩
  · exact .inl h
  · refine .inr ⟨a, oe, vs, e1, ?_, e3⟩
    rcases e2 with e2 | e2
    · exact up a oe e2
    · obtain ⟨q1, q2, q3, q4, _⟩ := I.pin (a, oe) (List.mem_append_left _ e2)
      refine hidX_get q1 q2 fun z => ?_
      rcases List.mem_cons.mp (I.stkSub a z) with z | z
      · exact q3 z
      · exact q4 z
theorem run_cal {X : Cx} {CX : CXT} {k : Nat} {f : Addr} {fd : FuncData} {ps : List Str} {sp : Sp} {E : XK} {pins : List (Addr × Obj)} {σ : L2.St} {H : Hp} {s : Shared} {Q : VK} {us : List Value} {vs : List V} {XE : Value → Shared → Prop}
    (F : ∀ base, FnOk X.prog X.w X.K X.mg base CX k f fd ps sp) (hr : Room k X.A) (hb : Binds X.K fd ps []) (I : Inv X pins σ H s) (hc : X.calm = true) (hx : ∀ e s', CX X.A.handled X.stack H s E e s' → XE e s') (r : Vals vs us) (h : sp vs H Q E) :
    wpAny (model X.prog X.w) X.A (call (.ref f) us) (EP X pins σ Q) XE s := by
  have hl : us.length = ps.length := by rw [← r.length]; exact (F (hidX s.heap H (frs X.stack))).len _ _ _ _ h
  have bt := hb s us I.kIn (by rw [List.append_nil]; exact hl)
  rw [List.append_nil] at bt
  refine wpAny_call (codeAny_mono ((F _).run X.A X.stack s H ⟨us, []⟩ us vs Q E hr (env1 I hc) bt r h) fun r s' hq => ?_)
  cases r with
  | error e => exact hx e s' hq
  | ok fl =>
    cases fl with
    | ret u => exact I.after hq
    | next => exact False.elim hq
    | brk => exact False.elim hq
    | cont => exact False.elim hq
theorem pe_fn {X : Cx} {CX : CXT} {x : Str} {k : Nat} {ps : List Str} {sp : Sp} {E : XK} {e : Expr} {es : List Expr} {t : TA} {p pos : Pos} (F : Cal X.prog X.w X.K X.mg CX x k ps sp) (hr : Room k X.A) (hg : Gl X x) (hx : Passes CX X E)
    (ha : PA X (e :: es) t) (hdb : (x == ("__debug__" : Str)) = false := by decide) (he : starEach (e :: es) X.env = (false, eval e X.env) :: starEach es X.env := by rfl) (hpl : (backTo pos (starEach es X.env)).any (·.1) = false := by rfl) (hc : X.calm = true := by rfl) :
    PE X (.Call (.Name x p) (e :: es) [] pos) (tCall sp [] E t) := by
  obtain ⟨f, fd, F, m, kp, b⟩ := F
  intro pins s σ H Q I h
  refine wpAny_Call_Name_kw (ld_glob I hg m ?_ hdb)
  refine PySem.W.callWith_K (h₀ := X.base) I.ok.mod.kin kp (thn (ha pos pins s σ H _ I h) fun us s1 ⟨vs, H1, I1, r, q⟩ => ⟨I1.kIn, ?_⟩) he hpl
  have q : sp (vs ++ []) H1 Q E := q
  rw [List.append_nil] at q
  exact run_cal F hr b I1 hc (fun e s' hc => hx pins σ H1 s1 e s' I1 hc) r q
theorem pe_gint {X : Cx} {x : Str} {i : Int} {pos : Pos} (hm : ∃ t, X.mg x = some (.int i t)) (hg : Gl X x) (hd : (x == ("__debug__" : Str)) = false := by decide) : PE X (.Name x pos) (tC (.int i)) := by
  obtain ⟨t, hm⟩ := hm
  exact pe_glob hg hm ⟨t, rfl⟩ hd
theorem pe_gstr {X : Cx} {x : Str} {z : Str} {pos : Pos} (hm : ∃ t, X.mg x = some (.str z t)) (hg : Gl X x) (hd : (x == ("__debug__" : Str)) = false := by decide) : PE X (.Name x pos) (tC (.str z)) := by
  obtain ⟨t, hm⟩ := hm
  exact pe_glob hg hm ⟨t, rfl⟩ hd
theorem pe_gref {X : Cx} {x : Str} {a : Addr} {pos : Pos} (hm : X.mg x = some (.ref a)) (hg : Gl X x) (hd : (x == ("__debug__" : Str)) = false := by decide) : PE X (.Name x pos) (tC (.ref a)) := pe_glob hg hm rfl hd
theorem pe_ty {X : Cx} {x : Str} {n : String} {pos : Pos} (hm : X.mg x = none) (hv : bootBuiltins x = some (.type n)) (hg : Gl X x) (hn : x ≠ "__name__" := by decide) (hd : (x == ("__debug__" : Str)) = false := by decide) : PE X (.Name x pos) (tC (.ty n)) := pe_bltn hg hm hv rfl hn hd
def blkChk (outer : List (Str × NameKind)) (N N' : List Str) (own : Nat) (fr : List Nat) (scope : Scope) : Bool :=
  scope.names.all (fun y => y.2 != .cell && (y.2 != .local || scope.names.lookup y.1 == some .local) && (y.2 != .free || outer.lookup y.1 == some .cell || outer.lookup y.1 == some .free)) &&
  decide (N'.length = own + fr.length) && (List.range fr.length).all (fun j => match fr[j]? with
    | some i => match N'[own + j]? with
      | some x => N[i]? == some x && scope.names.lookup x == some .free
      | none => false
    | none => true)
theorem blk_of {X : Cx} {N N' : List Str} {own : Nat} {fr : List Nat} {sc scope : Scope} (hs : X.env.scope = sc) (hN : X.N = N) (hk : scope.kind = .function) (h : blkChk sc.names N N' own fr scope = true) : BlkScope X N' own fr scope := by
  unfold blkChk at h
  simp only [Bool.and_eq_true, List.all_eq_true, decide_eq_true_eq] at h
  obtain ⟨⟨h1, h2⟩, h3⟩ := h
  subst hN
  refine ⟨hk, fun y hy => ?_, fun y hy e => ?_, fun y hy e => ?_, h2, fun j i e => ?_⟩
  · simpa using (h1 y hy).1.1
  · have := (h1 y hy).1.2
    simpa [e] using this
  · have := (h1 y hy).2
    unfold Env.kindOf
    rw [hs]
    simpa [e] using this
  · have hj : j < fr.length := (List.getElem?_eq_some_iff.mp e).1
    have := h3 j (by simpa using hj)
    rw [e] at this
    cases hx : N'[own + j]? with
    | none => simp [hx] at this
    | some x =>
      simp only [hx, Bool.and_eq_true, beq_iff_eq] at this
      exact ⟨x, rfl, this.1, this.2⟩
end L3
end
section
namespace L3
open PySem PySem.Spec PyProof.Rows L2
section
variable {prog : Program} {w : World} {A : Around} {E : Value → Shared → Prop} {s : Shared}
end
section
variable {prog : Program} {w : World} {A : Around} {R : Result → Shared → Prop} {I : Addr} {fp wr : List Addr} {P : Nat → Value → Prop} {St : Nat → Heap → Prop}
end
section
variable {X : Cx} {pins : List (Addr × Obj)} {σ : L2.St} {H : Hp} {s : Shared}
end
end L3
end
section
namespace L3
open PySem PySem.Spec PyProof.Rows L2
theorem same_upd {H H2 : Hp} {p : Addr} {o : HO} (h : Same H H2) (hp : H p = none) : Same H (upd H2 p o) := fun b u q => by rw [upd_ne (ne_of_none q hp)]; exact h b u q
theorem comp_opt {J : It} {p : Addr} {H1 : Hp} {g : TG} {tt : TT} {te : TE} {b : L2.St} {C : Hp → Prop} (n : Nat) (f : Nat → Option V) (hp : H1 p = none) (hn : n ≤ sizeLine)
    (hgo : ∀ i H2, i < n → Same H1 H2 → J.go i H2 ∧ ∀ x H3, J.yld i H2 x H3 → ∀ (R : V → Hp → Prop) (R0 : Hp → Prop), (∀ v H6, f i = some v → Same H2 H6 → R v H6) → (∀ H5, f i = none → Same H2 H5 → R0 H5) →
      g x b H3 fun σ4 H4 => tt σ4 H4 fun ok H5 => if ok = true then te σ4 H5 R else R0 H5)
    (hd : ∀ H2, Same H1 H2 → H2 p = some (.lst ((List.range n).filterMap f)) → J.stop n H2 ∧ C H2) :
    ∃ W : Nat → Nat → List V → Hp → Prop, (∃ m, W 0 m [] (upd H1 p (.lst []))) ∧ ∀ i m acc H2, W i m acc H2 → (J.stop i H2 ∧ C H2) ∨ (J.go i H2 ∧ ∀ x H3, J.yld i H2 x H3 → g x b H3 fun σ4 H4 => tt σ4 H4 fun ok H5 =>
      if ok = true then te σ4 H5 fun v H6 => H6 p = some (.lst acc) ∧ acc.length < sizeLine ∧ ∃ m', m' < m ∧ W (i + 1) m' (acc ++ [v]) (upd H6 p (.lst (acc ++ [v]))) else ∃ m', m' < m ∧ W (i + 1) m' acc H5) := by
  refine comp_by (Q := fun _ H => C H) n (fun i acc H2 => acc = (List.range i).filterMap f ∧ H2 p = some (.lst acc) ∧ Same H1 H2) ⟨rfl, upd_same, same_new hp _⟩ ?_ ?_
  · rintro i acc H2 hi ⟨rfl, h2, s2⟩
    obtain ⟨g1, g2⟩ := hgo i H2 hi s2
    have lng : ((List.range i).filterMap f).length < sizeLine := by
      have := List.length_filterMap_le f (List.range i)
      rw [List.length_range] at this
      omega
    refine ⟨g1, fun x H3 y => g2 x H3 y _ _ (fun v H6 e s6 => ⟨s6 _ _ h2, lng, nx hi ⟨?_, upd_same, same_upd (s2.trans s6) hp⟩⟩) fun H5 e s5 => nx hi ⟨?_, s5 _ _ h2, s2.trans s5⟩⟩
    · rw [List.range_succ, List.filterMap_append]; simp [e]
    · rw [List.range_succ, List.filterMap_append]; simp [e]
  · rintro acc H2 ⟨rfl, h2, s2⟩
    exact hd H2 s2 h2
theorem comp_vals {J : It} {p : Addr} {H1 : Hp} {g : TG} {te : TE} {b : L2.St} {C : Hp → Prop} (n : Nat) (f : Nat → V) (hp : H1 p = none) (hn : n ≤ sizeLine)
    (hgo : ∀ i H2, i < n → Same H1 H2 → J.go i H2 ∧ ∀ x H3, J.yld i H2 x H3 → ∀ (R : V → Hp → Prop), (∀ H6, Same H2 H6 → R (f i) H6) → g x b H3 fun σ4 H4 => te σ4 H4 R)
    (hd : ∀ H2, Same H1 H2 → H2 p = some (.lst ((List.range n).map f)) → J.stop n H2 ∧ C H2) :
    ∃ W : Nat → Nat → List V → Hp → Prop, (∃ m, W 0 m [] (upd H1 p (.lst []))) ∧ ∀ i m acc H2, W i m acc H2 → (J.stop i H2 ∧ C H2) ∨ (J.go i H2 ∧ ∀ x H3, J.yld i H2 x H3 → g x b H3 fun σ4 H4 => tYes σ4 H4 fun ok H5 =>
      if ok = true then te σ4 H5 fun v H6 => H6 p = some (.lst acc) ∧ acc.length < sizeLine ∧ ∃ m', m' < m ∧ W (i + 1) m' (acc ++ [v]) (upd H6 p (.lst (acc ++ [v]))) else ∃ m', m' < m ∧ W (i + 1) m' acc H5) := by
  refine comp_by (Q := fun _ H => C H) n (fun i acc H2 => acc = (List.range i).map f ∧ H2 p = some (.lst acc) ∧ Same H1 H2) ⟨rfl, upd_same, same_new hp _⟩ ?_ ?_
  · rintro i acc H2 hi ⟨rfl, h2, s2⟩
    obtain ⟨g1, g2⟩ := hgo i H2 hi s2
    refine ⟨g1, fun x H3 y => ?_⟩
    simp only [tYes, if_true]
    refine g2 x H3 y _ fun H6 s6 => ⟨s6 _ _ h2, by rw [List.length_map, List.length_range]; omega, nx hi ⟨?_, upd_same, same_upd (s2.trans s6) hp⟩⟩
    rw [List.range_succ, List.map_append]; rfl
  · rintro acc H2 ⟨rfl, h2, s2⟩
    exact hd H2 s2 h2
theorem op_notin_key {X : Cx} (hu : X.A.units + 1 < cLine) : OpR X (compareOp .NotIn) (fun x y H Q => (∃ k a D, x = .str k ∧ y = .ref a ∧ TabK X.K a D ∧ Q (.bl (!inT k D)) H) ∨ ∃ a D, y = .ref a ∧ TabK X.K a D ∧ OddKey H x ∧ Q (.bl true) H) := by
  intro pins s σ H x y v u Q I rx ry h
  rcases h with h | h
  · exact op_notin_tab pins s σ H x y v u Q I rx ry h
  · exact op_notin_odd hu pins s σ H x y v u Q I rx ry h
end L3
end
section
namespace HT
open PySem PyProof.Rows
section
open PySem.SeqAt
open PySem.AutoSeq1 (wpAny_loadPart')
open PySem.MeetsSeq PySem.MeetsSeq2 PySem.MeetsSeq3
variable {prog : Program} {w : World} {A : Around} {E : Value → Shared → Prop} {s : Shared}
theorem getItem_tuple_whole {t sl : Addr} {items : Array Value} {vl vu : Value} {lo hi : Option Int} {Q : Value → Shared → Prop} (ht : IsTup s.heap t items) (hs : s.heap.IsSliceOf sl vl vu .none) (pl : IsPart vl lo) (pu : IsPart vu hi)
    (h1 : sIx items.size 0 lo = 0) (h2 : sIx items.size items.size hi = items.size) (h : Q (.ref t) s) : wpAny (model prog w) A (getItem (.ref t) (.ref sl)) Q E s := by
  obtain ⟨os, hos, hcs, hds⟩ := id hs
  have hTs : s.TypeIs (.ref sl) "slice" := ⟨os, hos, hcs⟩
  unfold getItem
  try with_reducible refine wpAny_holding ?_
  first | refine wpAny_bind (wpAny_pure ?_) | skip
  refine wpAny_bind (wpAny_sequenceKey ht.typeIs (by decide) ?_)
  refine wpAny_bind (wpAny_callSpecial?_slot (name := Str.ofString "__getitem__") ht.typeIs PyProof.Rows.slot_tuple_getitem
    (wpAny_call_entry PyProof.Rows.slot_tuple_getitem ht.typeIs entry_tuple_getitem ?_ (args_tuple_getitem _ _)))
  show wpAny _ _ (Builtin.Tuple.tupleItemsOf (.ref t) >>= _) _ _ s
  refine wpAny_bind (tupleItemsOf_ ht ?_)
  refine wpAny_bind (wpAny_typeOf hTs ?_)
  rw [if_pos (by decide)]
  refine wpAny_bind (sliceApplied_gen hs pl pu ?_)
  have hyes : (((sIx items.size 0 lo : Nat) : Int) == 0 && (1 : Int) == 1 && (sIx items.size items.size hi - sIx items.size 0 lo) == items.size) = true := by
    rw [h1, h2]; simp
  show wpAny _ _ (if (((sIx items.size 0 lo : Nat) : Int) == 0 && (1 : Int) == 1 && (sIx items.size items.size hi - sIx items.size 0 lo) == items.size) = true then _ else _) _ _ s
  rw [if_pos hyes]
  show wpAny _ _ (Builtin.Tuple.tupleIsExact (.ref t) >>= _) _ _ s
  refine wpAny_bind ?_
  unfold Builtin.Tuple.tupleIsExact
  refine wpAny_bind (wpAny_typeOf ht.typeIs (wpAny_pure ?_))
  rw [if_pos (by decide)]
  exact wpAny_bind (wpAny_rule (wpAny_pure ⟨_, rfl, wpAny_pure h⟩))
end
end HT
namespace L3
open PySem PySem.Spec PyProof.Rows L2
def rSlW (K : PySem.W.Frag) : V → Option Int → Option Int → Hp → VK → Prop := fun x lo hi H Q => ∃ a xs, x = .ref a ∧ SqT K H a xs ∧ (∀ p, H p = none → Q (.ref p) (upd H p (.tup (cutV xs lo hi)))) ∧ (cutV xs lo hi = xs → Q (.ref a) H)
theorem sl_tupW {X : Cx} : SlR X (rSlW X.K) := by
  intro pins s σ H x v vl vu lo hi sl Q I rx hs pl pu h
  obtain ⟨a, xs, rfl, hx, q1, q2⟩ := h
  by_cases hw : HT.sIx xs.length 0 lo = 0 ∧ HT.sIx xs.length xs.length hi = xs.length
  · cases rx
    obtain ⟨its, r, ht, hz⟩ := I.tuple hx
    have hlen : its.toArray.size = xs.length := by rw [List.size_toArray]; exact r.length.symm
    refine ⟨"tuple", _, PyProof.Rows.slot_tuple_getitem.lookup, ht.typeIs, ?_⟩
    refine HT.getItem_tuple_whole ht hs pl pu (by rw [hlen]; exact hw.1) (by rw [hlen]; exact hw.2) ⟨.ref a, H, I, rfl, q2 ?_⟩
    unfold cutV
    rw [hw.1, hw.2, List.drop_zero, Nat.sub_zero, List.take_length]
  · exact sl_tup pins s σ H _ v vl vu lo hi sl Q I rx hs pl pu ⟨a, xs, rfl, hx, hw, q1⟩
theorem cutV_from (xs : List V) (k : Nat) : cutV xs (some (k : Int)) none = xs.drop k := by
  unfold cutV
  rw [HT.sIx_none, HT.sIx_nat]
  by_cases h : k ≤ xs.length
  · rw [Nat.min_eq_left h]
    exact List.take_of_length_le (by rw [List.length_drop]; omega)
  · rw [Nat.min_eq_right (by omega), List.drop_eq_nil_of_le (Nat.le_refl _), List.drop_eq_nil_of_le (show xs.length ≤ k by omega)]
    simp
theorem cutV_to (xs : List V) (k : Nat) : cutV xs none (some (k : Int)) = xs.take k := by
  unfold cutV
  rw [HT.sIx_none, HT.sIx_nat, List.drop_zero, Nat.sub_zero]
  by_cases h : k ≤ xs.length
  · rw [Nat.min_eq_left h]
  · rw [Nat.min_eq_right (by omega), List.take_of_length_le (Nat.le_refl _), List.take_of_length_le (show xs.length ≤ k by omega)]
end L3
end
section
namespace L3
open PySem PySem.Spec PyProof.Rows L2
section
variable {X : Cx} {K : PySem.W.Frag}
theorem call_isinstK (hK : X.K = K := by rfl) : CallR X (.builtin "isinstance") (fun xs H Q => ∃ x t n b, xs = [x, .ty n] ∧ TyOf K H x t ∧ PySem.W.kitOne K t (.type n) = some b ∧ Q (.bl b) H) := by subst hK; exact call_isinst
theorem ix_tupK (hK : X.K = K := by rfl) : IxR X (rIxT K) := by subst hK; exact ix_tup
end
end L3
end
section
namespace L3
open PySem PySem.Spec PyProof.Rows L2
def maxN : List Nat → Nat
  | [] => 0
  | a :: r => max a (maxN r)
end L3
end
section
namespace L3
open PySem PySem.Spec L2
variable {K : PySem.W.Frag}
def SqK (K : PySem.W.Frag) (a : Addr) (xs : List V) : Prop := ∃ (o : Obj) (its : Array Value) (n : Nat), K.lookup a = some o ∧ o.cls = .type "tuple" ∧ o.data = .seq its n ∧ its.size ≤ sizeLine ∧ Vals xs its.toList
structure KD (K : PySem.W.Frag) (a : Addr) (rows : List (Str × List V)) (as : List Addr) : Prop where
  len : as.length = rows.length
  tab : TabK K a ((rows.zip as).map fun p => (p.1.1, V.ref p.2))
  sq : ∀ p ∈ rows.zip as, SqK K p.2 p.1.2
theorem datum_zip {α β : Type} {x : Str} (f : (Str × α) × β → V) : ∀ (rows : List (Str × α)) (as : List β), as.length = rows.length →
    (∃ r a, (r, a) ∈ rows.zip as ∧ r.1 = x ∧ rows.lookup x = some r.2 ∧ PyProof.Rows.KTD.datumAt x ((rows.zip as).map fun p => (p.1.1, f p)) = some (f (r, a))) ∨
    (rows.lookup x = none ∧ PyProof.Rows.KTD.datumAt x ((rows.zip as).map fun p => (p.1.1, f p)) = none)
  | [], _, _ => .inr ⟨rfl, rfl⟩
  | (k, v) :: rows, [], h => by simp at h
  | (k, v) :: rows, a :: as, h => by
    have ih := datum_zip (x := x) f rows as (by simpa using h)
    by_cases e : x = k
    · subst e
      exact .inl ⟨(x, v), a, List.mem_cons_self, rfl, by simp [List.lookup], by simp [PyProof.Rows.KTD.datumAt]⟩
    · have e1 : (x == k) = false := by simpa using e
      have e2 : ¬ k = x := fun z => e z.symm
      rcases ih with ⟨r, b, h1, h2, h3, h4⟩ | ⟨h1, h2⟩
      · exact .inl ⟨r, b, List.mem_cons_of_mem _ h1, h2, by rw [List.lookup_cons, e1]; exact h3, by simp only [List.zip_cons_cons, List.map_cons, PyProof.Rows.KTD.datumAt, e, decide_false, Bool.false_eq_true, if_false]; exact h4⟩
      · exact .inr ⟨by rw [List.lookup_cons, e1]; exact h1, by simp only [List.zip_cons_cons, List.map_cons, PyProof.Rows.KTD.datumAt, e, decide_false, Bool.false_eq_true, if_false]; exact h2⟩
theorem KD.some {a : Addr} {rows : List (Str × List V)} {as : List Addr} (T : KD K a rows as) {x : Str} {ds : List V} (h : rows.lookup x = Option.some ds) : ∃ b, PyProof.Rows.KTD.datumAt x ((rows.zip as).map fun p => (p.1.1, V.ref p.2)) = Option.some (.ref b) ∧ ∀ H, SqT K H b ds := by
  rcases datum_zip (x := x) (fun p => V.ref p.2) rows as T.len with ⟨r, b, h1, h2, h3, h4⟩ | ⟨h1, _⟩
  · rw [h] at h3
    cases h3
    exact ⟨b, h4, fun H => .inr (T.sq _ h1)⟩
  · rw [h] at h1; cases h1
theorem KD.inT {a : Addr} {rows : List (Str × List V)} {as : List Addr} (T : KD K a rows as) (x : Str) : L3.inT x ((rows.zip as).map fun p => (p.1.1, V.ref p.2)) = (rows.lookup x).isSome := by
  unfold L3.inT
  rcases datum_zip (x := x) (fun p => V.ref p.2) rows as T.len with ⟨r, b, h1, h2, h3, h4⟩ | ⟨h1, h2⟩
  · rw [h3, h4]; rfl
  · rw [h1, h2]; rfl
def valsChk : List V → List Value → Bool
  | [], [] => true
  | .str x :: vs, .str y _ :: us => decide (x = y) && valsChk vs us
  | .int i :: vs, .int j _ :: us => decide (i = j) && valsChk vs us
  | _, _ => false
theorem valsChk_ok : ∀ {vs : List V} {us : List Value}, valsChk vs us = true → Vals vs us
  | [], [], _ => .nil
  | .str x :: vs, .str y t :: us, h => by
    simp only [valsChk, Bool.and_eq_true, decide_eq_true_eq] at h
    obtain ⟨rfl, h⟩ := h
    exact .cons ⟨t, rfl⟩ (valsChk_ok h)
  | .int x :: vs, .int y t :: us, h => by
    simp only [valsChk, Bool.and_eq_true, decide_eq_true_eq] at h
    obtain ⟨rfl, h⟩ := h
    exact .cons ⟨t, rfl⟩ (valsChk_ok h)
  | [], _ :: _, h => by simp [valsChk] at h
  | _ :: _, [], h => by simp [valsChk] at h
  | .non :: _, _ :: _, h => by simp [valsChk] at h
  | .bl _ :: _, _ :: _, h => by simp [valsChk] at h
  | .byt _ :: _, _ :: _, h => by simp [valsChk] at h
  | .flt _ :: _, _ :: _, h => by simp [valsChk] at h
  | .ref _ :: _, _ :: _, h => by simp [valsChk] at h
  | .ty _ :: _, _ :: _, h => by simp [valsChk] at h
  | .str _ :: _, .none :: _, h => by simp [valsChk] at h
  | .str _ :: _, .int _ _ :: _, h => by simp [valsChk] at h
  | .str _ :: _, .ref _ :: _, h => by simp [valsChk] at h
  | .str _ :: _, .bool _ :: _, h => by simp [valsChk] at h
  | .str _ :: _, .float _ _ :: _, h => by simp [valsChk] at h
  | .str _ :: _, .bytes _ _ :: _, h => by simp [valsChk] at h
  | .str _ :: _, .type _ :: _, h => by simp [valsChk] at h
  | .str _ :: _, .builtin _ :: _, h => by simp [valsChk] at h
  | .str _ :: _, .ellipsis :: _, h => by simp [valsChk] at h
  | .str _ :: _, .notImplemented :: _, h => by simp [valsChk] at h
  | .int _ :: _, .none :: _, h => by simp [valsChk] at h
  | .int _ :: _, .str _ _ :: _, h => by simp [valsChk] at h
  | .int _ :: _, .ref _ :: _, h => by simp [valsChk] at h
  | .int _ :: _, .bool _ :: _, h => by simp [valsChk] at h
  | .int _ :: _, .float _ _ :: _, h => by simp [valsChk] at h
  | .int _ :: _, .bytes _ _ :: _, h => by simp [valsChk] at h
  | .int _ :: _, .type _ :: _, h => by simp [valsChk] at h
  | .int _ :: _, .builtin _ :: _, h => by simp [valsChk] at h
  | .int _ :: _, .ellipsis :: _, h => by simp [valsChk] at h
  | .int _ :: _, .notImplemented :: _, h => by simp [valsChk] at h
def seqChk (vs : List V) (its : Array Value) : Bool := valsChk vs its.toList && decide (its.size ≤ 100)
theorem sqk_mk {K : PySem.W.Frag} {a : Addr} {d : Option Addr} {its : Array Value} {n : Nat} {sl : Array (Option Value)} {vs : List V} (h : K.lookup a = some ⟨.type "tuple", d, .seq its n, sl⟩) (c : seqChk vs its = true) : SqK K a vs := by
  simp only [seqChk, Bool.and_eq_true, decide_eq_true_eq] at c
  exact ⟨_, its, n, h, rfl, rfl, Nat.le_trans c.2 (by decide), valsChk_ok c.1⟩
def rowsChk : List DictEntry → List Str → Bool
  | [], [] => true
  | e :: es, k :: ks => (match e.key, e.val with
    | .str x _, .ref _ => decide (x = k)
    | _, _ => false) && rowsChk es ks
  | _, _ => false
def refsOf (es : List DictEntry) : List Addr := es.map fun e => match e.val with
  | .ref a => a
  | _ => 0
theorem rows_of : ∀ {es : List DictEntry} {ks : List Str}, rowsChk es ks = true → PyProof.Rows.KTD.Rows RelV es ((ks.zip (refsOf es)).map fun p => (p.1, V.ref p.2))
  | [], [], _ => .nil
  | [], _ :: _, h => by simp [rowsChk] at h
  | _ :: _, [], h => by simp [rowsChk] at h
  | e :: es, k :: ks, h => by
    obtain ⟨hs, key, val⟩ := e
    rw [rowsChk, Bool.and_eq_true] at h
    cases key with
    | str x t =>
      cases val with
      | ref b =>
        have h1 : x = k := by simpa using h.1
        subst h1
        exact .cons rfl rfl (rows_of h.2)
      | _ => simp at h
    | _ => simp at h
theorem kd_mk {a : Addr} {es : Array DictEntry} {ep : Nat} {rows : List (Str × List V)} {as : List Addr} (sy : (a == sysModules) = false) (lk : K.lookup a = some ⟨.type "dict", none, .dict es ep, #[]⟩) (ks : rowsChk es.toList (rows.map (·.1)) = true)
    (rf : refsOf es.toList = as) (hl : as.length = rows.length) (sq : ∀ p ∈ rows.zip as, SqK K p.2 p.1.2) : KD K a rows as := by
  refine ⟨hl, ⟨sy, _, es, ep, lk, ⟨rfl, rfl, rfl⟩, rfl, ?_⟩, sq⟩
  have h := rows_of ks
  rw [rf, List.zip_map_left, List.map_map] at h
  exact h
theorem sq_cons {r : Str × List V} {b : Addr} {rows : List (Str × List V)} {as : List Addr} (h : SqK K b r.2) (t : ∀ p ∈ rows.zip as, SqK K p.2 p.1.2) : ∀ p ∈ (r :: rows).zip (b :: as), SqK K p.2 p.1.2 := fun p hp => by
  rcases List.mem_cons.mp hp with rfl | hp
  · exact h
  · exact t p hp
theorem sq_nil : ∀ p ∈ ([] : List (Str × List V)).zip ([] : List Addr), SqK K p.2 p.1.2 := fun p hp => by simp at hp
end L3
end
section
namespace L3
open PySem PySem.Spec PyProof.Rows L2
structure MadeX (h h' : Heap) (e C : Addr) (hh : Option Value) : Prop where
  keeps : ∀ b o, h.get? b = some o → h'.get? b = some o
  new : h.get? e = none
  there : ∃ oe vs t c, h'.get? e = some oe ∧ oe.cls = .ref C ∧ oe.data = .fields vs ∧ vs[0]? = some (.ref t) ∧ vs[1]? = some .none ∧ vs[2]? = some c ∧ (hh = none → c = .none)
section
variable {prog : Program} {w : World} {A : Around} {E : Value → Shared → Prop} {s : Shared}
end
end L3
end
section
namespace L3
open PySem PySem.Spec PyProof.Rows L2
def Ex (h : Heap) (a C : Addr) (T c : Value) : Prop := ∃ oe vs a0, h.get? a = some oe ∧ oe.cls = .ref C ∧ oe.data = .fields vs ∧ vs[0]? = some a0 ∧ vs[1]? = some T ∧ vs[2]? = some c
def Tb (h : Heap) (T : Addr) (fl : Value) : Prop := ∃ oT ts, h.get? T = some oT ∧ oT.data = .fields ts ∧ ts[3]? = some fl
structure Stp (fs : List Addr) (xs : List Addr) (h h' : Heap) : Prop where
  keep : ∀ b o, h.get? b = some o → b ∉ fs → b ∉ xs → h'.get? b = some o
  slot : ∀ b o, h.get? b = some o → b ∈ fs → b ∉ xs → ∃ sl, h'.get? b = some { o with slots := sl }
section
variable {M : Model} {A : Around} {E : Value → Shared → Prop} {s : Shared}
end
end L3
end
section
namespace L3
open PySem PySem.Spec PyProof.Rows L2
structure Fre (X : Cx) (pins : List (Addr × Obj)) (H : Hp) (b : Addr) : Prop where
  un : H b = none
  new : X.s₀.heap.get? b = none
  loc : b ≠ X.env.locals
  cel : ∀ x c, X.env.cells.lookup x = some c → c ≠ b
  pin : ∀ p ∈ X.pn ++ pins, p.1 ≠ b
section
variable {X : Cx} {pins : List (Addr × Obj)} {σ : L2.St} {H H' : Hp} {s s' : Shared} {h' : Heap} {a : Addr}
end
structure Fly (X : Cx) (pins : List (Addr × Obj)) (H : Hp) (s : Shared) (a C T : Addr) (c fl : Value) : Prop where
  ex : Ex s.heap a C (.ref T) c
  tb : Tb s.heap T fl
  ne : T ≠ a
  fa : Fre X pins H a
  fT : Fre X pins H T
section
variable {X : Cx} {pins : List (Addr × Obj)} {σ : L2.St} {H : Hp} {s s' : Shared} {E : XK} {e : Value} {hh : Option Value}
end
section
variable {P : Program} {w : World} {K : PySem.W.Frag} {mg : Str → Option Value} {base : Heap} {N : List Str} {qual : Str} {sc : Scope} {f : Addr} {cd : Value} {A : Around} {outer : List Env} {s₀ : Shared} {H₀ : Hp} {E : XK}
end
end L3
end
section
namespace L3
open PySem PySem.Spec PyProof.Rows L2
section
variable {X : Cx} {pins : List (Addr × Obj)} {σ : L2.St} {H : Hp} {s : Shared} {a : Addr} {oe : Obj} {cm : Bool}
end
section
variable {X : Cx} {cm : Bool}
def D1 (i : Nat) (D : Ends) : Ends := { nx := fun σ H => D.nx (σ.set i none) H, rt := D.rt, bk := fun σ H => D.bk (σ.set i none) H, ct := fun σ H => D.ct (σ.set i none) H }
end
end L3
end
section
namespace L3
open PySem PySem.Spec PyProof.Rows L2
structure ClsK (K : PySem.W.Frag) (C : Addr) : Prop where
  ga : PySem.W.findIn K (.ref C) "__getattribute__" = some (some (.builtin "BaseException.__getattribute__"))
  cl : PySem.W.findIn K (.ref C) "__class__" = some (some (.builtin "object.__class__"))
  gt : PySem.W.findIn K (.ref C) "__getattr__" = some none
  ob : PySem.W.mroIn K C (.type "object") = some true
  be : PySem.W.mroIn K C (.type "BaseException") = some true
  is : (PySem.W.clsIn K C).isSome = true
section
variable {prog : Program} {w : World} {A : Around} {E : Value → Shared → Prop} {h : Heap} {g : Array GenState} {d : Drawn} {t : Nat} {os : OsState} {a C : Addr} {o : Obj} {K : PySem.W.Frag}
end
end L3
end
section
namespace L3
open PySem PySem.Spec PyProof.Rows L2
section
variable {X : Cx} {pins : List (Addr × Obj)} {σ : L2.St} {H : Hp} {s : Shared} {a : Addr} {D : List (Str × V)} {k : Str} {tk : Tok} {A : Around} {E : Value → Shared → Prop}
end
def Iten (K : PySem.W.Frag) (a : Addr) : It :=
  ⟨fun i H => ∃ xs x, SqL K H a xs ∧ xs[i]? = some x,
   fun i H v H' => ∃ p x, v = .ref p ∧ H p = none ∧ H' = upd H p (.tup [.int i, x]) ∧ ∀ xs, SqL K H a xs → xs[i]? = some x,
   fun i H => ∃ xs, SqL K H a xs ∧ xs.length = i⟩
structure ERec (a e it : Addr) (i : Nat) (h : Heap) : Prop where
  e : ∃ old, IsEnum h e it i old
  it : h.IsListIter it a i
theorem turn_enum {P : Program} {w : World} {K : PySem.W.Frag} {es : List Expr} {k : Nat} {pos : Pos} (a n : Nat) : Turn P w K (.Tuple es k pos) (Iten K a) [n + 1, n] (n + 1) (ERec a (n + 1) n) where
  mem := by simp
  obj := fun i h st c hc => by
    simp only [List.mem_cons, List.not_mem_nil, or_false] at hc
    obtain ⟨old, e0⟩ := st.e
    obtain ⟨o1, e1, _, d1⟩ := st.it
    rcases hc with rfl | rfl
    · exact ⟨_, e0, fun v q => by cases q⟩
    · exact ⟨o1, e1, fun v q => by rw [d1] at q; cases q⟩
  keep := fun i h h' st kp => by
    obtain ⟨old, e0⟩ := st.e
    obtain ⟨o1, e1, r1⟩ := st.it
    exact ⟨⟨old, kp _ (by simp) _ e0⟩, ⟨o1, kp _ (by simp) _ e1, r1⟩⟩
  item := by
    intro X hP hw hK hc i pins s σ H E I hf st hg
    subst hP hw hK
    obtain ⟨xs, x, q1, hx⟩ := hg
    obtain ⟨its1, rv1, p1, _⟩ := I.list q1
    obtain ⟨u1, hu1, ru1⟩ := rv1.get hx
    obtain ⟨old, e0⟩ := st.e
    have ltz := Heap.lt_size e0
    have l1 : i < its1.toArray.size := by rw [List.size_toArray]; exact (List.getElem?_eq_some_iff.mp hu1).1
    have na : ∀ d ∈ [n + 1, n], a ≠ d := fun d hd => sq_neL I q1 (hf d hd)
    have nh : ∀ d ∈ [n + 1, n], d ∉ hAdr X.A.in1 := fun d hd z => I.hna hc (hf d hd).2.2.2.1 (hf d hd).2.2.2.2.2 d (mem_hAdr z) rfl
    have ha1 : ∀ d ∈ [n + 1, n], ∀ a, X.A.in1.handled = some (.ref a) → a ≠ d := fun d hd => I.hna hc (hf d hd).2.2.2.1 (hf d hd).2.2.2.2.2
    have hef : n + 1 ∉ (n :: a :: hAdr X.A.in1) := by
      simp only [List.mem_cons, not_or]
      exact ⟨by omega, Ne.symm (na (n + 1) (by simp)), nh (n + 1) (by simp)⟩
    refine wpAny_pyNext_enum_itemD (draws_lst n a (na n (by simp)) (ha1 n (by simp)) its1.toArray) e0 ⟨st.it, p1.isList, I.hb hc⟩ l1 (Nat.succ_ne_self n) hef fun x' h1 tk ex z1 s1 pr sz kp => ?_
    have ex : its1.toArray[i]? = some x' := ex
    have ex : u1 = x' := by
      rw [List.getElem?_toArray, hu1] at ex
      exact Option.some.inj ex
    subst ex
    refine ⟨_, rfl, wpAny_letOwnedTupleGo_enum (s := { s with heap := h1, toks := tk + 1 }) z1 fun h2 z2 sb => ?_⟩
    have lt : ∀ d ∈ [n + 1, n], d < s.heap.objs.size := fun d hd => by
      have : d ≤ n + 1 := by simp at hd; omega
      exact Nat.lt_of_le_of_lt this ltz
    have up : ∀ c o, c ≠ n + 1 → h1.get? c = some o → h2.get? c = some o := fun c o hc' e => (sb.2 c hc').trans e
    have prT : h2.get? s.heap.objs.size = some { cls := .type "tuple", data := .seq #[.int i tk, u1] } := up _ _ (Nat.ne_of_gt ltz) pr
    refine ⟨.ref s.heap.objs.size, _, turnedNew (s := s) (h' := h2) (t' := tk + 1) (ch := [n + 1, n]) (T := s.heap.objs.size) (o := .tup [.int i, x]) I (fun c o hc' e => ?_) hf (Nat.le_refl _) ?_, rfl, ⟨_, x, rfl, I.hok.fresh (Nat.le_refl _), rfl, fun xs' a1 => ?_⟩, ?_, fun d hd => ?_⟩
    · simp only [List.mem_cons, List.not_mem_nil, or_false, not_or] at hc'
      exact up c o hc'.1 (kp c o hc'.1 hc'.2 e)
    · exact ⟨(by show 2 ≤ sizeLine; decide), [.int i tk, u1], .cons ⟨tk, rfl⟩ (.cons ru1 .nil), ⟨_, prT, rfl, _, rfl⟩⟩
    · rw [I.list_inj a1 q1]
      exact hx
    · obtain ⟨⟨oa, ea, ra⟩, _⟩ := s1
      refine ⟨⟨_, by simpa using z2⟩, ⟨oa, up _ _ (by omega) ea, ra⟩⟩
    · rw [upd_ne (Nat.ne_of_lt (lt d hd))]
      exact (hf d hd).1
  done := by
    intro X hP hw hK hc i pins s σ H E I hf st hg
    subst hP hw hK
    obtain ⟨xs, q1, hl⟩ := hg
    obtain ⟨its1, rv1, p1, _⟩ := I.list q1
    obtain ⟨old, e0⟩ := st.e
    have na : ∀ d ∈ [n + 1, n], a ≠ d := fun d hd => sq_neL I q1 (hf d hd)
    have ha1 : ∀ d ∈ [n + 1, n], ∀ a, X.A.in1.handled = some (.ref a) → a ≠ d := fun d hd => I.hna hc (hf d hd).2.2.2.1 (hf d hd).2.2.2.2.2
    have hi : its1.toArray.size = i := by rw [List.size_toArray, ← rv1.length]; exact hl
    subst hi
    refine wpAny_pyNext_enum_endD (draws_lst n a (na n (by simp)) (ha1 n (by simp)) its1.toArray) e0 ⟨st.it, p1.isList, I.hb hc⟩ fun h1 kp => ⟨rfl, ?_⟩
    refine turnedL (t' := s.toks) (ch := [n + 1, n]) I (fun c o hc' e => ?_) hf
    simp only [List.mem_cons, List.not_mem_nil, or_false, not_or] at hc'
    exact kp c o hc'.2 e
  self := fun A i s Q E st h => by
    obtain ⟨old, e0⟩ := st.e
    exact wpAny_pyIter_enum e0 h
def iEnL (K : PySem.W.Frag) (ta : TA) : TI := fun σ H R => ta σ H fun vs H1 => ∃ a xs, vs = [.ref a] ∧ SqL K H1 a xs ∧ R (Iten K a) H1
theorem pi_enumL {X : Cx} {es : List Expr} {k : Nat} {tpos : Pos} {a : Expr} {ta : TA} {p pos : Pos} (hg : Gl X "enumerate") (hm : X.mg "enumerate" = none) (ha : PA X [a] ta) (hs : starEach [a] X.env = [(false, eval a X.env)] := by rfl) : PI X (.Tuple es k tpos) (.Call (.Name "enumerate" p) [a] [] pos) (iEnL X.K ta) := by
  intro pins s σ H R I h
  refine Call_ (ld_blt I hg hm boot_enumerate (PyProof.Rows.callWith_type1 (thn (ha pos pins s σ H _ I h) fun us s1 ⟨vs, H1, I1, r1, q1⟩ => ?_) (by rw [hs]; rfl) (by rfl)))
  obtain ⟨a1, xs, e, k1, q⟩ := q1
  subst e
  obtain ⟨u1, rfl, ru1⟩ := Vals.one r1
  cases ru1
  obtain ⟨its1, rv1, p1, _⟩ := I1.list k1
  refine call_enumerate_list p1.isList fun h1 z1 s1' sz kp => ?_
  refine wpAny_pyIter_enum (s := { s1 with heap := h1 }) z1 ?_
  have I2 : Inv X pins σ H1 { s1 with heap := h1 } := I1.kept (t' := s1.toks) kp
  refine ⟨_, _, _, _, H1, rfl, I2, turn_enum a1 s1.heap.objs.size, ⟨⟨_, z1⟩, s1'⟩, fun d hd => ?_, q⟩
  have : s1.heap.objs.size ≤ d := by
    simp only [List.mem_cons, List.not_mem_nil, or_false] at hd
    rcases hd with z | z <;> rw [z] <;> first | exact Nat.le_add_right _ _ | exact Nat.le_refl _
  exact I1.fpOk this (I1.hok.fresh this)
end L3
end
section
namespace L3
open PySem PySem.Spec PyProof.Rows L2
theorem cxK {CX : CXT} {P : Program} {w : World} {K : PySem.W.Frag} {mg : Str → Option Value} {base : Heap} {N : List Str} {qual : Str} {scope : Scope} {f : Addr} {cd : Value} {A : Around} {outer : List Env} {s : Shared} {H : Hp} {E : XK} : (cxOf CX P w K mg base N qual scope f cd A outer s H E).nox.K = K := rfl
end L3
end
section
namespace L3
open PySem L2
theorem let2 {t1 t2 : TS} {D : Ends} {σ : L2.St} {H : Hp} (h : let D0 : Ends := D; let v2 : TS := t2; tSeq t1 v2 D0 σ H) : (tSeq t1 (t2)) D σ H := h
theorem let3 {t1 t2 t3 : TS} {D : Ends} {σ : L2.St} {H : Hp} (h : let D0 : Ends := D; let v3 : TS := t3; let v2 : TS := tSeq t2 v3; tSeq t1 v2 D0 σ H) : (tSeq t1 (tSeq t2 (t3))) D σ H := h
theorem let4 {t1 t2 t3 t4 : TS} {D : Ends} {σ : L2.St} {H : Hp} (h : let D0 : Ends := D; let v4 : TS := t4; let v3 : TS := tSeq t3 v4; let v2 : TS := tSeq t2 v3; tSeq t1 v2 D0 σ H) : (tSeq t1 (tSeq t2 (tSeq t3 (t4)))) D σ H := h
theorem let5 {t1 t2 t3 t4 t5 : TS} {D : Ends} {σ : L2.St} {H : Hp} (h : let D0 : Ends := D; let v5 : TS := t5; let v4 : TS := tSeq t4 v5; let v3 : TS := tSeq t3 v4; let v2 : TS := tSeq t2 v3; tSeq t1 v2 D0 σ H) : (tSeq t1 (tSeq t2 (tSeq t3 (tSeq t4 (t5))))) D σ H := h
theorem let6 {t1 t2 t3 t4 t5 t6 : TS} {D : Ends} {σ : L2.St} {H : Hp} (h : let D0 : Ends := D; let v6 : TS := t6; let v5 : TS := tSeq t5 v6; let v4 : TS := tSeq t4 v5; let v3 : TS := tSeq t3 v4; let v2 : TS := tSeq t2 v3; tSeq t1 v2 D0 σ H) : (tSeq t1 (tSeq t2 (tSeq t3 (tSeq t4 (tSeq t5 (t6)))))) D σ H := h
theorem let7 {t1 t2 t3 t4 t5 t6 t7 : TS} {D : Ends} {σ : L2.St} {H : Hp} (h : let D0 : Ends := D; let v7 : TS := t7; let v6 : TS := tSeq t6 v7; let v5 : TS := tSeq t5 v6; let v4 : TS := tSeq t4 v5; let v3 : TS := tSeq t3 v4; let v2 : TS := tSeq t2 v3; tSeq t1 v2 D0 σ H) : (tSeq t1 (tSeq t2 (tSeq t3 (tSeq t4 (tSeq t5 (tSeq t6 (t7))))))) D σ H := h
theorem let8 {t1 t2 t3 t4 t5 t6 t7 t8 : TS} {D : Ends} {σ : L2.St} {H : Hp} (h : let D0 : Ends := D; let v8 : TS := t8; let v7 : TS := tSeq t7 v8; let v6 : TS := tSeq t6 v7; let v5 : TS := tSeq t5 v6; let v4 : TS := tSeq t4 v5; let v3 : TS := tSeq t3 v4; let v2 : TS := tSeq t2 v3; tSeq t1 v2 D0 σ H) : (tSeq t1 (tSeq t2 (tSeq t3 (tSeq t4 (tSeq t5 (tSeq t6 (tSeq t7 (t8)))))))) D σ H := h
theorem let10 {t1 t2 t3 t4 t5 t6 t7 t8 t9 t10 : TS} {D : Ends} {σ : L2.St} {H : Hp} (h : let D0 : Ends := D; let v10 : TS := t10; let v9 : TS := tSeq t9 v10; let v8 : TS := tSeq t8 v9; let v7 : TS := tSeq t7 v8; let v6 : TS := tSeq t6 v7; let v5 : TS := tSeq t5 v6; let v4 : TS := tSeq t4 v5; let v3 : TS := tSeq t3 v4; let v2 : TS := tSeq t2 v3; tSeq t1 v2 D0 σ H) : (tSeq t1 (tSeq t2 (tSeq t3 (tSeq t4 (tSeq t5 (tSeq t6 (tSeq t7 (tSeq t8 (tSeq t9 (t10)))))))))) D σ H := h
theorem let12 {t1 t2 t3 t4 t5 t6 t7 t8 t9 t10 t11 t12 : TS} {D : Ends} {σ : L2.St} {H : Hp} (h : let D0 : Ends := D; let v12 : TS := t12; let v11 : TS := tSeq t11 v12; let v10 : TS := tSeq t10 v11; let v9 : TS := tSeq t9 v10; let v8 : TS := tSeq t8 v9; let v7 : TS := tSeq t7 v8; let v6 : TS := tSeq t6 v7; let v5 : TS := tSeq t5 v6; let v4 : TS := tSeq t4 v5; let v3 : TS := tSeq t3 v4; let v2 : TS := tSeq t2 v3; tSeq t1 v2 D0 σ H) : (tSeq t1 (tSeq t2 (tSeq t3 (tSeq t4 (tSeq t5 (tSeq t6 (tSeq t7 (tSeq t8 (tSeq t9 (tSeq t10 (tSeq t11 (t12)))))))))))) D σ H := h
end L3
namespace KM
theorem d0 {t : D} {n : Nat} (h : depth t + 0 ≤ n) : depth t ≤ n := h
theorem q0 {x : PySem.Str} {k n : Nat} (h : k + 1 ≤ n) : depth (.tup [.str x]) + k ≤ n := by simp only [depth, depthL]; omega
theorem q1 {x : PySem.Str} {a : D} {k n : Nat} (h : depth a + (k + 1) ≤ n) : depth (.tup [.str x, a]) + k ≤ n := by simp only [depth, depthL]; omega
theorem q2 {x : PySem.Str} {a b : D} {k n : Nat} (h1 : depth a + (k + 1) ≤ n) (h2 : depth b + (k + 1) ≤ n) : depth (.tup [.str x, a, b]) + k ≤ n := by simp only [depth, depthL]; omega
theorem q3 {x : PySem.Str} {a b c : D} {k n : Nat} (h1 : depth a + (k + 1) ≤ n) (h2 : depth b + (k + 1) ≤ n) (h3 : depth c + (k + 1) ≤ n) : depth (.tup [.str x, a, b, c]) + k ≤ n := by simp only [depth, depthL]; omega
theorem q4 {x : PySem.Str} {a b c d : D} {k n : Nat} (h1 : depth a + (k + 1) ≤ n) (h2 : depth b + (k + 1) ≤ n) (h3 : depth c + (k + 1) ≤ n) (h4 : depth d + (k + 1) ≤ n) : depth (.tup [.str x, a, b, c, d]) + k ≤ n := by simp only [depth, depthL]; omega
end KM
namespace L3
open PySem L2
theorem by0 {P : List Value → Prop} (h : P []) : ∀ us : List Value, us.length = 0 → P us := fun us e => by rw [List.length_eq_zero_iff.mp e]; exact h
theorem byS {P : List Value → Prop} {n : Nat} (h : ∀ a us, us.length = n → P (a :: us)) : ∀ us : List Value, us.length = n + 1 → P us
  | [], e => nomatch e
  | a :: us, e => h a us (Nat.succ.inj e)
theorem by1 {P : List Value → Prop} (h : ∀ a, P [a]) : ∀ us : List Value, us.length = 1 → P us := byS fun a => by0 (h a)
theorem by2 {P : List Value → Prop} (h : ∀ a b, P [a, b]) : ∀ us : List Value, us.length = 2 → P us := byS fun a => by1 (h a)
theorem by3 {P : List Value → Prop} (h : ∀ a b c, P [a, b, c]) : ∀ us : List Value, us.length = 3 → P us := byS fun a => by2 (h a)
theorem by4 {P : List Value → Prop} (h : ∀ a b c d, P [a, b, c, d]) : ∀ us : List Value, us.length = 4 → P us := byS fun a => by3 (h a)
theorem by5 {P : List Value → Prop} (h : ∀ a b c d e, P [a, b, c, d, e]) : ∀ us : List Value, us.length = 5 → P us := byS fun a => by4 (h a)
theorem by6 {P : List Value → Prop} (h : ∀ a b c d e f, P [a, b, c, d, e, f]) : ∀ us : List Value, us.length = 6 → P us := byS fun a => by5 (h a)
def DfIn (K : PySem.W.Frag) (x : Str) (st : Stmt) : Prop := ∃ (f : Addr) (od an : Option Addr) (sl : Array (Option Value)) (oc kV dc pm cd ct : Value), PySem.W.nsIn K mainGlobals x = some (some (.ref f)) ∧
  K.lookup f = some ⟨oc, od, .func (PySem.W.fnOf x x (defArgs st) (defBody st) (defScope st) .none kV dc pm an cd ct), sl⟩ ∧ PySem.W.codeIn K cd x = true ∧ PySem.W.keepIn K (.ref f) = true
theorem dfi {K : PySem.W.Frag} {x : Str} {st : Stmt} {f : Addr} {od an : Option Addr} {sl : Array (Option Value)} {oc kV dc pm cd ct : Value} (a : PySem.W.nsIn K mainGlobals x = some (some (.ref f)))
    (l : K.lookup f = some ⟨oc, od, .func (PySem.W.fnOf x x (defArgs st) (defBody st) (defScope st) .none kV dc pm an cd ct), sl⟩) (c : PySem.W.codeIn K cd x = true) (k : PySem.W.keepIn K (.ref f) = true) : DfIn K x st :=
  ⟨f, od, an, sl, oc, kV, dc, pm, cd, ct, a, l, c, k⟩
theorem DfIn.df {K : PySem.W.Frag} {h : Heap} {mg : Str → Option Value} {x : Str} {st : Stmt} {ps : List Str} (D : DfIn K x st) (X : K.In h) (G : h.Ns mainGlobals mg)
    (b : ∀ (kV doc pm : Value) (an : Option Addr) (cdv ct : Value) (us : List Value), us.length = ps.length → bindArgs (PySem.W.fnOf x x (defArgs st) (defBody st) (defScope st) .none kV doc pm an cdv ct) ⟨us, []⟩ = pure (ps.zip us)) : Df K mg x st ps := by
  obtain ⟨f, od, an, sl, oc, kV, dc, pm, cd, ct, a, l, c, k⟩ := D
  exact ⟨f, _, fun_mk l c k, PySem.W.mg_of X G a, (fun_mk l c k).binds b⟩
end L3
end
section
namespace K22
open PySem L2 L3 KM
def top (i : Nat) : Stmt := PySem.Challenge.pw_keeper_k22_steps_told.main.body.getD i (.Pass ⟨0, 0, 0, 0⟩)
abbrev s_is_number : Stmt := top 8
abbrev s_is_name : Stmt := top 9
abbrev s_begins_due : Stmt := top 10
abbrev s_is_shaped : Stmt := top 11
abbrev s_is_vast : Stmt := top 12
abbrev s_is_thing : Stmt := top 13
abbrev s_is_term : Stmt := top 14
abbrev s_kids_of : Stmt := top 15
abbrev s_rule_of : Stmt := top 18
abbrev s_steps_of : Stmt := top 19
abbrev s_law_draw : Stmt := top 21
abbrev s_law_named : Stmt := top 22
abbrev s_law_pool : Stmt := top 23
abbrev s_law_leaf : Stmt := top 24
abbrev s_law_kind : Stmt := top 25
abbrev s_law_fun : Stmt := top 26
abbrev s_law_pair : Stmt := top 27
abbrev s_law_like : Stmt := top 28
abbrev s_law_number : Stmt := top 29
abbrev s_law_parted : Stmt := top 30
abbrev s_law_still : Stmt := top 31
abbrev s_law_term : Stmt := top 32
abbrev s_law_kids : Stmt := top 33
abbrev s_law_measured : Stmt := top 34
abbrev s_law_great : Stmt := top 35
abbrev s_law_thing : Stmt := top 36
abbrev s_law_book : Stmt := top 37
abbrev s_law_rule : Stmt := top 38
abbrev s_law_rows : Stmt := top 39
abbrev s_law_sized : Stmt := top 40
abbrev s_law_wrapped : Stmt := top 41
abbrev s_law_under : Stmt := top 42
abbrev s_law_pairs : Stmt := top 43
abbrev s_law_due : Stmt := top 44
abbrev s_law : Stmt := top 45
structure Adr where
  none_ : Unit := ()
  KIND_WORDS : Addr
  KIDS_DUE : Addr
  RULES : Addr
structure Mg (mg : Str → Option Value) (t : Adr) : Prop where
  n_all : mg "all" = none
  n_bool : mg "bool" = none
  n_dict : mg "dict" = none
  n_enumerate : mg "enumerate" = none
  n_int : mg "int" = none
  n_isinstance : mg "isinstance" = none
  n_len : mg "len" = none
  n_list : mg "list" = none
  n_max : mg "max" = none
  n_min : mg "min" = none
  n_range : mg "range" = none
  n_str : mg "str" = none
  n_tuple : mg "tuple" = none
  n_zip : mg "zip" = none
  g_MOST_KNOTS : ∃ tk, mg "MOST_KNOTS" = some (.int 600 tk)
  g_MOST_DEEP : ∃ tk, mg "MOST_DEEP" = some (.int 40 tk)
  g_MOST_VARIABLE : ∃ tk, mg "MOST_VARIABLE" = some (.int 99 tk)
  g_MOST_LETTERS : ∃ tk, mg "MOST_LETTERS" = some (.int 12 tk)
  g_LETTERS : ∃ tk, mg "LETTERS" = some (.str "abcdefghijklmnopqrstuvwxyz" tk)
  g_KIND_WORDS : mg "KIND_WORDS" = some (.ref t.KIND_WORDS)
  g_KIDS_DUE : mg "KIDS_DUE" = some (.ref t.KIDS_DUE)
  g_RULES : mg "RULES" = some (.ref t.RULES)
seal L2.PE L2.PS L2.PSs L2.PT L2.PW L2.PA L2.PG L2.PGs L2.PI L2.PC L2.PO L2.PPs L2.PK L3.PIf
variable {P : Program} {w : World} {K : PySem.W.Frag} {mg : Str → Option Value} {base : Heap} {f : Addr} {fd : FuncData}
variable {P : Program} {w : World} {K : PySem.W.Frag} {mg : Str → Option Value} {base : Heap} {f : Addr} {fd : FuncData}
def tab1 : List (Key × V) := [(.inr "nat", .str ""), (.inr "none", .str ""), (.inr "zero", .str ""), (.inr "all", .str "kk"), (.inr "some", .str "kk"), (.inr "same", .str "ktt"), (.inr "fun", .str "kt"), (.inr "app", .str "tt")]
def tab2 : List (Key × V) := [(.inr "next", .str "t"), (.inr "rec", .str "kttt"), (.inr "like", .str "kt"), (.inr "carry", .str "ktt"), (.inr "never", .str "kt"), (.inr "pair", .str "ktt"), (.inr "first", .str "t")]
def tab3 : List (Key × V) := [(.inr "second", .str "t"), (.inr "var", .str "n"), (.inr "name", .str "w")]
def shapeV (x : Str) : V := match valV tab1 (Sum.inr x : Key) with
  | some v => v
  | none => match valV tab2 (Sum.inr x : Key) with
    | some v => v
    | none => (valV tab3 (Sum.inr x : Key)).getD .non
def kindW (w : Str) : Bool := inV (.str w) [.str "nat", .str "none", .str "all", .str "some", .str "same"]
def numD : D → Bool
  | .int i => decide (0 ≤ i) && decide (i ≤ 99)
  | _ => false
mutual
def wfG (nm : D → Bool) (k : Bool) : D → Bool
  | .tup (.str w :: ps) => match shapeV w with
    | .str s => (kindW w == k) && wfL nm s.cps.toList ps
    | _ => false
  | _ => false
def wfL (nm : D → Bool) : List Nat → List D → Bool
  | [], [] => true
  | c :: cs, p :: ps => (if c = 107 then wfG nm true p else if c = 116 then wfG nm false p else if c = 110 then numD p else nm p) && wfL nm cs ps
  | _, _ => false
end
def dueB (nm : D → Bool) (c : Nat) (p : D) : Bool := if c = 107 then wfG nm true p else if c = 116 then wfG nm false p else if c = 110 then numD p else nm p
theorem wfL_cons (nm : D → Bool) (c : Nat) (cs : List Nat) (p : D) (ps : List D) : wfL nm (c :: cs) (p :: ps) = (dueB nm c p && wfL nm cs ps) := by rw [wfL]; rfl
theorem wfG_mk {nm : D → Bool} {k : Bool} {w s : Str} {ps : List D} (h1 : shapeV w = .str s) (h2 : kindW w = k) (h3 : wfL nm s.cps.toList ps = true) : wfG nm k (.tup (.str w :: ps)) = true := by
  rw [wfG, h1]
  simp [h2, h3]
theorem shape_var : shapeV "var" = .str "n" := by decide +kernel
theorem shape_name : shapeV "name" = .str "w" := by decide +kernel
theorem kind_var : kindW "var" = false := by decide +kernel
theorem kind_name : kindW "name" = false := by decide +kernel
theorem len_n : (Str.ofString "n").cps.toList = [110] := by decide +kernel
theorem len_w : (Str.ofString "w").cps.toList = [119] := by decide +kernel
theorem wf_var {nm : D → Bool} {z : Int} (h0 : 0 ≤ z) (h1 : z ≤ 99) : wfG nm false (.tup [.str "var", .int z]) = true := by
  refine wfG_mk shape_var kind_var ?_
  rw [len_n, wfL_cons]
  simp [dueB, numD, h0, h1, wfL]
theorem wf_name {nm : D → Bool} {y : Str} (h : nm (.str y) = true) : wfG nm false (.tup [.str "name", .str y]) = true := by
  refine wfG_mk shape_name kind_name ?_
  rw [len_w, wfL_cons]
  simp [dueB, h, wfL]
variable {P : Program} {w : World} {K : PySem.W.Frag} {mg : Str → Option Value} {base : Heap} {f fN fM fS : Addr} {fd fdN fdM fdS : FuncData}
def w0 (k : Bool) : Str := if k then "nat" else "var"
variable {t : Adr}
end K22
end
section
set_option maxHeartbeats 1000000
namespace K22
open PySem L2 L3 KM
seal L2.PE L2.PS L2.PSs L2.PT L2.PW L2.PA L2.PG L2.PGs L2.PI L2.PC L2.PO L2.PPs L2.PK L3.PIf
variable {P : Program} {w : World} {K : PySem.W.Frag} {mg : Str → Option Value} {base : Heap} {t : Adr}
def rows18 : List (Str × List V) := [("nat", []), ("none", []), ("all", [.str "kind", .str "kind"]), ("some", [.str "kind", .str "kind"]), ("same", [.str "kind", .str "term", .str "term"]), ("var", []), ("fun", [.str "kind", .str "term"]),
  ("app", [.str "term", .str "term"]), ("zero", []), ("next", [.str "term"]), ("rec", [.str "kind", .str "term", .str "term", .str "term"]), ("like", [.str "kind", .str "term"]), ("carry", [.str "kind", .str "term", .str "term"]),
  ("never", [.str "kind", .str "term"]), ("pair", [.str "kind", .str "term", .str "term"]), ("first", [.str "term"]), ("second", [.str "term"]), ("name", [])]
def cDue (c : Nat) : V := if c = 107 then .str "kind" else .str "term"
def rowOk (r : Str × List V) : Bool := match shapeV r.1 with
  | .str s => decide (s.cps.size ≤ 4) && if r.1 = "var" then decide (s = "n") else if r.1 = "name" then decide (s = "w") else s.cps.toList.all (fun c => c == 107 || c == 116) && decide (r.2 = s.cps.toList.map cDue)
  | _ => false
theorem rows_ok : rows18.all rowOk = true := by decide +kernel
theorem lookup_mem {α : Type} {x : Str} {v : α} : ∀ {l : List (Str × α)}, l.lookup x = some v → (x, v) ∈ l
  | [], h => by simp at h
  | (k, u) :: l, h => by
    rw [List.lookup_cons] at h
    cases e : x == k with
    | true =>
      rw [e] at h
      obtain rfl : x = k := by simpa using e
      cases h
      exact List.mem_cons_self
    | false => rw [e] at h; exact List.mem_cons_of_mem _ (lookup_mem h)
theorem lookup_none {α : Type} {x : Str} : ∀ {l : List (Str × α)}, l.lookup x = none → x ∉ l.map (·.1)
  | [], _ => by simp
  | (k, u) :: l, h => by
    rw [List.lookup_cons] at h
    cases e : x == k with
    | true => rw [e] at h; cases h
    | false =>
      rw [e] at h
      have := lookup_none h
      have e : ¬ x = k := by simpa using e
      simp only [List.map_cons, List.mem_cons, not_or]
      exact ⟨e, this⟩
inductive Shp (w : Str) : Prop where
  | non (h1 : rows18.lookup w = none) (h2 : shapeV w = .non)
  | var (h1 : rows18.lookup w = some []) (h2 : w = "var")
  | name (h1 : rows18.lookup w = some []) (h2 : w = "name")
  | form (s : Str) (h1 : rows18.lookup w = some (s.cps.toList.map cDue)) (h2 : shapeV w = .str s) (h3 : w ≠ "var") (h4 : w ≠ "name") (h5 : ∀ c ∈ s.cps.toList, c = 107 ∨ c = 116) (h6 : s.cps.size ≤ 4)
theorem keyNone {tab : List (Key × V)} {w : Str} (h : ∀ k ∈ tab.map (·.1), k ≠ Sum.inr w) : valV tab (Sum.inr w : Key) = none := by
  cases e : valV tab (Sum.inr w : Key) with
  | none => rfl
  | some v =>
    exact absurd rfl (h _ (valV_in e))
def keyIn (k : Key) (l : List Str) : Bool := match k with
  | .inr x => decide (x ∈ l)
  | .inl _ => true
theorem shp (w : Str) : Shp w := by
  cases h : rows18.lookup w with
  | none =>
    refine .non h ?_
    have nm := lookup_none h
    have sub : ∀ tab : List (Key × V), (tab.map (·.1)).all (fun k => keyIn k (rows18.map (·.1))) = true → valV tab (Sum.inr w : Key) = none := fun tab ht => keyNone fun k hk z => by
      subst z
      have := List.all_eq_true.mp ht _ hk
      simp only [keyIn, decide_eq_true_eq] at this
      exact nm this
    have e1 := sub tab1 (by decide +kernel)
    have e2 := sub tab2 (by decide +kernel)
    have e3 := sub tab3 (by decide +kernel)
    unfold shapeV
    rw [e1, e2, e3]
    rfl
  | some ds =>
    have m := lookup_mem h
    have g := List.all_eq_true.mp rows_ok _ m
    unfold rowOk at g
    by_cases hv : w = "var"
    · subst hv
      exact .var (by decide +kernel) rfl
    · by_cases hn : w = "name"
      · subst hn
        exact .name (by decide +kernel) rfl
      · cases e : shapeV w with
        | str s =>
          rw [e] at g
          simp only [hv, hn, if_false, Bool.and_eq_true, List.all_eq_true, Bool.or_eq_true, beq_iff_eq, decide_eq_true_eq] at g
          obtain ⟨g1, g2, g3⟩ := g
          exact .form s (by rw [h, g3]) e hv hn g2 g1
        | _ => rw [e] at g; simp at g
end K22
end
section
set_option maxHeartbeats 1000000
namespace K22
open PySem L2 L3 KM
seal L2.PE L2.PS L2.PSs L2.PT L2.PW L2.PA L2.PG L2.PGs L2.PI L2.PC L2.PO L2.PPs L2.PK L3.PIf
variable {P : Program} {w : World} {K : PySem.W.Frag} {mg : Str → Option Value} {base : Heap} {t : Adr}
def leafW (x : Str) : Bool := decide (x = "var") || decide (x = "name")
def kidsD (x : Str) (ps : List D) : List D := if leafW x = true then [] else ps
def spKids : Sp := fun vs H Q _ => ∃ (x : Str) (ps : List D) (v : V), vs = [v] ∧ Rep H (.tup (.str x :: ps)) v ∧ ps.length ≤ 10 ∧ ∀ (a : Addr) (us : List V) (H' : Hp), H a = none → Same H H' → H' a = some (.lst us) → Reps H' (kidsD x ps) us → Q (.ref a) H'
theorem sc_kids_of : FnScope ["thing"] ["thing"] (defScope s_kids_of) := ⟨rfl, rfl, rfl, by decide +kernel, rfl, by decide +kernel, by decide +kernel⟩
theorem c_kids_of (D : Df K mg "kids_of" s_kids_of ["thing"]) (M : Mg mg t) : Cal P w K mg CX0 "kids_of" (1) ["thing"] spKids := by
  refine D.ok sc_kids_of (fun vs H Q E h => ?_) (fun base f cdv A outer s H vs Q E hr h => ?_)
  · obtain ⟨x, ps, v, rfl, _⟩ := h
    rfl
  obtain ⟨x, ps, v, rfl, r, hl, q⟩ := h
  obtain ⟨a, us, rfl, ha, v0, us, rfl, ⟨rfl, hx⟩, rp⟩ := r
  have hlu := rp.length
  have ea : atI (V.str x :: us) 0 = some (.str x) := atI_nat (j := 0) rfl
  have hT : SqT K H a (.str x :: us) := SqT.of ha
  refine ⟨_, (pss_cons (ps_if (L2.PW.pt (pw_or (pt_cmpR op_eq (pe_ix ix_tup (pv 0) pe_int (fun _ _ => rfl)) pe_str (nomark _)) (pw_or1 (pt_cmpR op_eq (pe_ix ix_tup (pv 0) pe_int (fun _ _ => rfl)) pe_str (nomark _))))) (pss_one (ps_ret (pe_lst pa_nil))) pss_nil)
      (pss_one (ps_ret (pe_callTy call_list_of rfl M.n_list bt_list (pa_cons (pe_slice sl_tupW (pv 0) (po_some pe_int) po_none) pa_nil))))), ?_⟩
  try dsimp only [cxK, cxK2]
  refine let2 ?_
  intro _ _
  have leaf : leafW x = true → 0 ≤ sizeLine ∧ ∀ p, H p = none → Q (.ref p) (upd H p (.lst [])) := fun c => ⟨Nat.zero_le _, fun p hp => q p [] _ hp (same_new hp _) upd_same (by unfold kidsD; rw [if_pos c]; exact rfl)⟩
  refine ⟨_, rfl, a, _, _, _, rfl, rfl, hT, ea, rfl, _, rfl, ?_⟩
  refine ite2 (fun c => ?_) (fun c => ?_)
  · refine iteT ?_
    have c : V.str x = V.str "var" := of_decide_eq_true c
    cases c
    exact leaf rfl
  refine ⟨_, rfl, a, _, _, _, rfl, rfl, hT, ea, rfl, _, rfl, ?_⟩
  refine ite2 (fun c2 => ?_) (fun c2 => ?_)
  · have c2 : V.str x = V.str "name" := of_decide_eq_true c2
    cases c2
    exact leaf (by decide +kernel)
  have nl : leafW x = false := by
    unfold leafW
    have h1 : x ≠ "var" := fun z => c (by rw [z]; decide +kernel)
    have h2 : x ≠ "name" := fun z => c2 (by rw [z]; decide +kernel)
    simp [h1, h2]
  have nk : kidsD x ps = ps := by unfold kidsD; rw [nl]; rfl
  rw [nk] at q
  have ec : cutV (V.str x :: us) (some 1) none = us := by
    have := cutV_from (V.str x :: us) 1
    simpa using this
  refine ⟨_, rfl, _, rfl, a, _, rfl, hT, fun p hp => ?_, fun z => ?_⟩
  · rw [ec]
    refine ⟨p, us, rfl, .inr (SqT.of upd_same), fun l hl => ?_⟩
    exact q l us _ ((same_new hp _).free hl) ((same_new hp _).trans (same_new hl _)) upd_same (rp.mono ((same_new hp _).trans (same_new hl _)))
  · rw [ec] at z
    exact absurd (congrArg List.length z) (by simp)
theorem wfL_len {nm : D → Bool} : ∀ {cs : List Nat} {ps : List D}, wfL nm cs ps = true → cs.length = ps.length
  | [], [], _ => rfl
  | [], _ :: _, h => by simp [wfL] at h
  | _ :: _, [], h => by simp [wfL] at h
  | c :: cs, p :: ps, h => by
    rw [wfL_cons, Bool.and_eq_true] at h
    rw [List.length_cons, List.length_cons, wfL_len h.2]
def ktB (c : Nat) : Bool := !(Builtin.Str.occurrences (Str.ofString "kt") ⟨#[c]⟩ 0 (Str.ofString "kt").length 1).isEmpty
theorem kt1 : ktB 107 = true := by decide +kernel
theorem kt2 : ktB 116 = true := by decide +kernel
theorem kt3 : ktB 110 = false := by decide +kernel
theorem kt4 : ktB 119 = false := by decide +kernel
theorem wf_shape {nm : D → Bool} {k : Bool} {x : Str} {ps : List D} (h : wfG nm k (.tup (.str x :: ps)) = true) : ∃ s, shapeV x = .str s ∧ kindW x = k ∧ wfL nm s.cps.toList ps = true ∧ s.cps.size ≤ 4 ∧ s.cps.toList.length = ps.length ∧ (∀ c ∈ s.cps.toList, ktB c = !leafW x) ∧
    (leafW x = false → ∀ c ∈ s.cps.toList, c = 107 ∨ c = 116) ∧ ∃ r, rows18.lookup x = some r ∧ r.length = (kidsD x ps).length := by
  have key : ∀ s, shapeV x = .str s → kindW x = k ∧ wfL nm s.cps.toList ps = true := fun s e => by
    rw [wfG, e, Bool.and_eq_true] at h
    exact ⟨by simpa using h.1, h.2⟩
  cases shp x with
  | non h1 h2 => rw [wfG, h2] at h; simp at h
  | var h1 h2 =>
    subst h2
    obtain ⟨k1, k2⟩ := key _ shape_var
    refine ⟨_, shape_var, k1, k2, by decide, wfL_len k2, fun c hc => ?_, fun z => absurd z (by decide +kernel), _, h1, by unfold kidsD; rw [if_pos (by decide +kernel)]; rfl⟩
    rw [len_n] at hc
    rw [List.mem_singleton.mp hc, kt3]
    decide +kernel
  | name h1 h2 =>
    subst h2
    obtain ⟨k1, k2⟩ := key _ shape_name
    refine ⟨_, shape_name, k1, k2, by decide, wfL_len k2, fun c hc => ?_, fun z => absurd z (by decide +kernel), _, h1, by unfold kidsD; rw [if_pos (by decide +kernel)]; rfl⟩
    rw [len_w] at hc
    rw [List.mem_singleton.mp hc, kt4]
    decide +kernel
  | form s h1 h2 h3 h4 h5 h6 =>
    obtain ⟨k1, k2⟩ := key s h2
    have nl : leafW x = false := by unfold leafW; simp [h3, h4]
    refine ⟨s, h2, k1, k2, h6, wfL_len k2, fun c hc => ?_, fun _ => h5, _, h1, ?_⟩
    · rw [nl]
      rcases h5 c hc with z | z <;> rw [z]
      · exact kt1
      · exact kt2
    · unfold kidsD
      rw [nl, List.length_map, wfL_len k2]
      rfl
end K22
end
section
set_option maxHeartbeats 1000000
namespace K22
open PySem L2 L3 KM PyProof.Rows
seal L2.PE L2.PS L2.PSs L2.PT L2.PW L2.PA L2.PG L2.PGs L2.PI L2.PC L2.PO L2.PPs L2.PK L3.PIf
variable {P : Program} {w : World} {K : PySem.W.Frag} {mg : Str → Option Value} {base : Heap} {t : Adr}
theorem inV_strs (x : Str) : ∀ ws : List Str, inV (.str x) (ws.map V.str) = decide (x ∈ ws)
  | [] => rfl
  | y :: ws => by
    have ih := inV_strs x ws
    unfold inV at ih ⊢
    rw [List.map_cons, List.any_cons, ih]
    show (y == x || decide (x ∈ ws)) = decide (x ∈ y :: ws)
    by_cases e : y = x
    · subst e; simp
    · have e' : ¬ x = y := fun z => e z.symm
      simp [e, e']
end K22
end
section
set_option maxHeartbeats 1000000
namespace K22
open PySem L2 L3 KM PyProof.Rows
seal L2.PE L2.PS L2.PSs L2.PT L2.PW L2.PA L2.PG L2.PGs L2.PI L2.PC L2.PO L2.PPs L2.PK L3.PIf
variable {P : Program} {w : World} {K : PySem.W.Frag} {mg : Str → Option Value} {base : Heap} {t : Adr}
theorem depth_get : ∀ {ps : List D} {i : Nat} {p : D}, ps[i]? = some p → depth p ≤ depthL ps
  | [], _, _, e => by simp at e
  | p :: ps, 0, _, e => by
    simp at e
    subst e
    simp only [depthL]
    omega
  | _ :: ps, i + 1, p, e => by
    have := depth_get (ps := ps) (i := i) (by simpa using e)
    simp only [depthL]
    omega
end K22
end
section
namespace L3
open PySem PySem.Spec PyProof.Rows L2 KM
theorem op_catTK {X : Cx} {K : PySem.W.Frag} (hK : X.K = K := by rfl) : OpR X (binaryOp .Add) (rCatT K) := hK ▸ op_catT
theorem cat_tup0 {prog : Program} {w : World} {A : Around} {E : Value → Shared → Prop} {s : Shared} {t b : Addr} {ws : List Value} {Q : Value → Shared → Prop} (ht : IsTup s.heap t (([] : List Value)).toArray) (hb : IsTup s.heap b ws.toArray) (h1 : Q (.ref b) s) :
    wpAny (model prog w) A (binaryOp .Add (.ref t) (.ref b)) Q E s := by
  obtain ⟨⟨cls, dd, data, sl⟩, ho, hc, n, hd⟩ := id ht
  obtain ⟨⟨cls2, dd2, data2, sl2⟩, ho2, hc2, n2, hd2⟩ := id hb
  simp only at hc hd hc2 hd2
  subst hc hd hc2 hd2
  exact concat_meets ⟨_, ho, rfl⟩ ⟨_, ho2, rfl⟩ noFill_tuple_add seq_tuple_add PySem.F.slot_tuple_add PySem.F.entry_tuple_add (PySem.F.args_tuple_add_2 _ _) (tuple_addW0 t b _ ws.toArray n n2 dd dd2 sl sl2 (by simp)) ⟨ho, ho2, h1⟩
def rCat0 (K : PySem.W.Frag) : R2 := fun x y H Q => ∃ a b xs ys, x = .ref a ∧ y = .ref b ∧ SqT K H a xs ∧ SqT K H b ys ∧ xs.length + ys.length ≤ sizeLine ∧ (xs = [] → Q (.ref b) H) ∧ (xs ≠ [] → ys = [] → Q (.ref a) H) ∧
  (xs ≠ [] → ys ≠ [] → ∀ p, H p = none → Q (.ref p) (upd H p (.tup (xs ++ ys))))
theorem op_cat0 {X : Cx} : OpR X (binaryOp .Add) (rCat0 X.K) := by
  intro pins s σ H x y v u Q I rx ry h
  obtain ⟨a, b, xs, ys, rfl, rfl, ha, hb, hz, q0, q1, q2⟩ := h
  by_cases hx : xs = []
  · cases rx
    cases ry
    subst hx
    obtain ⟨its, r1, p1, _⟩ := I.tuple ha
    obtain ⟨its2, r2, p2, _⟩ := I.tuple hb
    have e : its = [] := r1.nil_iff.mpr rfl
    subst e
    exact cat_tup0 p1 p2 ⟨.ref b, H, I, rfl, q0 rfl⟩
  · exact op_catT pins s σ H _ _ v u Q I rx ry ⟨a, b, xs, ys, rfl, rfl, ha, hb, hx, hz, q1 hx, q2 hx⟩
def rCatU : R2 := fun x y H Q => ∃ a b xs ys, x = .ref a ∧ y = .ref b ∧ H a = some (.tup xs) ∧ H b = some (.tup ys) ∧ xs.length + ys.length ≤ sizeLine ∧ ∀ p H', Same H H' → H' p = some (.tup (xs ++ ys)) → Q (.ref p) H'
theorem op_catU {X : Cx} : OpR X (binaryOp .Add) rCatU := by
  intro pins s σ H x y v u Q I rx ry h
  obtain ⟨a, b, xs, ys, rfl, rfl, ha, hb, hz, q⟩ := h
  refine op_cat0 pins s σ H _ _ v u Q I rx ry ⟨a, b, xs, ys, rfl, rfl, SqT.of ha, SqT.of hb, hz, fun e => ?_, fun _ e => ?_, fun _ _ p hp => q p _ (same_new hp _) upd_same⟩
  · subst e
    exact q b H (Same.refl H) hb
  · subst e
    exact q a H (Same.refl H) (by rw [List.append_nil]; exact ha)
mutual
theorem Rep.updL {H : Hp} {p : Addr} {xs : List V} {o : HO} (h : H p = some (.lst xs)) : ∀ {d : D} {v : V}, Rep H d v → Rep (upd H p o) d v
  | .non, _, r => r
  | .bl _, _, r => r
  | .int _, _, r => r
  | .str _, _, r => r
  | .tup _, _, ⟨a, vs, e, q, r⟩ => ⟨a, vs, e, by rw [upd_ne (ne_of q h (by simp))]; exact q, Reps.updL h r⟩
theorem Reps.updL {H : Hp} {p : Addr} {xs : List V} {o : HO} (h : H p = some (.lst xs)) : ∀ {ds : List D} {vs : List V}, Reps H ds vs → Reps (upd H p o) ds vs
  | [], _, r => r
  | _ :: _, _, ⟨v, r, e, q, t⟩ => ⟨v, r, e, Rep.updL h q, Reps.updL h t⟩
end
theorem comp_reps {J : It} {p : Addr} {H1 : Hp} {g : TG} {te : TE} {b : L2.St} {C : Hp → Prop} (n : Nat) (f : Nat → D) (hp : H1 p = none) (hn : n ≤ sizeLine)
    (hgo : ∀ i H2, i < n → Same H1 H2 → J.go i H2 ∧ ∀ x H3, J.yld i H2 x H3 → ∀ (R : V → Hp → Prop), (∀ v H6, Same H2 H6 → Rep H6 (f i) v → R v H6) → g x b H3 fun σ4 H4 => te σ4 H4 R)
    (hd : ∀ acc H2, Same H1 H2 → H2 p = some (.lst acc) → Reps H2 ((List.range n).map f) acc → J.stop n H2 ∧ C H2) :
    ∃ W : Nat → Nat → List V → Hp → Prop, (∃ m, W 0 m [] (upd H1 p (.lst []))) ∧ ∀ i m acc H2, W i m acc H2 → (J.stop i H2 ∧ C H2) ∨ (J.go i H2 ∧ ∀ x H3, J.yld i H2 x H3 → g x b H3 fun σ4 H4 => tYes σ4 H4 fun ok H5 =>
      if ok = true then te σ4 H5 fun v H6 => H6 p = some (.lst acc) ∧ acc.length < sizeLine ∧ ∃ m', m' < m ∧ W (i + 1) m' (acc ++ [v]) (upd H6 p (.lst (acc ++ [v]))) else ∃ m', m' < m ∧ W (i + 1) m' acc H5) := by
  refine comp_by (Q := fun _ H => C H) n (fun i acc H2 => Reps H2 ((List.range i).map f) acc ∧ H2 p = some (.lst acc) ∧ Same H1 H2) ⟨rfl, upd_same, same_new hp _⟩ ?_ ?_
  · rintro i acc H2 hi ⟨rr, h2, s2⟩
    obtain ⟨g1, g2⟩ := hgo i H2 hi s2
    refine ⟨g1, fun x H3 y => ?_⟩
    simp only [tYes, if_true]
    have hl := rr.length
    rw [List.length_map, List.length_range] at hl
    refine g2 x H3 y _ fun v H6 s6 rv => ⟨s6 _ _ h2, by omega, nx hi ⟨?_, upd_same, same_upd (s2.trans s6) hp⟩⟩
    rw [List.range_succ, List.map_append]
    exact ((rr.mono s6).updL (s6 _ _ h2)).append (Reps.one (rv.updL (s6 _ _ h2)))
  · rintro acc H2 ⟨rr, h2, s2⟩
    exact hd acc H2 s2 h2 rr
end L3
namespace L3
open PySem PySem.Spec PyProof.Rows L2
end L3
end
section
namespace L3
open PySem PySem.Spec PyProof.Rows L2 KM
theorem get_le_sum : ∀ (ns : List Nat) (k : Nat), (ns[k]?).getD 0 ≤ ns.sum
  | [], _ => by simp
  | n :: ns, 0 => by simp
  | n :: ns, k + 1 => by
    have := get_le_sum ns k
    simp only [List.getElem?_cons_succ, List.sum_cons]
    omega
end L3
end
section
set_option maxHeartbeats 1000000
namespace K22
open PySem L2 L3 KM PyProof.Rows
seal L2.PE L2.PS L2.PSs L2.PT L2.PW L2.PA L2.PG L2.PGs L2.PI L2.PC L2.PO L2.PPs L2.PK L3.PIf
variable {P : Program} {w : World} {K : PySem.W.Frag} {mg : Str → Option Value} {base : Heap} {t : Adr}
mutual
def plc : D → List (List Nat)
  | .tup (.str x :: ps) => [] :: (if leafW x = true then [] else plcL 0 ps)
  | _ => []
def plcL : Nat → List D → List (List Nat)
  | _, [] => []
  | i, d :: ds => (plc d).map (i :: ·) ++ plcL (i + 1) ds
end
theorem take_snoc {l : List D} {i : Nat} {d : D} (h : l[i]? = some d) : l.take (i + 1) = l.take i ++ [d] := by
  rw [List.take_add_one, h]
  rfl
def plD (pl : List Nat) : D := .tup (pl.map fun i => .int (i : Nat))
theorem range_map {α β : Type} (g : α → β) (z : α) (l : List α) : (List.range l.length).map (fun j => g ((l[j]?).getD z)) = l.map g := by
  induction l with
  | nil => rfl
  | cons a l ih =>
    rw [List.length_cons, List.range_succ_eq_map, List.map_cons, List.map_map, List.map_cons, ← ih]
    rfl
theorem wf_form {nm : D → Bool} {k : Bool} : ∀ {d : D}, wfG nm k d = true → ∃ x ps, d = .tup (.str x :: ps)
  | .tup (.str x :: ps), _ => ⟨x, ps, rfl⟩
  | .tup [], h => by simp [wfG] at h
  | .tup (.non :: _), h => by simp [wfG] at h
  | .tup (.bl _ :: _), h => by simp [wfG] at h
  | .tup (.int _ :: _), h => by simp [wfG] at h
  | .tup (.tup _ :: _), h => by simp [wfG] at h
  | .non, h => by simp [wfG] at h
  | .bl _, h => by simp [wfG] at h
  | .int _, h => by simp [wfG] at h
  | .str _, h => by simp [wfG] at h
theorem wfL_kid {nm : D → Bool} : ∀ {cs : List Nat} {ps : List D} {i : Nat} {p : D}, wfL nm cs ps = true → (∀ c ∈ cs, c = 107 ∨ c = 116) → ps[i]? = some p → ∃ k, wfG nm k p = true
  | [], [], _, _, _, _, e => by simp at e
  | [], _ :: _, _, _, h, _, _ => by simp [wfL] at h
  | _ :: _, [], _, _, h, _, _ => by simp [wfL] at h
  | c :: cs, q :: ps, 0, p, h, hc, e => by
    simp at e
    subst e
    rw [wfL_cons, Bool.and_eq_true] at h
    have h1 := h.1
    unfold dueB at h1
    rcases hc c List.mem_cons_self with z | z
    · rw [z, if_pos rfl] at h1
      exact ⟨true, h1⟩
    · rw [z, if_neg (by decide), if_pos rfl] at h1
      exact ⟨false, h1⟩
  | c :: cs, q :: ps, i + 1, p, h, hc, e => by
    rw [wfL_cons, Bool.and_eq_true] at h
    exact wfL_kid (i := i) h.2 (fun c hc' => hc c (List.mem_cons_of_mem _ hc')) (by simpa using e)
theorem wf_kid {k : Bool} {x : Str} {ps : List D} {i : Nat} {p : D} (h : wfG isStrD k (.tup (.str x :: ps)) = true) (e : (kidsD x ps)[i]? = some p) : (∃ k, wfG isStrD k p = true) ∧ depth p < depth (.tup (.str x :: ps)) := by
  obtain ⟨s, h1, h2, h3, h4, h5, h6, h7, _⟩ := wf_shape h
  unfold kidsD at e
  split at e
  · simp at e
  · rename_i nl
    refine ⟨wfL_kid h3 (h7 (by simpa using nl)) e, ?_⟩
    have := depth_get e
    simp only [depth, depthL]
    omega
theorem kids4 {k : Bool} {x : Str} {ps : List D} (h : wfG isStrD k (.tup (.str x :: ps)) = true) : (kidsD x ps).length ≤ 4 := by
  obtain ⟨s, h1, h2, h3, h4, h5, h6, h7, _⟩ := wf_shape h
  unfold kidsD
  split
  · exact Nat.zero_le _
  · rw [← h5]; simpa using h4
structure Rt (d : D) (n : Nat) : Prop where
  wf : ∃ k, wfG isStrD k d = true
  dp : depth d < n
  ct : (plc d).length ≤ 2000000
  n60 : n ≤ 60
theorem wf_app {nm : D → Bool} {d0 d1 : D} (h0 : wfG nm false d0 = true) (h1 : wfG nm false d1 = true) : wfG nm false (.tup [.str "app", d0, d1]) = true := by
  refine wfG_mk (w := "app") (s := "tt") (by decide +kernel) (by decide +kernel) ?_
  rw [show (Str.ofString "tt").cps.toList = [116, 116] by decide +kernel, wfL_cons, wfL_cons]
  simp [dueB, wfL, h0, h1]
theorem wf_fun {nm : D → Bool} {d0 d1 : D} (h0 : wfG nm true d0 = true) (h1 : wfG nm false d1 = true) : wfG nm false (.tup [.str "fun", d0, d1]) = true := by
  refine wfG_mk (w := "fun") (s := "kt") (by decide +kernel) (by decide +kernel) ?_
  rw [show (Str.ofString "kt").cps.toList = [107, 116] by decide +kernel, wfL_cons, wfL_cons]
  simp [dueB, wfL, h0, h1]
theorem wf_same {nm : D → Bool} {d0 d1 d2 : D} (h0 : wfG nm true d0 = true) (h1 : wfG nm false d1 = true) (h2 : wfG nm false d2 = true) : wfG nm true (.tup [.str "same", d0, d1, d2]) = true := by
  refine wfG_mk (w := "same") (s := "ktt") (by decide +kernel) (by decide +kernel) ?_
  rw [show (Str.ofString "ktt").cps.toList = [107, 116, 116] by decide +kernel, wfL_cons, wfL_cons, wfL_cons]
  simp [dueB, wfL, h0, h1, h2]
theorem wf_rec {nm : D → Bool} {d0 d1 d2 d3 : D} (h0 : wfG nm true d0 = true) (h1 : wfG nm false d1 = true) (h2 : wfG nm false d2 = true) (h3 : wfG nm false d3 = true) : wfG nm false (.tup [.str "rec", d0, d1, d2, d3]) = true := by
  refine wfG_mk (w := "rec") (s := "kttt") (by decide +kernel) (by decide +kernel) ?_
  rw [show (Str.ofString "kttt").cps.toList = [107, 116, 116, 116] by decide +kernel, wfL_cons, wfL_cons, wfL_cons, wfL_cons]
  simp [dueB, wfL, h0, h1, h2, h3]
theorem wf_carry {nm : D → Bool} {d0 d1 d2 : D} (h0 : wfG nm true d0 = true) (h1 : wfG nm false d1 = true) (h2 : wfG nm false d2 = true) : wfG nm false (.tup [.str "carry", d0, d1, d2]) = true := by
  refine wfG_mk (w := "carry") (s := "ktt") (by decide +kernel) (by decide +kernel) ?_
  rw [show (Str.ofString "ktt").cps.toList = [107, 116, 116] by decide +kernel, wfL_cons, wfL_cons, wfL_cons]
  simp [dueB, wfL, h0, h1, h2]
theorem wf_all {nm : D → Bool} {d0 d1 : D} (h0 : wfG nm true d0 = true) (h1 : wfG nm true d1 = true) : wfG nm true (.tup [.str "all", d0, d1]) = true := by
  refine wfG_mk (w := "all") (s := "kk") (by decide +kernel) (by decide +kernel) ?_
  rw [show (Str.ofString "kk").cps.toList = [107, 107] by decide +kernel, wfL_cons, wfL_cons]
  simp [dueB, wfL, h0, h1]
theorem wf_some {nm : D → Bool} {d0 d1 : D} (h0 : wfG nm true d0 = true) (h1 : wfG nm true d1 = true) : wfG nm true (.tup [.str "some", d0, d1]) = true := by
  refine wfG_mk (w := "some") (s := "kk") (by decide +kernel) (by decide +kernel) ?_
  rw [show (Str.ofString "kk").cps.toList = [107, 107] by decide +kernel, wfL_cons, wfL_cons]
  simp [dueB, wfL, h0, h1]
theorem wf_first {nm : D → Bool} {d0 : D} (h0 : wfG nm false d0 = true) : wfG nm false (.tup [.str "first", d0]) = true := by
  refine wfG_mk (w := "first") (s := "t") (by decide +kernel) (by decide +kernel) ?_
  rw [show (Str.ofString "t").cps.toList = [116] by decide +kernel, wfL_cons]
  simp [dueB, wfL, h0]
theorem wf_never {nm : D → Bool} {d0 d1 : D} (h0 : wfG nm true d0 = true) (h1 : wfG nm false d1 = true) : wfG nm false (.tup [.str "never", d0, d1]) = true := by
  refine wfG_mk (w := "never") (s := "kt") (by decide +kernel) (by decide +kernel) ?_
  rw [show (Str.ofString "kt").cps.toList = [107, 116] by decide +kernel, wfL_cons, wfL_cons]
  simp [dueB, wfL, h0, h1]
theorem wf_nat {nm : D → Bool}  : wfG nm true (.tup [.str "nat"]) = true := by
  refine wfG_mk (w := "nat") (s := "") (by decide +kernel) (by decide +kernel) ?_
  rw [show (Str.ofString "").cps.toList = [] by decide +kernel]
  simp [dueB, wfL]
theorem wf_zero {nm : D → Bool}  : wfG nm false (.tup [.str "zero"]) = true := by
  refine wfG_mk (w := "zero") (s := "") (by decide +kernel) (by decide +kernel) ?_
  rw [show (Str.ofString "").cps.toList = [] by decide +kernel]
  simp [dueB, wfL]
theorem wf_next {nm : D → Bool} {d0 : D} (h0 : wfG nm false d0 = true) : wfG nm false (.tup [.str "next", d0]) = true := by
  refine wfG_mk (w := "next") (s := "t") (by decide +kernel) (by decide +kernel) ?_
  rw [show (Str.ofString "t").cps.toList = [116] by decide +kernel, wfL_cons]
  simp [dueB, wfL, h0]
theorem rep_new {H : Hp} {p : Addr} {ds : List D} {vs : List V} (hp : H p = none) (r : Reps H ds vs) : Rep (upd H p (.tup vs)) (.tup ds) (.ref p) := ⟨p, vs, rfl, upd_same, r.mono (same_new hp _)⟩
theorem rs {H : Hp} {d : D} {v : V} {ds : List D} {vs : List V} (r : Rep H d v) (t : Reps H ds vs) : Reps H (d :: ds) (v :: vs) := ⟨v, vs, rfl, r, t⟩
theorem r0 {H : Hp} : Reps H [] [] := rfl
theorem rw_ {H : Hp} {x : Str} (h : x.length ≤ 1000 := by decide) : Rep H (.str x) (.str x) := ⟨rfl, h⟩
theorem ri {H : Hp} {i : Int} : Rep H (.int i) (.int i) := rfl
structure Th (d : D) (dp kn : Nat) : Prop where
  wf : wfG isStrD false d = true
  dp : depth d ≤ dp
  kn : knots d ≤ kn
def Wf (d : D) : Prop := ∃ k, wfG isStrD k d = true
theorem wf_ps {d : D} (h : Wf d) : ∃ x ps k, d = .tup (.str x :: ps) ∧ wfG isStrD k d = true ∧ ps.length ≤ 10 := by
  obtain ⟨k, h⟩ := h
  obtain ⟨x, ps, rfl⟩ := wf_form h
  obtain ⟨sh, _, _, _, h4, h5, _⟩ := wf_shape h
  refine ⟨x, ps, k, rfl, h, ?_⟩
  rw [← h5]
  exact Nat.le_trans (by simpa using h4) (by decide)
end K22
end
section
namespace L3
open PySem PySem.Spec PyProof.Rows L2 KM
end L3
namespace L3
open PySem PySem.Spec PyProof.Rows L2 KM
end L3
end
section
namespace L3
open PySem PySem.Spec PyProof.Rows L2
theorem ps_setC {X : Cx} {ix : Nat} {x : Str} {pos' apos : Pos} {tg iter elt : Expr} {ifs : List Expr} {scope : Scope} {pos : Pos} {wi : TI} {g : TG} {tt : TT} {te : TE} {N' : List Str} {own : Nat} {fr : List Nat} (hN : X.N.Nodup) (hix : X.N[ix]? = some x) (hlx : X.env.scope.names.lookup x = some .local) (hc : X.calm = true)
    (S : BlkScope X N' own fr scope) (hi : PI X tg iter wi) (ho : Own own g) (hg : ∀ s3 H3 fp, PG (blkCx X N' scope s3 H3 fp) tg g) (hf : ∀ s3 H3 fp, PIf (blkCx X N' scope s3 H3 fp) ifs tt) (he : ∀ s3 H3 fp, PE (blkCx X N' scope s3 H3 fp) elt te)
    (hsw : swapsWithSole [.Name x pos'] (.ListComp elt [⟨tg, iter, ifs, 0⟩] scope pos) apos.line X.env = pure true := by rfl)
    (hs : ∀ x, foldedSetIterable iter X.env x = pure x := by intro _; rfl) : PS X (.Assign [.Name x pos'] (.ListComp elt [⟨tg, iter, ifs, 0⟩] scope pos) apos) (tAsg (tComp own fr wi g tt te) (gName ix)) := by
  intro pins s σ H D I h
  have hcs : ∀ x ∈ scope.names, x.2 = .free → ∃ c, X.env.cells.lookup x.1 = some c := fun x hx e => I.ok.has x.1 (S.free x hx e)
  rw [exec_Assign_arm]
  refine wpAny_bind (wpAny_standAt (wpAny_bind (wpAny_of_eq hsw ?_)))
  rw [if_pos rfl, arm_evalThenUse_ListComp]
  refine wpAny_bind (wpAny_bind (wpAny_mono (Q := fun _ s' => SP X pins D .next s') ?_ (fun _ s' q => wpAny_pure (wpAny_pure q)) fun _ _ z => z))
  refine wpAny_comprehension_free (use := some _) (Q := fun _ s' => SP X pins D .next s') rfl hs (closedC_eq hcs) S.kind S.loc ?_
  refine thn (hi pins s σ H _ I h) fun v s1 h1 => thn h1 fun itv s2 h2 => ?_
  obtain ⟨it, fp, tn, J, H2, e, I2, T, st2, f2, h2⟩ := h2
  subst e
  refine wpAny_newObj_type (hd := by size_fits) (wpAny_newFunctionEnv S.nocell (by intro y hy; simp at hy) (fun h4 hns hsb => ?_) S.kind)
  have hp0 := I2.hok.fresh (Nat.le_refl s2.heap.objs.size)
  obtain ⟨W, ⟨m0, w0⟩, turn⟩ := h2 _ hp0
  have I3 : Inv X pins σ (upd H2 s2.heap.objs.size (.lst [])) { s2 with heap := s2.heap.push { cls := .type "list", dict := none, data := .seq ([] : List Value).toArray }, toks := s2.toks } := I2.lnew .nil (Nat.zero_le _)
  have lt2 : ∀ b ∈ fp, b < s2.heap.objs.size := fun b hb => let ⟨o, e, _⟩ := T.obj _ _ st2 b hb; Heap.lt_size e
  have up2 : ∀ b o, s2.heap.get? b = some o → ∀ ob : Obj, (s2.heap.push ob).get? b = some o := fun b o e ob => Heap.get?_push_of_some _ e
  have sz3 : (s2.heap.push { cls := .type "list", dict := none, data := .seq ([] : List Value).toArray }).objs.size = s2.heap.objs.size + 1 := Heap.size_push ..
  revert hns hsb I3
  generalize e3 : s2.heap.push { cls := .type "list", dict := none, data := .seq ([] : List Value).toArray } = h3 at sz3 ⊢
  intro hns hsb I3
  have keep : ∀ b o, h3.get? b = some o → h4.get? b = some o := fun b o e => (hsb.2 b (Nat.ne_of_lt (Heap.lt_size e))).trans (Heap.get?_push_of_some _ e)
  have fp3 : ∀ b ∈ fp, FpOk X pins (upd H2 s2.heap.objs.size (.lst [])) b ∧ b < h3.objs.size := fun b hb => by
    refine ⟨⟨?_, (f2 b hb).2⟩, by rw [sz3]; exact Nat.lt_succ_of_lt (lt2 b hb)⟩
    rw [upd_ne (Nat.ne_of_lt (lt2 b hb))]
    exact (f2 b hb).1
  have I4 := blk_inv (t4 := s2.toks + ([] : List (Str × Value)).length) S I3 fp3 keep hns
  have tn4 : tn 0 h4 := T.keep _ _ _ st2 fun b hb o e => keep b o (by rw [← e3]; exact up2 b o e _)
  have stat : ∀ {H' : Hp}, (∀ b ∈ fp, H' b = none) → ∀ b ∈ fp, FpOk (blkCx X N' scope { s2 with heap := h3, toks := s2.toks } (upd H2 s2.heap.objs.size (.lst [])) fp) [] H' b := fun {H'} hn b hb =>
    ⟨hn b hb, Nat.ne_of_lt (fp3 b hb).2, fun z => I4.ok.exfs b hb z, .inl hb, (I4.ok.exf b hb).2, fun p hp => (f2 b hb).2.2.2.2.2 p (List.mem_append_left _ (by simpa using hp))⟩
  have loop : ∀ sx : Shared, Inv (blkCx X N' scope { s2 with heap := h3, toks := s2.toks } (upd H2 s2.heap.objs.size (.lst [])) fp) [] (blkSt own fr σ) (upd H2 s2.heap.objs.size (.lst [])) sx → tn 0 sx.heap →
      codeAny (model X.prog X.w) X.A (.compLoop (.ListComp elt [⟨tg, iter, ifs, 0⟩] scope pos) 0 (.ref it) (.ref s2.heap.objs.size) (blkEnv X scope h3.objs.size)) (compPost (model X.prog X.w) X.A X.xe (some fun v => assignAll v ((assignEach [.Name x pos'] X.env).map (·.2))) (fun _ s' => SP X pins D .next s') (.ref s2.heap.objs.size) h3.objs.size) sx := by
    intro sx Ix tx
    refine compLoop_go (fun n s' => ∃ i acc H', Inv (blkCx X N' scope { s2 with heap := h3, toks := s2.toks } (upd H2 s2.heap.objs.size (.lst [])) fp) [] (blkSt own fr σ) H' s' ∧ tn i s'.heap ∧ (∀ b ∈ fp, H' b = none) ∧ W i n acc H') ?_ m0 ⟨0, [], _, Ix, tx, fun b hb => (fp3 b hb).1.1, w0⟩
    rintro n s5 ⟨i, acc, H5, I5, st5, fr5, w5⟩
    rcases turn i n acc H5 w5 with ⟨stop, qn⟩ | ⟨go, step⟩
    · refine thn (T.done (blkCx X N' scope { s2 with heap := h3, toks := s2.toks } (upd H2 s2.heap.objs.size (.lst [])) fp) rfl rfl rfl hc i [] s5 _ H5 (fun _ _ => False) I5 (stat fr5) st5 stop) fun r s6 ⟨hr, I6⟩ => ?_
      subst hr
      obtain ⟨m6, hm6, _⟩ := id I6.loc
      have I7 : Inv X pins σ H5 s6 := I3.call' (s' := s6) (ch := fp) I6.os (un_sameBut (h2 := s6.heap) I6.base (Nat.le_refl _) ⟨rfl, fun _ _ => rfl⟩) I6.hok I6.bare fun b hb => ⟨(f2 b hb).2.2.2.1, (f2 b hb).2.1, (f2 b hb).2.2.2.2.1, (f2 b hb).2.2.2.2.2⟩
      show wpAny _ _ (assign (.Name x pos') X.env (.ref s2.heap.objs.size)) _ _ _
      refine wpAny_assign_Name (store_ok2 (v := .ref s2.heap.objs.size) I7 hN hix (.inl hlx) rfl (fun s8 I8 ⟨a8, sb8, ha8⟩ => ?_) (.inr hlx))
      have ltc : ∀ y c, X.env.cells.lookup y = some c → c < h3.objs.size := fun y c e => by
        obtain ⟨v, o, eo, _⟩ := I3.cell y c e
        exact Heap.lt_size eo
      have na8 : h3.objs.size ≠ a8 := by
        rcases ha8 with z | z
        · rw [z]; exact Nat.ne_of_gt I3.lt
        · exact Nat.ne_of_gt (ltc _ _ z)
      obtain ⟨o6, es6, ep6, ho6, r6⟩ := hm6
      refine ⟨m6, ⟨o6, es6, ep6, (sb8.2 _ na8).trans ho6, r6⟩, fun h9 hs9 => ?_⟩
      have I9 := I8.turned (h' := h9) (t' := s8.toks) (it := h3.objs.size) (fun b o hb e => (hs9.2 b hb).trans e) I6.free (Nat.ne_of_gt I3.lt) (.inr I3.sz) (fun y c e => Nat.ne_of_lt (ltc y c e)) fun p hp => Nat.ne_of_lt (Heap.lt_size (I3.pin p hp).1)
      exact ⟨_, H5, I9, qn⟩
    · refine thn (T.item (blkCx X N' scope { s2 with heap := h3, toks := s2.toks } (upd H2 s2.heap.objs.size (.lst [])) fp) rfl rfl rfl hc i [] s5 _ H5 (fun _ _ => False) I5 (stat fr5) st5 go) fun r s6 ⟨u, hr, h6⟩ => ?_
      subst hr
      refine thn h6 fun _ s7 ⟨x, H7, I7, r7, y7, st7, fr7⟩ => ?_
      have I7' := I7.pinned (stat fr7) (T.obj _ _ st7)
      refine thn (hg _ _ _ _ s7 _ H7 x u _ I7' r7 (ho _ _ _ _ (step x H7 y7))) fun _ s8 ⟨σ8, H8, I8, q8, l8, k8⟩ => ?_
      have again : ∀ {H9 : Hp} {s9 : Shared}, Inv (blkCx X N' scope { s2 with heap := h3, toks := s2.toks } (upd H2 s2.heap.objs.size (.lst [])) fp) ([] ++ pinsAt fp s7.heap) σ8 H9 s9 →
          Inv (blkCx X N' scope { s2 with heap := h3, toks := s2.toks } (upd H2 s2.heap.objs.size (.lst [])) fp) [] (blkSt own fr σ) H9 s9 ∧ tn (i + 1) s9.heap ∧ ∀ b ∈ fp, H9 b = none := fun {H9 s9} I9 => by
        refine ⟨I9.unpinned.weak l8.symm fun j v e => ?_, T.keep _ _ _ st7 fun b hb o e => (I9.pin (b, o) (List.mem_append_right _ (List.mem_append_right _ (mem_pinsAt hb e)))).1, fun b hb => ?_⟩
        · have hj : own ≤ j := by
            refine Nat.le_of_not_lt fun z => ?_
            unfold blkSt at e
            rw [List.getElem?_append_left (by simpa using z), List.getElem?_replicate] at e
            split at e <;> cases e
          rw [k8 j hj]
          exact e
        · obtain ⟨o, e, _⟩ := T.obj _ _ st7 b hb
          exact (I9.pin (b, o) (List.mem_append_right _ (List.mem_append_right _ (mem_pinsAt hb e)))).2.1
      refine thn (hf _ _ _ _ s8 σ8 H8 _ I8 q8) fun ok s9 ⟨H9, I9, q9⟩ => ?_
      cases ok with
      | false =>
        obtain ⟨m', hm', w9⟩ := q9
        obtain ⟨a1, a2, a3⟩ := again I9
        exact ⟨m', hm', i + 1, acc, H9, a1, a2, a3, w9⟩
      | true =>
        refine thn (he _ _ _ _ s9 σ8 H9 _ I9 q9) fun y s10 ⟨v, H10, I10, r10, hD10, hl10, m', hm', w10⟩ => ?_
        refine thn (mt_append _ s10 σ8 H10 (.ref s2.heap.objs.size) [v] (.ref s2.heap.objs.size) [y] (fun _ Hn => Hn = upd H10 s2.heap.objs.size (.lst (acc ++ [v]))) I10 rfl (.cons r10 .nil) ⟨_, acc, v, rfl, rfl, hD10, hl10, rfl⟩) fun _ s11 ⟨_, H11, I11, _, e11⟩ => ?_
        subst e11
        obtain ⟨a1, a2, a3⟩ := again I11
        exact ⟨m', hm', i + 1, acc ++ [v], _, a1, a2, a3, w10⟩
  exact codeAny_compStart_list (loop _ I4 tn4) (wpAny_mono (T.self X.A 0 _ (fun v s' => v = .ref it ∧ s' = _) (fun _ _ => False) tn4 ⟨rfl, rfl⟩) (fun v s' ⟨e1, e2⟩ => by subst e1; subst e2; exact loop _ I4 tn4) fun _ _ f => f.elim)
end L3
end
section
namespace L3
open PySem PySem.Spec PyProof.Rows L2 KM
end L3
end
section
set_option maxHeartbeats 1000000
namespace K22
open PySem L2 L3 KM PyProof.Rows
seal L2.PE L2.PS L2.PSs L2.PT L2.PW L2.PA L2.PG L2.PGs L2.PI L2.PC L2.PO L2.PPs L2.PK L3.PIf
variable {P : Program} {w : World} {K : PySem.W.Frag} {mg : Str → Option Value} {base : Heap} {t : Adr}
structure Tp (K : PySem.W.Frag) (a p : Addr) (ns : List Int) (H : Hp) (i : Int) : Prop where
  src : (a ≠ p ∧ Rd H a (.lst (ns.map V.int))) ∨ ∀ H' : Hp, SqL K H' a (ns.map V.int)
  len : ns.length ≤ 63
  tape : H p = some (.lst [.int i])
  i0 : 0 ≤ i
theorem Tp.scr {a p : Addr} {ns : List Int} {H : Hp} {i : Int} (T : Tp K a p ns H i) (H' : Hp) (s : SameX p H H') : SqL K H' a (ns.map V.int) := by
  rcases T.src with ⟨n, h | ⟨o, h⟩⟩ | h
  · exact .inl (.inl (s _ _ n h))
  · exact .inl (.inr ⟨o, s _ _ n h⟩)
  · exact h H'
theorem Tp.next {a p : Addr} {ns : List Int} {H H' : Hp} {i j : Int} (T : Tp K a p ns H i) (s : SameX p H H') (h : H' p = some (.lst [.int j])) (hj : 0 ≤ j) : Tp K a p ns H' j :=
  ⟨by
    rcases T.src with ⟨n, h | ⟨o, h⟩⟩ | h
    · exact .inl ⟨n, .inl (s _ _ n h)⟩
    · exact .inl ⟨n, .inr ⟨o, s _ _ n h⟩⟩
    · exact .inr h, T.len, h, hj⟩
theorem Tp.upd {a p b : Addr} {ns : List Int} {H : Hp} {i : Int} {kvs : List (Key × V)} {o : HO} (T : Tp K a p ns H i) (hb : H b = some (.dK kvs)) : Tp K a p ns (L2.upd H b o) i := by
  refine ⟨?_, T.len, ?_, T.i0⟩
  · rcases T.src with ⟨n, h | ⟨o, h⟩⟩ | h
    · exact .inl ⟨n, .inl (by rw [upd_ne (fun z => by rw [z, hb] at h; cases h)]; exact h)⟩
    · exact .inl ⟨n, .inr ⟨o, by rw [upd_ne (fun z => by rw [z, hb] at h; cases h)]; exact h⟩⟩
    · exact .inr h
  · rw [upd_ne (fun z => by have := T.tape; rw [z, hb] at this; cases this)]
    exact T.tape
theorem Tp.mono {a p : Addr} {ns : List Int} {H H' : Hp} {i : Int} (T : Tp K a p ns H i) (s : Same H H') : Tp K a p ns H' i := T.next s.x (s _ _ T.tape) T.i0
theorem Tp.rep {a p : Addr} {ns : List Int} {H H' : Hp} {i : Int} {d : D} {v : V} (T : Tp K a p ns H i) (s : SameX p H H') (r : Rep H d v) : Rep H' d v :=
  r.monoX s fun vs z => by rw [T.tape] at z; cases z
def spDraw (K : PySem.W.Frag) : Sp := fun vs H Q _ => ∃ (a p : Addr) (ns : List Int) (i m : Int), vs = [.ref a, .ref p, .int m] ∧ Tp K a p ns H i ∧ i < 2 ^ 60 ∧ 0 < m ∧
  ∀ (z : Int) (H' : Hp), 0 ≤ z → z < m → SameX p H H' → H' p = some (.lst [.int (i + 1)]) → Q (.int z) H'
theorem sc_law_draw : FnScope ["_law_script", "_law_tape", "_law_many", "_law_seed", "_law_cell"] ["_law_script", "_law_tape", "_law_many"] (defScope s_law_draw) := ⟨rfl, rfl, rfl, by decide +kernel, rfl, by decide +kernel, by decide +kernel⟩
theorem c_law_draw (D : Df K mg "_law_draw" s_law_draw ["_law_script", "_law_tape", "_law_many"]) (M : Mg mg t) : Cal P w K mg CX0 "_law_draw" (1) ["_law_script", "_law_tape", "_law_many"] (spDraw K) := by
  refine D.ok sc_law_draw (fun vs H Q E h => ?_) (fun base f cdv A outer s H vs Q E hr h => ?_)
  · obtain ⟨a, p, ns, i, m, rfl, _⟩ := h
    rfl
  obtain ⟨a, p, ns, i, m, rfl, T, hi, hm, q⟩ := h
  have i0 := T.i0
  refine ⟨_, (pss_cons (ps_asg (pe_op op_add (pe_ix ix_list (pv 1) pe_int (fun _ _ => rfl)) pe_int) (pg_sub (pv 1) pe_int set_list))
      (pss_cons (ps_if (pt_cmpR op_le (pe_ix ix_list (pv 1) pe_int (fun _ _ => rfl)) (pe_callB call_len_seq rfl M.n_len bt_len (pa_cons (pv 0) pa_nil)) (nomark _)) (pss_one (ps_ret (pe_op op_mod (pe_ix ix_list (pv 0) (pe_op op_sub (pe_ix ix_list (pv 1) pe_int (fun _ _ => rfl)) pe_int) (fun _ _ => rfl)) (pv 2)))) pss_nil)
      (pss_cons (ps_set (i := 3) sc_law_draw.nd rfl (by first | exact Or.inl rfl | exact Or.inr rfl) (pe_callB call_len_seq rfl M.n_len bt_len (pa_cons (pv 0) pa_nil)))
      (pss_cons (ps_for PassesOwn.never rfl (pi_list (pe_slice sl_list (pv 0) po_none (po_some pe_int))) (pg_name (i := 4) sc_law_draw.nd rfl (by first | exact Or.inl rfl | exact Or.inr rfl)) (pss_one (ps_set (i := 3) sc_law_draw.nd rfl (by first | exact Or.inl rfl | exact Or.inr rfl) (pe_op op_mod (pe_op op_add (pe_op op_mul (pv 3) pe_int) (pv 4)) pe_int))))
      (pss_one (ps_ret (pe_op op_mod (pe_op op_mod (pe_op op_mul (pe_op op_add (pv 3) pe_int) (pe_op op_add (pe_op op_mul (pe_ix ix_list (pv 1) pe_int (fun _ _ => rfl)) (pe_ix ix_list (pv 1) pe_int (fun _ _ => rfl))) pe_int)) pe_int) (pv 2)))))))), ?_⟩
  try dsimp only [cxK, cxK2]
  refine let5 ?_
  intro _ _ _ _ _
  refine ⟨_, rfl, p, _, _, _, rfl, rfl, SqL.of T.tape, rfl, _, _, rfl, rfl, _, rfl, p, _, _, 0, rfl, rfl, T.tape, rfl, ?_⟩
  have e1 : (upd H p (.lst ([V.int i].set 0 (V.int (i + 1))))) p = some (.lst [.int (i + 1)]) := upd_same
  have x1 : SameX p H (upd H p (.lst ([V.int i].set 0 (V.int (i + 1))))) := SameX.upd _
  generalize upd H p (.lst ([V.int i].set 0 (V.int (i + 1)))) = H1 at e1 x1 ⊢
  have hS := T.scr H1 x1
  have hl : (ns.map V.int).length = ns.length := List.length_map _
  have hlen := T.len
  refine ⟨_, rfl, p, _, _, _, rfl, rfl, SqL.of e1, rfl, _, rfl, a, _, rfl, .inl hS, _, _, rfl, rfl, _, rfl, ?_⟩
  refine ite2 (fun c => ?_) (fun c => ?_)
  · have c : i + 1 ≤ (((ns.map V.int).length : Nat) : Int) := of_decide_eq_true c
    have hk : i.toNat < ns.length := by rw [hl] at c; omega
    have e2 : (i + 1 - 1 : Int) = ((i.toNat : Nat) : Int) := by omega
    refine ⟨_, rfl, _, rfl, p, _, _, _, rfl, rfl, SqL.of e1, rfl, _, _, rfl, rfl, a, _, _, .int ns[i.toNat], rfl, rfl, hS, ?_, _, rfl, _, _, rfl, rfl, hm, ?_⟩
    · rw [e2]
      exact atI_nat (by rw [List.getElem?_map, List.getElem?_eq_getElem hk]; rfl)
    · exact q _ H1 (Int.emod_nonneg _ (by omega)) (Int.emod_lt_of_pos _ hm) x1 e1
  · refine ⟨_, rfl, a, _, rfl, .inl hS, ?_⟩
    refine ⟨_, rfl, _, rfl, a, _, rfl, hS, fun p2 hp2 => ?_⟩
    have s2 := same_new hp2 (.lst (cutV (ns.map V.int) none (some 4)))
    have n2 : p ≠ p2 := ne_of_none e1 hp2
    have h2 : (upd H1 p2 (.lst (cutV (ns.map V.int) none (some 4)))) p2 = some (.lst (cutV (ns.map V.int) none (some 4))) := upd_same
    rw [show (4 : Int) = ((4 : Nat) : Int) from rfl, cutV_to, ← List.map_take] at s2 h2 ⊢
    generalize upd H1 p2 (.lst ((ns.take 4).map V.int)) = H2 at s2 h2 ⊢
    refine ⟨p2, rfl, ⟨_, SqL.of h2⟩, ?_⟩
    let Ifr : Nat → L2.St → Hp → Prop := (fun j σ' H' => ∃ (z : Int) (cv : Option V), σ' = [some (.ref a), some (.ref p), some (.int m), some (.int z), cv] ∧ 0 ≤ z ∧ z < 2000000 ∧ H' = H2)
    refine for_by (ns.take 4).length Ifr ?_ ?_ ?_
    · exact ⟨_, none, rfl, by omega, by rw [hl]; omega, rfl⟩
    · rintro j σ' H' hj ⟨z, cv, rfl, z0, z1, rfl⟩
      have hj' : (ns.take 4)[j]? = some (ns.take 4)[j] := List.getElem?_eq_getElem hj
      have hw : ((ns.take 4).map V.int)[j]? = some (.int (ns.take 4)[j]) := by rw [List.getElem?_map, hj']; rfl
      refine ⟨⟨_, _, SqL.of h2, hw⟩, ?_⟩
      rintro x' H3 ⟨rfl, hy⟩
      have hy := hy _ (SqL.of h2)
      rw [hw] at hy
      cases hy
      refine ⟨_, rfl, _, _, rfl, rfl, .inl ⟨by omega, by omega⟩, _, rfl, _, _, rfl, rfl, _, _, rfl, rfl, (by show (0 : Int) < 1000003; decide), ?_⟩
      refine ⟨_, _, rfl, Int.emod_nonneg _ (by decide), ?_, rfl⟩
      have := Int.emod_lt_of_pos (z * 131 + (ns.take 4)[j]) (show (0 : Int) < 1000003 by decide)
      omega
    · rintro σ' H' ⟨z, cv, rfl, z0, z1, rfl⟩
      have e2 := s2 _ _ e1
      refine ⟨⟨_, SqL.of h2, by rw [List.length_map]; exact Nat.le_refl _⟩, ?_⟩
      refine ⟨_, rfl, _, _, rfl, rfl, _, rfl, p, _, _, _, rfl, rfl, SqL.of e2, rfl, _, rfl, p, _, _, _, rfl, rfl, SqL.of e2, rfl, _, _, rfl, rfl, .inl ⟨by omega, by omega⟩, _, _, rfl, rfl, _, _, rfl, rfl, .inl ⟨by omega, by omega⟩, _, _, rfl, rfl, (by show (0 : Int) < 1000003; decide), _, rfl, _, _, rfl, rfl, hm, ?_⟩
      exact q _ _ (Int.emod_nonneg _ (by omega)) (Int.emod_lt_of_pos _ hm) (x1.trans s2.x) e2
end K22
end
section
namespace L3
open PySem PySem.Spec PyProof.Rows L2 KM
section
variable {X : Cx}
def rIndex : V → List V → Hp → VK → Prop := fun x vs H Q => ∃ (z y : Str) (i : Nat) (rest : List Nat), x = .str z ∧ vs = [.str y] ∧ Builtin.Str.occurrences z y 0 z.length 1 = i :: rest ∧ Q (.int (i : Nat)) H
theorem mt_index : MtR X "str.index" rIndex := by
  intro pins s σ H x vs v us Q I rx rv h
  obtain ⟨z, y, i, rest, rfl, rfl, ho, q⟩ := h
  obtain ⟨u, rfl, ru⟩ := rv.one
  obtain ⟨t, rfl⟩ := (show ∃ t, v = Value.str z t from rx)
  obtain ⟨t2, rfl⟩ := (show ∃ t, u = Value.str y t from ru)
  exact SC.index ho ⟨.int (i : Nat), H, I.tok _, ⟨_, rfl⟩, q⟩
theorem strs_are : ∀ {ys : List Str} {us : List Value}, Vals (ys.map V.str) us → StrsAre us ys
  | [], _, .nil => .nil
  | y :: ys, _, .cons r t => by
    obtain ⟨tk, rfl⟩ := (show ∃ t, _ = Value.str y t from r)
    exact .cons y tk (strs_are t)
def rJoin (K : PySem.W.Frag) : V → List V → Hp → VK → Prop := fun x vs H Q => ∃ (z : Str) (l : Addr) (ys : List Str), x = .str z ∧ vs = [.ref l] ∧ SqL K H l (ys.map V.str) ∧ (ys.map (·.length)).sum + ys.length * z.length ≤ 16777216 ∧ Q (.str (Txt.join z ys)) H
theorem mt_join : MtR X "str.join" (rJoin X.K) := by
  intro pins s σ H x vs v us Q I rx rv h
  obtain ⟨z, l, ys, rfl, rfl, hl, ho, q⟩ := h
  obtain ⟨u, rfl, ru⟩ := rv.one
  obtain ⟨t, rfl⟩ := (show ∃ t, v = Value.str z t from rx)
  cases ru
  obtain ⟨its, r, p, _⟩ := I.list hl
  exact join_list p.isList (by simpa using strs_are r) ho fun t' k => ⟨.str _, H, I.tok _, ⟨_, rfl⟩, q⟩
theorem call_dictK : CallR X (.type "dict") (fun xs H Q => ∃ (a : Addr) (kvs : List (Key × V)), xs = [.ref a] ∧ H a = some (.dK kvs) ∧ ∀ p, H p = none → Q (.ref p) (upd H p (.dK kvs))) := by
  intro pins s σ H xs us Q I r h
  obtain ⟨a, kvs, rfl, ha, q⟩ := h
  obtain ⟨u, rfl, ru⟩ := r.one
  cases ru
  obtain ⟨z, hd, vs, rel, dd⟩ := dk_of I.hok ha
  have hf : H s.heap.objs.size = none := I.hok.fresh (Nat.le_refl _)
  refine PySem.kt_call_dict (knd := mixKind X.prog X.w) hd dd (by rw [← rel.length]; exact z) fun h' hn hs => ⟨.ref s.heap.objs.size, _, ?_, rfl, q _ hf⟩
  refine I.laid (a := s.heap.objs.size) (o := .dK kvs) (t' := s.toks) (fun b o e => ?_) (Nat.le_refl _) (dk_new z ?_ rel hn)
  · rw [hs.2 b (Nat.ne_of_lt (Heap.lt_size e))]
    exact Heap.get?_push_of_some _ e
  · exact beq_eq_false_iff_ne.mpr (Nat.ne_of_gt I.big)
theorem key_hit (A : Around) (s : Shared) {vs0 : List (Key × Value)} : ∀ (vs : List (Key × Value)), (∀ (k : Key) (v : Value), (k, v) ∈ vs → valueAt vs0 k = some v) → PySem.W.KeqHits A s vs0 vs true
  | [], _ => .nil
  | (k, v) :: r, h => PySem.W.KeqHits.hit (e := true) (b := true) (h _ _ List.mem_cons_self) (SeqAt.EqAt.same _) (key_hit A s r fun k v hk => h k v (List.mem_cons_of_mem _ hk))
theorem value_at {vs : List (Key × Value)} (nd : (vs.map (·.1)).Nodup) : ∀ (k : Key) (v : Value), (k, v) ∈ vs → valueAt vs k = some v := fun k v hm => by
  induction vs with
  | nil => cases hm
  | cons p r ih =>
    obtain ⟨k0, v0⟩ := p
    rw [List.map_cons, List.nodup_cons] at nd
    rcases List.mem_cons.mp hm with e | hm
    · cases e
      simp [valueAt]
    · have hne : k0 ≠ k := fun z => nd.1 (by rw [z]; exact List.mem_map.mpr ⟨(k, v), hm, rfl⟩)
      have := ih nd.2 hm
      simp [valueAt, hne] at this ⊢
      exact this
theorem kv_eq : ∀ {kvs : List (Key × V)} {vs us : List (Key × Value)}, KV kvs vs → KV kvs us → (∀ k v, (k, v) ∈ kvs → ∃ c, v = V.ref c) → vs = us
  | [], _, _, .nil, .nil, _ => rfl
  | (k, v) :: r, (k1, v1) :: _, (k2, v2) :: _, .cons a t, .cons b u, h => by
    obtain ⟨c, rfl⟩ := h k v List.mem_cons_self
    have a1 : k = k1 := a.1
    have b1 : k = k2 := b.1
    have a2 : v1 = Value.ref c := a.2
    have b2 : v2 = Value.ref c := b.2
    rw [← a1, ← b1, a2, b2, kv_eq t u fun k v hk => h k v (List.mem_cons_of_mem _ hk)]
theorem call_min2 (hh : X.A.handled = none) : CallR X (.builtin "min") (fun xs H Q => ∃ i j : Int, xs = [.int i, .int j] ∧ Q (.int (if j < i then j else i)) H) := by
  intro pins s σ H xs us Q I r h
  obtain ⟨i, j, rfl, q⟩ := h
  obtain ⟨u1, u2, rfl, r1, r2⟩ := Vals.two r
  obtain ⟨t1, rfl⟩ := (show ∃ t, u1 = Value.int i t from r1)
  obtain ⟨t2, rfl⟩ := (show ∃ t, u2 = Value.int j t from r2)
  refine min_two_ints hh fun h' tk hk => ⟨.int (if j < i then j else i), H, I.kept (h' := h') (t' := tk) hk, ?_, q⟩
  split
  · exact ⟨_, rfl⟩
  · exact ⟨_, rfl⟩
theorem call_max2 (hh : X.A.handled = none) : CallR X (.builtin "max") (fun xs H Q => ∃ i j : Int, xs = [.int i, .int j] ∧ Q (.int (if j > i then j else i)) H) := by
  intro pins s σ H xs us Q I r h
  obtain ⟨i, j, rfl, q⟩ := h
  obtain ⟨u1, u2, rfl, r1, r2⟩ := Vals.two r
  obtain ⟨t1, rfl⟩ := (show ∃ t, u1 = Value.int i t from r1)
  obtain ⟨t2, rfl⟩ := (show ∃ t, u2 = Value.int j t from r2)
  refine max_two_ints hh fun h' tk hk => ⟨.int (if j > i then j else i), H, I.kept (h' := h') (t' := tk) hk, ?_, q⟩
  split
  · exact ⟨_, rfl⟩
  · exact ⟨_, rfl⟩
end
section
variable {X : Cx} {pins : List (Addr × Obj)} {σ : L2.St} {H : Hp} {s : Shared} {a : Addr} {D : List (Str × V)} {k : Str} {tk : Tok} {A : Around} {E : Value → Shared → Prop}
theorem tab_get2 {Q : Value → Shared → Prop} {x : V} {u0 : Value} (T : TabK X.K a D) (I : Inv X pins σ H s) (rx : RelV x u0) (h : ∀ w', RelV ((KTD.datumAt k D).getD x) w' → Q w' { s with toks := s.toks + 1 }) : wpAny (model X.prog X.w) A (call (.builtin "dict.get") [.ref a, .str k tk, u0]) Q E s := by
  have ty := T.typeIs I
  refine wpAny_call_entry PySem.F.slot_dict_get ty PySem.F.entry_dict_get ?_ (PySem.F.args_dict_get_3 _ _ _)
  show wpAny (model X.prog X.w) _ (dictGet a (.str k tk) >>= _) _ _ s
  refine wpAny_bind (tab_get T I (fun v u e r => ?_) fun hn => ?_)
  · have h := h u (by rw [e]; exact r)
    exact wpAny_pure ⟨u, rfl, h⟩
  · have h := h u0 (by rw [hn]; exact rx)
    refine wpAny_bind ?_
    unfold Builtin.Dict.missed
    rw [T.sys]
    simp only [Bool.false_eq_true, if_false]
    exact wpAny_pure (wpAny_pure ⟨_, rfl, h⟩)
end
def tTGet2 (K : PySem.W.Frag) (td ty tx : TE) : TE := fun σ H Q => td σ H fun x H1 => ∃ a D, x = .ref a ∧ TabK K a D ∧ ty σ H1 fun y H2 => tx σ H2 fun z H3 => ∃ k, y = .str k ∧ Q ((KTD.datumAt k D).getD z) H3
theorem pe_tget2 {X : Cx} {o e f : Expr} {apos cpos : Pos} {td ty tx : TE} (ho : PE X o td) (he : PE X e ty) (hf : PE X f tx) (m : M2 X o "get" apos e f cpos) : PE X (.Call (.Attribute o "get" apos) [e, f] [] cpos) (tTGet2 X.K td ty tx) := by
  intro pins s σ H Q I h
  refine wpAny_Call_method m.base m.few m.line PySem.F.plainAttrs_dict PySem.F.slot_dict_get PySem.F.type_dict_get (thn (ho pins s σ H _ I h) fun u s1 ⟨x, H1, I1, rx, a, D, ex, T, q1⟩ => ?_)
  subst ex
  obtain rfl : u = Value.ref a := rx
  have t1 := T.typeIs I1
  refine ⟨t1, fun b q => ?_, ?_⟩
  · cases q
    obtain ⟨o, _, _, e, x, _⟩ := T.ex
    exact ⟨o, I1.kIn a o e, x.2.1⟩
  rw [m.trees]
  refine Calls.callWith_builtin rfl (Calls.evalArgs_plain (Calls.spliced_cons (thn (he pins s1 σ H1 _ I1 q1) fun iv s2 ⟨y, H2, I2, ry, q2⟩ =>
    Calls.spliced_cons (thn (hf pins s2 σ H2 _ I2 q2) fun fv s3 ⟨z, H3, I3, rz, k, ey, q3⟩ => Calls.spliced_nil ?_))))
  subst ey
  obtain ⟨t, rfl⟩ := ry
  exact tab_get2 T I3 rz fun w' r => ⟨_, H3, I3.tok _, r, q3⟩
theorem bt_min : bootBuiltins "min" = some (.builtin "min") := by decide +kernel
theorem bt_dict : bootBuiltins "dict" = some (.type "dict") := by decide +kernel
theorem comp_prop {J : It} {p : Addr} {H1 : Hp} {g : TG} {te : TE} {b : L2.St} {C : Hp → Prop} (n : Nat) (B : Nat → V → Prop) (hp : H1 p = none) (hn : n ≤ sizeLine)
    (hgo : ∀ i H2, i < n → Same H1 H2 → J.go i H2 ∧ ∀ x H3, J.yld i H2 x H3 → ∀ (R : V → Hp → Prop), (∀ (z : V) H6, Same H2 H6 → B i z → R z H6) → g x b H3 fun σ4 H4 => te σ4 H4 R)
    (hd : ∀ (ns : List V) H2, Same H1 H2 → ns.length = n → (∀ (i : Nat) (z : V), ns[i]? = some z → B i z) → H2 p = some (.lst ns) → J.stop n H2 ∧ C H2) :
    ∃ W : Nat → Nat → List V → Hp → Prop, (∃ m, W 0 m [] (upd H1 p (.lst []))) ∧ ∀ i m acc H2, W i m acc H2 → (J.stop i H2 ∧ C H2) ∨ (J.go i H2 ∧ ∀ x H3, J.yld i H2 x H3 → g x b H3 fun σ4 H4 => tYes σ4 H4 fun ok H5 =>
      if ok = true then te σ4 H5 fun v H6 => H6 p = some (.lst acc) ∧ acc.length < sizeLine ∧ ∃ m', m' < m ∧ W (i + 1) m' (acc ++ [v]) (upd H6 p (.lst (acc ++ [v]))) else ∃ m', m' < m ∧ W (i + 1) m' acc H5) := by
  refine comp_by (Q := fun _ H => C H) n (fun i acc H2 => acc.length = i ∧ (∀ (j : Nat) (z : V), acc[j]? = some z → B j z) ∧ H2 p = some (.lst acc) ∧ Same H1 H2) ⟨rfl, fun j z e => by simp at e, upd_same, same_new hp _⟩ ?_ ?_
  · rintro i acc H2 hi ⟨hl, hB, h2, s2⟩
    obtain ⟨g1, g2⟩ := hgo i H2 hi s2
    refine ⟨g1, fun x H3 y => ?_⟩
    simp only [tYes, if_true]
    refine g2 x H3 y _ fun z H6 s6 hz => ⟨s6 _ _ h2, by omega, nx hi ⟨by simp [hl], fun j y e => ?_, upd_same, same_upd (s2.trans s6) hp⟩⟩
    by_cases hj : j < acc.length
    · rw [List.getElem?_append_left hj] at e
      exact hB j y e
    · rw [List.getElem?_append_right (by omega)] at e
      have : j - acc.length = 0 := by
        by_cases q : j - acc.length = 0
        · exact q
        · rw [List.getElem?_eq_none (by simp; omega)] at e; cases e
      rw [this] at e
      simp at e
      subst e
      have : j = i := by omega
      rw [this]
      exact hz
  · rintro acc H2 ⟨hl, hB, h2, s2⟩
    exact hd acc H2 s2 hl hB h2
theorem vals_refs : ∀ (bs : List Addr), Vals (bs.map V.ref) (bs.map Value.ref)
  | [] => .nil
  | b :: bs => .cons rfl (vals_refs bs)
theorem sqr_mk {K : PySem.W.Frag} {a : Addr} {d : Option Addr} {its : Array Value} {n : Nat} {sl : Array (Option Value)} (bs : List Addr) (h : K.lookup a = some ⟨.type "tuple", d, .seq its n, sl⟩) (e : its.toList = bs.map Value.ref) (hl : bs.length ≤ 100 := by decide) : SqK K a (bs.map V.ref) := by
  refine ⟨_, its, n, h, rfl, rfl, ?_, by rw [e]; exact vals_refs bs⟩
  have h2 := congrArg List.length e
  rw [Array.length_toList, List.length_map] at h2
  rw [h2]
  exact Nat.le_trans hl (by decide)
theorem tabr_mk {K : PySem.W.Frag} {a : Addr} {es : Array DictEntry} {ep : Nat} (ks : List Str) (as : List Addr) (sy : (a == sysModules) = false) (lk : K.lookup a = some ⟨.type "dict", none, .dict es ep, #[]⟩) (c : rowsChk es.toList ks = true) (rf : refsOf es.toList = as) : TabK K a ((ks.zip as).map fun p => (p.1, V.ref p.2)) := by
  refine ⟨sy, _, es, ep, lk, ⟨rfl, rfl, rfl⟩, rfl, ?_⟩
  have h := rows_of c
  rw [rf] at h
  exact h
end L3
end
section
set_option maxHeartbeats 1000000
namespace K22
open PySem L2 L3 KM PyProof.Rows
seal L2.PE L2.PS L2.PSs L2.PT L2.PW L2.PA L2.PG L2.PGs L2.PI L2.PC L2.PO L2.PPs L2.PK L3.PIf
variable {P : Program} {w : World} {K : PySem.W.Frag} {mg : Str → Option Value} {base : Heap} {t : Adr}
theorem big {m : Nat} (h : m ≤ 1000) : m ≤ sizeLine := Nat.le_trans h (by decide)
theorem lapp (a b : Str) : (a ++ b).length = a.length + b.length := Array.size_append
def spNamed : Sp := fun vs H Q _ => ∃ x : Str, vs = [.str x] ∧ x.length ≤ 100 ∧ ∀ (y : Str) (H' : Hp), y.length ≤ 101 → Same H H' → Q (.str y) H'
theorem sc_law_named : FnScope ["_law_word"] ["_law_word"] (defScope s_law_named) := ⟨rfl, rfl, rfl, by decide +kernel, rfl, by decide +kernel, by decide +kernel⟩
theorem c_law_named (D : Df K mg "_law_named" s_law_named ["_law_word"]) (M : Mg mg t) : Cal P w K mg CX0 "_law_named" (1) ["_law_word"] spNamed := by
  refine D.ok sc_law_named (fun vs H Q E h => ?_) (fun base f cdv A outer s H vs Q E hr h => ?_)
  · obtain ⟨x, rfl, _⟩ := h
    rfl
  obtain ⟨x, rfl, hx, q⟩ := h
  refine ⟨_, (pss_cons (ps_if (pt_cmpR op_in_seq (pv 0) (pe_tup (pa_cons pe_str (pa_cons pe_str (pa_cons pe_str (pa_cons pe_str (pa_cons pe_str (pa_cons pe_str (pa_cons pe_str (pa_cons pe_str (pa_cons pe_str (pa_cons pe_str (pa_cons pe_str (pa_cons pe_str (pa_cons pe_str pa_nil)))))))))))))) rfl) (pss_one (ps_ret (pe_op op_add_str (pe_slS (pv 0) po_none (po_some (pe_un un_neg pe_int)) po_none) pe_str))) pss_nil)
      (pss_cons (ps_if (pt_cmpR op_in_seq (pv 0) (pe_tup (pa_cons pe_str (pa_cons pe_str (pa_cons pe_str (pa_cons pe_str (pa_cons pe_str pa_nil)))))) rfl) (pss_one (ps_ret (pe_op op_add_str (pe_slS (pv 0) po_none (po_some (pe_un un_neg pe_int)) po_none) pe_str))) pss_nil)
      (pss_one (ps_ret (pv 0))))), ?_⟩
  try dsimp only [cxK, cxK2]
  refine let3 ?_
  intro _ _ _
  refine ⟨_, rfl, (by show 13 ≤ sizeLine; decide), fun p1 hp1 => ⟨p1, (["nat", "none", "all", "some", "same", "var", "fun", "app", "zero", "next", "rec", "like", "carry"] : List Str).map V.str, rfl, .inr (SqT.of upd_same), rfl, rfl, _, rfl, ?_⟩⟩
  have s1 : Same H _ := same_new hp1 (.tup ((["nat", "none", "all", "some", "same", "var", "fun", "app", "zero", "next", "rec", "like", "carry"] : List Str).map V.str))
  refine ite2 (fun c => ?_) (fun c => ?_)
  · refine ⟨_, rfl, _, rfl, _, rfl, x, rfl, big (by omega), (by simp), fun y hy => ⟨_, _, rfl, rfl, big (by show y.length + 1 ≤ 1000; omega), q _ _ (by rw [lapp]; show y.length + 1 ≤ 101; omega) s1⟩⟩
  · refine ⟨_, rfl, (by show 5 ≤ sizeLine; decide), fun p2 hp2 => ⟨p2, (["never", "pair", "first", "second", "name"] : List Str).map V.str, rfl, .inr (SqT.of upd_same), rfl, rfl, _, rfl, ?_⟩⟩
    have s2 := s1.trans (same_new hp2 (.tup ((["never", "pair", "first", "second", "name"] : List Str).map V.str)))
    refine ite2 (fun c => ?_) (fun c => ?_)
    · refine ⟨_, rfl, _, rfl, _, rfl, x, rfl, big (by omega), (by simp), fun y hy => ⟨_, _, rfl, rfl, big (by show y.length + 1 ≤ 1000; omega), q _ _ (by rw [lapp]; show y.length + 1 ≤ 101; omega) s2⟩⟩
    · exact ⟨_, rfl, q x _ (by omega) s2⟩
def letters : Str := "abcdefghijklmnopqrstuvwxyz"
def letC (j : Int) : Nat := (letters.cps.toList[(j % 26).toNat]?).getD 97
theorem let_len : letters.cps.toList.length = 26 := by decide +kernel
theorem let_at (j : Int) : atI letters.cps.toList (j % 26) = some (letC j) ∧ letC j ∈ letters.cps.toList := by
  have h0 := Int.emod_nonneg j (show (26 : Int) ≠ 0 by decide)
  have h1 := Int.emod_lt_of_pos j (show (0 : Int) < 26 by decide)
  have hl : (j % 26).toNat < letters.cps.toList.length := by rw [let_len]; omega
  have e : letters.cps.toList[(j % 26).toNat]? = some (letC j) := by
    unfold letC
    rw [List.getElem?_eq_getElem hl]
    rfl
  refine ⟨?_, List.mem_of_getElem? e⟩
  have ej : j % 26 = (((j % 26).toNat : Nat) : Int) := by omega
  rw [ej]
  exact atI_nat e
theorem let_idx : (letters.cps.toList.all fun c => match Builtin.Str.occurrences letters ⟨#[c]⟩ 0 letters.length 1 with
    | _ :: _ => true
    | [] => false) = true := by decide +kernel
theorem let_occ {c : Nat} (h : c ∈ letters.cps.toList) : ∃ i rest, Builtin.Str.occurrences letters ⟨#[c]⟩ 0 letters.length 1 = i :: rest := by
  have := List.all_eq_true.mp let_idx c h
  cases e : Builtin.Str.occurrences letters ⟨#[c]⟩ 0 letters.length 1 with
  | nil => rw [e] at this; cases this
  | cons i rest => exact ⟨i, rest, rfl⟩
theorem glue_fold : ∀ (cs : List Nat) (A : Array Nat), (cs.map fun c => (⟨#[c]⟩ : Str)).foldl (fun acc p => acc ++ (Str.ofString "").cps ++ p.cps) A = A ++ cs.toArray
  | [], A => by simp
  | c :: cs, A => by
    rw [List.map_cons, List.foldl_cons, glue_fold cs]
    have e : (Str.ofString "").cps = #[] := by decide +kernel
    rw [e]
    simp
theorem join_letters (cs : List Nat) : (Txt.join (Str.ofString "") (cs.map fun c => (⟨#[c]⟩ : Str))).cps.toList = cs := by
  cases cs with
  | nil => decide +kernel
  | cons c cs =>
    show ((((c :: cs).map fun c => (⟨#[c]⟩ : Str)).drop 1).foldl (fun acc p => acc ++ (Str.ofString "").cps ++ p.cps) (((c :: cs).map fun c => (⟨#[c]⟩ : Str)).headD Str.empty).cps).toList = c :: cs
    rw [List.map_cons, List.drop_succ_cons, List.drop_zero, glue_fold]
    simp
theorem sum_ones (cs : List Nat) : ((cs.map fun c => (⟨#[c]⟩ : Str)).map (·.length)).sum = cs.length := by
  induction cs with
  | nil => rfl
  | cons c cs ih =>
    rw [List.map_cons, List.map_cons, List.sum_cons, ih, List.length_cons]
    show 1 + cs.length = _
    omega
def spPool (K : PySem.W.Frag) : Sp := fun vs H Q _ => ∃ (a p : Addr) (ns : List Int) (i : Int), vs = [.ref a, .ref p] ∧ Tp K a p ns H i ∧ i < 2 ^ 59 ∧
  ∀ (c : Addr) (x y z : Str) (H' : Hp), x.length ≤ 101 → y.length ≤ 101 → z.length ≤ 101 → H' c = some (.lst [.str x, .str y, .str z]) → SameX p H H' → H' p = some (.lst [.int (i + 4)]) → Q (.ref c) H'
theorem sc_law_pool : FnScope ["_law_script", "_law_tape", "_law_letters", "_law_cell", "_law_size", "_law_word", "_law_at", "_law_other", "_law_words"] ["_law_script", "_law_tape"] (defScope s_law_pool) := ⟨rfl, rfl, rfl, by decide +kernel, rfl, by decide +kernel, by decide +kernel⟩
theorem c_law_pool (D : Df K mg "_law_pool" s_law_pool ["_law_script", "_law_tape"]) (M : Mg mg t) (F_law_draw : Cal P w K mg CX0 "_law_draw" (1) ["_law_script", "_law_tape", "_law_many"] (spDraw K)) (F_law_named : Cal P w K mg CX0 "_law_named" (1) ["_law_word"] spNamed) : Cal P w K mg CX0 "_law_pool" (2) ["_law_script", "_law_tape"] (spPool K) := by
  refine D.ok sc_law_pool (fun vs H Q E h => ?_) (fun base f cdv A outer s H vs Q E hr h => ?_)
  · obtain ⟨a, p, ns, i, rfl, _⟩ := h
    rfl
  obtain ⟨a, p, ns, i, rfl, T, hi, q⟩ := h
  refine ⟨_, (pss_cons (ps_set (i := 2) sc_law_pool.nd rfl (by first | exact Or.inl rfl | exact Or.inr rfl) pe_str)
      (pss_cons (ps_set (i := 3) sc_law_pool.nd rfl (by first | exact Or.inl rfl | exact Or.inr rfl) (pe_fn F_law_draw (hr.mono (by omega)) rfl pass0 (pa_cons (pv 0) (pa_cons (pv 1) (pa_cons (pe_op op_pow pe_int pe_int) pa_nil)))))
      (pss_cons (ps_set (i := 4) sc_law_pool.nd rfl (by first | exact Or.inl rfl | exact Or.inr rfl) (pe_op op_add pe_int (pe_fn F_law_draw (hr.mono (by omega)) rfl pass0 (pa_cons (pv 0) (pa_cons (pv 1) (pa_cons pe_int pa_nil))))))
      (pss_cons (ps_set (i := 5) sc_law_pool.nd rfl (by first | exact Or.inl rfl | exact Or.inr rfl) (pe_bm PySem.F.plainAttrs_str PySem.F.slot_str_join PySem.F.type_str_join mt_join pe_str (pa_cons (pe_comp (N' := ["_law_k", "_law_letters", "_law_cell"]) (own := 1) (fr := [2, 3]) rfl (blk_of (N := ["_law_script", "_law_tape", "_law_letters", "_law_cell", "_law_size", "_law_word", "_law_at", "_law_other", "_law_words"]) (sc := defScope s_law_pool) rfl rfl rfl (by decide +kernel)) (pi_range1 rfl M.n_range (pa_cons (pv 4) pa_nil)) (own_name (by decide)) (fun _ _ _ => (pg_name (i := 0) (show List.Nodup (["_law_k", "_law_letters", "_law_cell"] : List Str) by decide +kernel) rfl (Or.inl rfl))) (fun _ _ _ => pif_nil) (fun _ _ _ => (pe_ix ix_str (pv 1) (pe_op op_mod (pe_op op_add (pe_op op_fdiv (pv 2) (pe_op op_add (pv 0) pe_int)) (pe_op op_mul pe_int (pv 0))) pe_int) (fun _ _ => rfl)))) pa_nil)))
      (pss_cons (ps_set (i := 6) sc_law_pool.nd rfl (by first | exact Or.inl rfl | exact Or.inr rfl) (pe_fn F_law_draw (hr.mono (by omega)) rfl pass0 (pa_cons (pv 0) (pa_cons (pv 1) (pa_cons (pv 4) pa_nil)))))
      (pss_cons (ps_set (i := 7) sc_law_pool.nd rfl (by first | exact Or.inl rfl | exact Or.inr rfl) (pe_ix ix_str (pv 2) (pe_op op_mod (pe_op op_add (pe_op op_add (pe_bm PySem.F.plainAttrs_str PySem.F.slot_str_index PySem.F.type_str_index mt_index (pv 2) (pa_cons (pe_ix ix_str (pv 5) (pv 6) (fun _ _ => rfl)) pa_nil)) pe_int) (pe_fn F_law_draw (hr.mono (by omega)) rfl pass0 (pa_cons (pv 0) (pa_cons (pv 1) (pa_cons pe_int pa_nil))))) pe_int) (fun _ _ => rfl)))
      (pss_cons (ps_set (i := 8) sc_law_pool.nd rfl (by first | exact Or.inl rfl | exact Or.inr rfl) (pe_lst (pa_cons (pv 5) (pa_cons (pe_op op_add_str (pe_op op_add_str (pe_slS (pv 5) po_none (po_some (pv 6)) po_none) (pv 7)) (pe_slS (pv 5) (po_some (pe_op op_add (pv 6) pe_int)) po_none po_none)) (pa_cons (pe_slS (pe_op op_add_str (pv 7) (pv 5)) po_none (po_some pe_int) po_none) pa_nil)))))
      (pss_one (ps_ret (pe_comp (N' := ["_law_one"]) (own := 1) (fr := []) rfl (blk_of (N := ["_law_script", "_law_tape", "_law_letters", "_law_cell", "_law_size", "_law_word", "_law_at", "_law_other", "_law_words"]) (sc := defScope s_law_pool) rfl rfl rfl (by decide +kernel)) (pi_list (pv 8)) (own_name (by decide)) (fun _ _ _ => (pg_name (i := 0) (show List.Nodup (["_law_one"] : List Str) by decide +kernel) rfl (Or.inl rfl))) (fun _ _ _ => pif_nil) (fun _ _ _ => (pe_fn F_law_named (hr.mono (by omega)) rfl pass0 (pa_cons (pv 0) pa_nil))))))))))))), ?_⟩
  try dsimp only [cxK, cxK2]
  refine let8 ?_
  intro _ _ _ _ _ _ _ _
  refine ⟨_, rfl, _, rfl, _, _, rfl, rfl, ⟨by decide, by decide, by decide⟩, a, p, ns, i, _, rfl, T, (by omega), (by decide), fun cell H1 c0 c1 x1 h1 => ?_⟩
  have T1 := T.next x1 h1 (by have := T.i0; omega)
  refine ⟨_, rfl, _, rfl, a, p, ns, i + 1, 12, rfl, T1, (by omega), (by decide), fun sz H2 z0 z1 x2 h2 => ⟨_, _, rfl, rfl, ?_⟩⟩
  have T2 := T1.next x2 h2 (by have := T.i0; omega)
  obtain ⟨m, em⟩ : ∃ m : Nat, 1 + sz = (m : Int) := ⟨(1 + sz).toNat, by omega⟩
  show gName 4 (V.int (1 + sz)) _ _ _
  rw [em]
  refine ⟨rfl, _, rfl, _, rfl, (by show -(2 ^ 62) ≤ ((m : Nat) : Int); omega), (by show ((m : Nat) : Int) < 2 ^ 62; omega), fun p3 hp3 => ?_⟩
  refine comp_vals m (fun k => V.str ⟨#[letC (cell / ((k : Nat) + 1) + 5 * (k : Nat))]⟩) hp3 (big (by omega)) (fun k H3 hk s3 => ⟨hk, ?_⟩) fun H3 s3 h3 => ⟨Nat.le_refl _, ?_⟩
  · rintro x' H4 ⟨rfl, rfl⟩ R hR
    have e0 : (0 : Int) + (k : Int) = ((k : Nat) : Int) := by omega
    rw [e0]
    refine ⟨_, rfl, _, rfl, _, rfl, _, _, rfl, rfl, _, _, rfl, rfl, ⟨by omega, by omega⟩, _, rfl, _, _, rfl, rfl, .inl ⟨by decide, by decide⟩, _, _, rfl, rfl, _, _, rfl, rfl, (by show (0 : Int) < 26; decide), letters, _, _, rfl, rfl, (by decide), (let_at _).1, hR _ (Same.refl _)⟩
  have e3 : (List.range m).map (fun k : Nat => V.str ⟨#[letC (cell / ((k : Nat) + 1) + 5 * (k : Nat))]⟩) = ((((List.range m).map fun k : Nat => letC (cell / ((k : Nat) + 1) + 5 * (k : Nat))).map fun c => (⟨#[c]⟩ : Str))).map V.str := by
    rw [List.map_map, List.map_map]
    rfl
  rw [e3] at h3
  have hcs : ∀ c ∈ ((List.range m).map fun k : Nat => letC (cell / ((k : Nat) + 1) + 5 * (k : Nat))), c ∈ letters.cps.toList := fun c hc => by
    obtain ⟨k, _, rfl⟩ := List.mem_map.mp hc
    exact (let_at _).2
  have hcl : ((List.range m).map fun k : Nat => letC (cell / ((k : Nat) + 1) + 5 * (k : Nat))).length = m := by rw [List.length_map, List.length_range]
  generalize ((List.range m).map fun k : Nat => letC (cell / ((k : Nat) + 1) + 5 * (k : Nat))) = cs at h3 hcs hcl e3
  refine ⟨_, p3, _, rfl, rfl, SqL.of h3, ?_, ?_⟩
  · rw [sum_ones, List.length_map]
    show cs.length + cs.length * 0 ≤ _
    omega
  have hW := join_letters cs
  have hWl : (Txt.join (Str.ofString "") (cs.map fun c => (⟨#[c]⟩ : Str))).length = m := by
    have := congrArg List.length hW
    rw [Array.length_toList] at this
    rw [← hcl, ← this]
    rfl
  generalize Txt.join (Str.ofString "") (cs.map fun c => (⟨#[c]⟩ : Str)) = W at hW hWl ⊢
  have T3 := T2.mono s3
  have i0 := T.i0
  refine ⟨_, rfl, _, rfl, _, rfl, a, p, ns, i + 1 + 1, m, rfl, T3, (by omega), (by omega), fun at_ H4 a0 a1 x4 h4 => ?_⟩
  have T4 := T3.next x4 h4 (by omega)
  obtain ⟨n, rfl⟩ : ∃ n : Nat, at_ = (n : Int) := ⟨at_.toNat, by omega⟩
  have hat : n < cs.length := by omega
  have hc : atI W.cps.toList (n : Int) = some cs[n] := by
    rw [hW]
    exact atI_nat (List.getElem?_eq_getElem hat)
  obtain ⟨ix, rest, hoc⟩ := let_occ (hcs _ (List.getElem_mem hat))
  refine ⟨_, rfl, _, rfl, rfl, _, rfl, _, rfl, W, _, _, rfl, rfl, big (by omega), hc, letters, _, ix, rest, rfl, rfl, hoc, _, _, rfl, rfl, _, rfl, _, rfl, a, p, ns, i + 1 + 1 + 1, 25, rfl, T4, (by omega), (by decide), fun r H5 r0 r1 x5 h5 => ?_⟩
  refine ⟨_, _, rfl, rfl, _, _, rfl, rfl, (by show (0 : Int) < 26; decide), letters, _, _, rfl, rfl, (by decide), (let_at _).1, ?_⟩
  have one : ∀ c : Nat, (⟨#[c]⟩ : Str).length = 1 := fun c => rfl
  generalize letC _ = oc
  refine ⟨_, rfl, _, rfl, _, rfl, _, rfl, W, rfl, big (by omega), (by simp), fun y1 hy1 => ?_⟩
  refine ⟨_, rfl, _, _, rfl, rfl, big (by rw [one]; omega), _, rfl, _, rfl, _, _, rfl, rfl, _, rfl, W, rfl, big (by omega), (by simp), fun y2 hy2 => ?_⟩
  refine ⟨_, _, rfl, rfl, big (by rw [lapp, one]; omega), _, rfl, _, rfl, _, _, rfl, rfl, big (by rw [one]; omega), _, rfl, _, rfl, big (by rw [lapp, one]; omega), (by simp), fun y3 hy3 => ?_⟩
  rw [lapp, one] at hy3
  refine ⟨(by show 3 ≤ sizeLine; decide), fun p6 hp6 => ?_⟩
  have s6 := same_new hp6 (.lst [V.str W, V.str (y1 ++ ⟨#[oc]⟩ ++ y2), V.str y3])
  have h6 : (upd H5 p6 (.lst [V.str W, V.str (y1 ++ ⟨#[oc]⟩ ++ y2), V.str y3])) p6 = some (.lst [V.str W, V.str (y1 ++ ⟨#[oc]⟩ ++ y2), V.str y3]) := upd_same
  generalize upd H5 p6 (.lst [V.str W, V.str (y1 ++ ⟨#[oc]⟩ ++ y2), V.str y3]) = H6 at s6 h6 ⊢
  have hl3 : ∀ z ∈ [W, y1 ++ ⟨#[oc]⟩ ++ y2, y3], z.length ≤ 100 := fun z hz => by
    simp only [List.mem_cons, List.not_mem_nil, or_false] at hz
    rcases hz with rfl | rfl | rfl
    · omega
    · rw [lapp, lapp, one]; omega
    · omega
  refine ⟨_, rfl, p6, rfl, ⟨_, SqL.of h6⟩, fun p7 hp7 => ?_⟩
  refine comp_prop 3 (fun _ v => ∃ y : Str, v = .str y ∧ y.length ≤ 101) hp7 (by decide) (fun k H7 hk s7 => ?_) fun vs H7 s7 hl hB h7 => ⟨⟨_, SqL.of (s7 _ _ h6), Nat.le_refl _⟩, ?_⟩
  · obtain ⟨z, hz, hzm⟩ : ∃ z : Str, [V.str W, V.str (y1 ++ ⟨#[oc]⟩ ++ y2), V.str y3][k]? = some (.str z) ∧ z ∈ [W, y1 ++ ⟨#[oc]⟩ ++ y2, y3] := by
      match k, hk with
      | 0, _ => exact ⟨_, rfl, by simp⟩
      | 1, _ => exact ⟨_, rfl, by simp⟩
      | 2, _ => exact ⟨_, rfl, by simp⟩
    refine ⟨⟨_, _, SqL.of (s7 _ _ h6), hz⟩, ?_⟩
    rintro x' H8 ⟨rfl, hy⟩ R hR
    have hx := hy _ (SqL.of (s7 _ _ h6))
    rw [hz] at hx
    cases hx
    exact ⟨_, rfl, z, rfl, hl3 z hzm, fun y H9 hy9 s9 => hR _ H9 s9 ⟨y, rfl, hy9⟩⟩
  · match vs, hl with
    | [v1, v2, v3], _ =>
      obtain ⟨q1, rfl, l1⟩ := hB 0 v1 rfl
      obtain ⟨q2, rfl, l2⟩ := hB 1 v2 rfl
      obtain ⟨q3, rfl, l3⟩ := hB 2 v3 rfl
      have s57 := s6.trans s7
      refine q p7 q1 q2 q3 H7 l1 l2 l3 h7 (((x1.trans x2).trans (s3.x.trans x4)).trans (x5.trans s57.x)) ?_
      rw [show i + 4 = i + 1 + 1 + 1 + 1 by omega]
      exact s57 _ _ h5
end K22
end
section
set_option maxHeartbeats 1000000
namespace K22
open PySem L2 L3 KM PyProof.Rows
seal L2.PE L2.PS L2.PSs L2.PT L2.PW L2.PA L2.PG L2.PGs L2.PI L2.PC L2.PO L2.PPs L2.PK L3.PIf
variable {P : Program} {w : World} {K : PySem.W.Frag} {mg : Str → Option Value} {base : Heap} {t : Adr}
def PlD (H : Hp) (c : Addr) : Prop := ∃ x y z : Str, x.length ≤ 101 ∧ y.length ≤ 101 ∧ z.length ≤ 101 ∧ H c = some (.lst [.str x, .str y, .str z])
structure Sg (K : PySem.W.Frag) (a p c : Addr) (ns : List Int) (H : Hp) (i : Int) : Prop where
  T : Tp K a p ns H i
  pl : PlD H c
theorem Sg.next {a p c : Addr} {ns : List Int} {H H' : Hp} {i j : Int} (g : Sg K a p c ns H i) (s : SameX p H H') (h : H' p = some (.lst [.int j])) (hj : 0 ≤ j) : Sg K a p c ns H' j := by
  refine ⟨g.T.next s h hj, ?_⟩
  obtain ⟨x, y, z, l1, l2, l3, hc⟩ := g.pl
  refine ⟨x, y, z, l1, l2, l3, s _ _ (fun e => ?_) hc⟩
  subst e
  rw [g.T.tape] at hc
  cases hc
theorem Sg.upd {a p c b : Addr} {ns : List Int} {H : Hp} {i : Int} {kvs : List (Key × V)} {o : HO} (g : Sg K a p c ns H i) (hb : H b = some (.dK kvs)) : Sg K a p c ns (L2.upd H b o) i := by
  refine ⟨g.T.upd hb, ?_⟩
  obtain ⟨x, y, z, l1, l2, l3, hc⟩ := g.pl
  refine ⟨x, y, z, l1, l2, l3, ?_⟩
  rw [upd_ne (fun e => by rw [e, hb] at hc; cases hc)]
  exact hc
theorem Sg.mono {a p c : Addr} {ns : List Int} {H H' : Hp} {i : Int} (g : Sg K a p c ns H i) (s : Same H H') : Sg K a p c ns H' i := g.next s.x (s _ _ g.T.tape) g.T.i0
theorem Sg.rep {a p c : Addr} {ns : List Int} {H H' : Hp} {i : Int} {d : D} {v : V} (g : Sg K a p c ns H i) (s : SameX p H H') (r : Rep H d v) : Rep H' d v := g.T.rep s r
def cst (n : Nat) : Int := 10 ^ (n + 1)
theorem cst_succ (n : Nat) : cst (n + 1) = 10 * cst n := by unfold cst; rw [Int.pow_succ]; omega
theorem cst_ge : ∀ n : Nat, 10 ≤ cst n
  | 0 => by decide
  | n + 1 => by have := cst_ge n; rw [cst_succ]; omega
def p5 (n : Nat) : Nat := 5 ^ n
theorem p5_succ (n : Nat) : p5 (n + 1) = 5 * p5 n := by unfold p5; rw [Nat.pow_succ]; omega
theorem p5_ge : ∀ n : Nat, 1 ≤ p5 n
  | 0 => by decide
  | n + 1 => by have := p5_ge n; rw [p5_succ]; omega
structure Ou (K : PySem.W.Frag) (a p c : Addr) (ns : List Int) (H : Hp) (i : Int) (k : Bool) (dp kn : Nat) (co : Int) (d : D) (v : V) (H' : Hp) (i' : Int) : Prop where
  r : Rep H' d v
  wf : wfG isStrD k d = true
  dp : depth d ≤ dp
  kn : knots d ≤ kn
  sx : SameX p H H'
  g : Sg K a p c ns H' i'
  lo : i ≤ i'
  hi : i' ≤ i + co
theorem Ou.weak {a p c : Addr} {ns : List Int} {H H' : Hp} {i i' : Int} {k : Bool} {dp kn dp' kn' : Nat} {co co' : Int} {d : D} {v : V} (o : Ou K a p c ns H i k dp kn co d v H' i') (h1 : dp ≤ dp') (h2 : kn ≤ kn') (h3 : co ≤ co') : Ou K a p c ns H i k dp' kn' co' d v H' i' :=
  ⟨o.r, o.wf, Nat.le_trans o.dp h1, Nat.le_trans o.kn h2, o.sx, o.g, o.lo, by have := o.hi; omega⟩
theorem Ou.after {a p c : Addr} {ns : List Int} {H H1 H' : Hp} {i j i' : Int} {k : Bool} {dp kn : Nat} {co co1 : Int} {d : D} {v : V} (o : Ou K a p c ns H1 j k dp kn co d v H' i') (s : SameX p H H1) (h1 : i ≤ j) (h2 : j ≤ i + co1) : Ou K a p c ns H i k dp kn (co1 + co) d v H' i' :=
  ⟨o.r, o.wf, o.dp, o.kn, s.trans o.sx, o.g, by have := o.lo; omega, by have := o.hi; omega⟩
theorem Ou.later {a p c : Addr} {ns : List Int} {H H' H2 : Hp} {i i' : Int} {k : Bool} {dp kn : Nat} {co : Int} {d : D} {v : V} (o : Ou K a p c ns H i k dp kn co d v H' i') (s : SameX p H' H2) : Rep H2 d v := o.g.rep s o.r
theorem made {a p c q : Addr} {ns : List Int} {H H2 : Hp} {i i2 : Int} {k : Bool} {dp kn : Nat} {co : Int} {ds : List D} {vs : List V} (s : SameX p H H2) (g : Sg K a p c ns H2 i2) (hq : H2 q = none) (r : Reps H2 ds vs) (wf : wfG isStrD k (.tup ds) = true) (h1 : depth (.tup ds) ≤ dp) (h2 : knots (.tup ds) ≤ kn) (lo : i ≤ i2) (hi : i2 ≤ i + co) :
    Ou K a p c ns H i k dp kn co (.tup ds) (.ref q) (upd H2 q (.tup vs)) i2 :=
  ⟨rep_new hq r, wf, h1, h2, s.trans (same_new hq _).x, g.mono (same_new hq _), lo, hi⟩
def spGen (K : PySem.W.Frag) (k : Bool) (n : Nat) : Sp := fun vs H Q _ => ∃ (a p c : Addr) (ns : List Int) (i deep near : Int), vs = [.ref a, .ref p, .int deep, .int near, .ref c] ∧ Sg K a p c ns H i ∧ i + cst n < 2 ^ 58 ∧ -1 ≤ deep ∧ deep + 1 < n ∧ n ≤ 10 ∧ 0 ≤ near ∧ near + n ≤ 99 ∧
  ∀ (d : D) (v : V) (H' : Hp) (i' : Int), Ou K a p c ns H i k (2 * n + 2) (3 * p5 n) (cst n) d v H' i' → Q v H'
def spHel (K : PySem.W.Frag) (n dp kn : Nat) (co : Int) : Sp := fun vs H Q _ => ∃ (a p c : Addr) (ns : List Int) (i deep near : Int), vs = [.ref a, .ref p, .int deep, .int near, .ref c] ∧ Sg K a p c ns H i ∧ i + 4 * cst n < 2 ^ 58 ∧ 1 ≤ deep ∧ deep < n ∧ n ≤ 9 ∧ 0 ≤ near ∧ near + n + 1 ≤ 99 ∧
  ∀ (d : D) (v : V) (H' : Hp) (i' : Int), Ou K a p c ns H i false dp kn co d v H' i' → Q v H'
def spLeaf (K : PySem.W.Frag) : Sp := fun vs H Q _ => ∃ (a p c : Addr) (ns : List Int) (i near : Int), vs = [.ref a, .ref p, .int near, .ref c] ∧ Sg K a p c ns H i ∧ i < 2 ^ 59 ∧ 0 ≤ near ∧ near ≤ 99 ∧
  ∀ (d : D) (v : V) (H' : Hp) (i' : Int), Ou K a p c ns H i false 2 2 2 d v H' i' → Q v H'
theorem sc_law_leaf : FnScope ["_law_script", "_law_tape", "_law_near", "_law_pool_here", "_law_way"] ["_law_script", "_law_tape", "_law_near", "_law_pool_here"] (defScope s_law_leaf) := ⟨rfl, rfl, rfl, by decide +kernel, rfl, by decide +kernel, by decide +kernel⟩
theorem c_law_leaf (D : Df K mg "_law_leaf" s_law_leaf ["_law_script", "_law_tape", "_law_near", "_law_pool_here"]) (M : Mg mg t) (F_law_draw : Cal P w K mg CX0 "_law_draw" (1) ["_law_script", "_law_tape", "_law_many"] (spDraw K)) : Cal P w K mg CX0 "_law_leaf" (131) ["_law_script", "_law_tape", "_law_near", "_law_pool_here"] (spLeaf K) := by
  refine D.ok sc_law_leaf (fun vs H Q E h => ?_) (fun base f cdv A outer s H vs Q E hr h => ?_)
  · obtain ⟨a, p, c, ns, i, near, rfl, _⟩ := h
    rfl
  obtain ⟨a, p, c, ns, i, near, rfl, g, hi, n0, n1, q⟩ := h
  have hh := hr.hd (by decide)
  have i0 := g.T.i0
  refine ⟨_, (pss_cons (ps_set (i := 4) sc_law_leaf.nd rfl (by first | exact Or.inl rfl | exact Or.inr rfl) (pe_fn F_law_draw (hr.mono (by omega)) rfl pass0 (pa_cons (pv 0) (pa_cons (pv 1) (pa_cons pe_int pa_nil)))))
      (pss_cons (ps_if (pt_cmpR op_eq (pv 4) pe_int (nomark _)) (pss_one (ps_ret (pe_tup (pa_cons pe_str pa_nil)))) pss_nil)
      (pss_cons (ps_if (pt_cmpR op_eq (pv 4) pe_int (nomark _)) (pss_one (ps_ret (pe_tup (pa_cons pe_str (pa_cons (pe_ix ix_list (pv 3) (pe_fn F_law_draw (hr.mono (by omega)) rfl pass0 (pa_cons (pv 0) (pa_cons (pv 1) (pa_cons pe_int pa_nil)))) (fun _ _ => rfl)) pa_nil))))) pss_nil)
      (pss_cons (ps_if (pt_cmpR op_eq (pv 2) pe_int (nomark _)) (pss_one (ps_ret (pe_tup (pa_cons pe_str (pa_cons (pe_tup (pa_cons pe_str pa_nil)) pa_nil))))) pss_nil)
      (pss_cons (ps_if (pt_cmpR op_eq (pv 4) pe_int (nomark _)) (pss_one (ps_ret (pe_tup (pa_cons pe_str (pa_cons (pe_fn F_law_draw (hr.mono (by omega)) rfl pass0 (pa_cons (pv 0) (pa_cons (pv 1) (pa_cons (pv 2) pa_nil)))) pa_nil))))) pss_nil)
      (pss_one (ps_ret (pe_tup (pa_cons pe_str (pa_cons (pe_fn F_law_draw (hr.mono (by omega)) rfl pass0 (pa_cons (pv 0) (pa_cons (pv 1) (pa_cons (pe_callB (call_min2 hh) rfl M.n_min bt_min (pa_cons (pv 2) (pa_cons pe_int pa_nil))) pa_nil)))) pa_nil)))))))))), ?_⟩
  try dsimp only [cxK, cxK2]
  refine let6 ?_
  intro _ _ _ _ _ _
  refine ⟨_, rfl, _, rfl, a, p, ns, i, 6, rfl, g.T, (by omega), (by decide), fun way H1 w0 w1 x1 h1 => ?_⟩
  have g1 := g.next x1 h1 (by omega)
  have zero : ∀ {q : Addr}, H1 q = none → Ou K a p c ns H i false 2 2 2 (.tup [.str "zero"]) (.ref q) (upd H1 q (.tup [V.str "zero"])) (i + 1) := fun hq => made x1 g1 hq (rs rw_ r0) wf_zero (by simp [depth, depthL]) (by simp [knots, knotsL]) (by omega) (by omega)
  refine ⟨_, rfl, rfl, _, rfl, ite2 (fun _ => ⟨(by show 1 ≤ sizeLine; decide), fun q1 hq1 => q _ _ _ _ (zero hq1)⟩) (fun _ => ?_)⟩
  refine ⟨_, rfl, rfl, _, rfl, ite2 (fun _ => ?_) (fun _ => ?_)⟩
  · obtain ⟨x, y, z, l1, l2, l3, hc⟩ := g1.pl
    refine ⟨_, rfl, _, rfl, _, rfl, a, p, ns, i + 1, 3, rfl, g1.T, (by omega), (by decide), fun at_ H2 a0 a1 x2 h2 => ?_⟩
    have g2 := g1.next x2 h2 (by omega)
    have hc2 : H2 c = some (.lst [.str x, .str y, .str z]) := x2 _ _ (fun e => by subst e; rw [g1.T.tape] at hc; cases hc) hc
    obtain ⟨o, ho, hol⟩ : ∃ o : Str, atI [V.str x, .str y, .str z] at_ = some (.str o) ∧ o.length ≤ 101 := by
      have : at_ = 0 ∨ at_ = 1 ∨ at_ = 2 := by omega
      rcases this with rfl | rfl | rfl
      · exact ⟨x, rfl, l1⟩
      · exact ⟨y, rfl, l2⟩
      · exact ⟨z, rfl, l3⟩
    refine ⟨c, _, _, _, rfl, rfl, SqL.of hc2, ho, (by show 2 ≤ sizeLine; decide), fun q1 hq1 => q _ _ _ _ (made (x1.trans x2) g2 hq1 (rs rw_ (rs (rw_ (by omega)) r0)) (wf_name rfl) (by simp [depth, depthL]) (by simp [knots, knotsL]) (by omega) (by omega))⟩
  refine ⟨_, rfl, rfl, _, rfl, ite2 (fun _ => ?_) (fun cn => ?_)⟩
  · refine ⟨(by show 1 ≤ sizeLine; decide), fun q1 hq1 => ⟨(by show 2 ≤ sizeLine; decide), fun q2 hq2 => ?_⟩⟩
    have s1 := same_new hq1 (.tup [V.str "zero"])
    exact q _ _ _ _ (made (x1.trans s1.x) (g1.mono s1) hq2 (rs rw_ (rs (rep_new hq1 (rs rw_ r0)) r0)) (wf_next wf_zero) (by simp [depth, depthL]) (by simp [knots, knotsL]) (by omega) (by omega))
  have hn : 0 < near := by
    have : near ≠ 0 := fun z => cn (by rw [z]; exact decide_eq_true rfl)
    omega
  have var : ∀ {z : Int} {H2 : Hp} {q : Addr}, 0 ≤ z → z < near → SameX p H1 H2 → H2 p = some (.lst [.int (i + 1 + 1)]) → H2 q = none → Ou K a p c ns H i false 2 2 2 (.tup [.str "var", .int z]) (.ref q) (upd H2 q (.tup [V.str "var", .int z])) (i + 1 + 1) := fun z0 z1 x2 h2 hq =>
    made (x1.trans x2) (g1.next x2 h2 (by omega)) hq (rs rw_ (rs ri r0)) (wf_var z0 (by omega)) (by simp [depth, depthL]) (by simp [knots, knotsL]) (by omega) (by omega)
  refine ⟨_, rfl, rfl, _, rfl, ite2 (fun _ => ?_) (fun _ => ?_)⟩
  · refine ⟨_, rfl, _, rfl, _, rfl, a, p, ns, i + 1, near, rfl, g1.T, (by omega), hn, fun z H2 z0 z1 x2 h2 => ⟨(by show 2 ≤ sizeLine; decide), fun q1 hq1 => q _ _ _ _ (var z0 z1 x2 h2 hq1)⟩⟩
  · refine ⟨_, rfl, _, rfl, _, rfl, near, 3, rfl, a, p, ns, i + 1, _, rfl, g1.T, (by omega), (by split <;> omega), fun z H2 z0 z1 x2 h2 => ⟨(by show 2 ≤ sizeLine; decide), fun q1 hq1 => q _ _ _ _ (var z0 ?_ x2 h2 hq1)⟩⟩
    split at z1 <;> omega
end K22
end
section
set_option maxHeartbeats 2000000
namespace K22
open PySem L2 L3 KM PyProof.Rows
seal L2.PE L2.PS L2.PSs L2.PT L2.PW L2.PA L2.PG L2.PGs L2.PI L2.PC L2.PO L2.PPs L2.PK L3.PIf
variable {P : Program} {w : World} {K : PySem.W.Frag} {mg : Str → Option Value} {base : Heap} {t : Adr}
theorem wf_none {nm : D → Bool} : wfG nm true (.tup [.str "none"]) = true := by
  refine wfG_mk (w := "none") (s := "") (by decide +kernel) (by decide +kernel) ?_
  rw [show (Str.ofString "").cps.toList = [] by decide +kernel]
  simp [wfL]
theorem wf_like {nm : D → Bool} {d0 d1 : D} (h0 : wfG nm true d0 = true) (h1 : wfG nm false d1 = true) : wfG nm false (.tup [.str "like", d0, d1]) = true := by
  refine wfG_mk (w := "like") (s := "kt") (by decide +kernel) (by decide +kernel) ?_
  rw [show (Str.ofString "kt").cps.toList = [107, 116] by decide +kernel, wfL_cons, wfL_cons]
  simp [dueB, wfL, h0, h1]
theorem wf_pair {nm : D → Bool} {d0 d1 d2 : D} (h0 : wfG nm true d0 = true) (h1 : wfG nm false d1 = true) (h2 : wfG nm false d2 = true) : wfG nm false (.tup [.str "pair", d0, d1, d2]) = true := by
  refine wfG_mk (w := "pair") (s := "ktt") (by decide +kernel) (by decide +kernel) ?_
  rw [show (Str.ofString "ktt").cps.toList = [107, 116, 116] by decide +kernel, wfL_cons, wfL_cons, wfL_cons]
  simp [dueB, wfL, h0, h1, h2]
theorem wf_second {nm : D → Bool} {d0 : D} (h0 : wfG nm false d0 = true) : wfG nm false (.tup [.str "second", d0]) = true := by
  refine wfG_mk (w := "second") (s := "t") (by decide +kernel) (by decide +kernel) ?_
  rw [show (Str.ofString "t").cps.toList = [116] by decide +kernel, wfL_cons]
  simp [dueB, wfL, h0]
theorem sc_law_kind : FnScope ["_law_script", "_law_tape", "_law_deep", "_law_near", "_law_pool_here", "_law_way", "_law_first", "_law_kind_here"] ["_law_script", "_law_tape", "_law_deep", "_law_near", "_law_pool_here"] (defScope s_law_kind) := ⟨rfl, rfl, rfl, by decide +kernel, rfl, by decide +kernel, by decide +kernel⟩
theorem st_law_kind {n : Nat} (D : Df K mg "_law_kind" s_law_kind ["_law_script", "_law_tape", "_law_deep", "_law_near", "_law_pool_here"]) (M : Mg mg t) (F_law_draw : Cal P w K mg CX0 "_law_draw" (1) ["_law_script", "_law_tape", "_law_many"] (spDraw K)) (F_law_kind : Cal P w K mg CX0 "_law_kind" (3 * n + 132) ["_law_script", "_law_tape", "_law_deep", "_law_near", "_law_pool_here"] (spGen K true n)) (F_law_term : Cal P w K mg CX0 "_law_term" (3 * n + 132) ["_law_script", "_law_tape", "_law_deep", "_law_near", "_law_pool_here"] (spGen K false n)) : Cal P w K mg CX0 "_law_kind" (3 * n + 135) ["_law_script", "_law_tape", "_law_deep", "_law_near", "_law_pool_here"] (spGen K true (n + 1)) := by
  refine D.ok sc_law_kind (fun vs H Q E h => ?_) (fun base f cdv A outer s H vs Q E hr h => ?_)
  · obtain ⟨a, p, c, ns, i, deep, near, rfl, _⟩ := h
    rfl
  obtain ⟨a, p, c, ns, i, deep, near, rfl, g, hi, d0, d1, hn, n0, n1, q⟩ := h
  have i0 := g.T.i0
  have e := cst_succ n
  have c10 := cst_ge n
  have e5 := p5_succ n
  have p1 := p5_ge n
  rw [e] at hi q
  rw [e5] at q
  refine ⟨_, (pss_cons (ps_set (i := 5) sc_law_kind.nd rfl (by first | exact Or.inl rfl | exact Or.inr rfl) (pe_fn F_law_draw (hr.mono (by omega)) rfl pass0 (pa_cons (pv 0) (pa_cons (pv 1) (pa_cons pe_int pa_nil)))))
      (pss_cons (ps_if (L2.PW.pt (pw_or (pt_cmpR op_lt (pv 2) pe_int (nomark _)) (pw_or1 (pt_cmpR op_lt (pv 5) pe_int (nomark _))))) (pss_one (ps_ret (pe_ix ix_list (pe_lst (pa_cons (pe_tup (pa_cons pe_str pa_nil)) (pa_cons (pe_tup (pa_cons pe_str pa_nil)) (pa_cons (pe_tup (pa_cons pe_str pa_nil)) pa_nil)))) (pe_op op_mod (pv 5) pe_int) (fun _ _ => rfl)))) pss_nil)
      (pss_cons (ps_if (pt_cmpR op_lt (pv 5) pe_int (nomark _)) (pss_cons (ps_set (i := 6) sc_law_kind.nd rfl (by first | exact Or.inl rfl | exact Or.inr rfl) (pe_fn F_law_kind (hr.mono (by omega)) rfl pass0 (pa_cons (pv 0) (pa_cons (pv 1) (pa_cons (pe_op op_sub (pv 2) pe_int) (pa_cons (pv 3) (pa_cons (pv 4) pa_nil)))))))
      (pss_one (ps_ret (pe_tup (pa_cons (pe_ix ix_list (pe_lst (pa_cons pe_str (pa_cons pe_str pa_nil))) (pe_op op_sub (pv 5) pe_int) (fun _ _ => rfl)) (pa_cons (pv 6) (pa_cons (pe_fn F_law_kind (hr.mono (by omega)) rfl pass0 (pa_cons (pv 0) (pa_cons (pv 1) (pa_cons (pe_op op_sub (pv 2) pe_int) (pa_cons (pe_op op_add (pv 3) pe_int) (pa_cons (pv 4) pa_nil)))))) pa_nil))))))) pss_nil)
      (pss_cons (ps_set (i := 6) sc_law_kind.nd rfl (by first | exact Or.inl rfl | exact Or.inr rfl) (pe_fn F_law_term (hr.mono (by omega)) rfl pass0 (pa_cons (pv 0) (pa_cons (pv 1) (pa_cons (pe_op op_sub (pv 2) pe_int) (pa_cons (pv 3) (pa_cons (pv 4) pa_nil)))))))
      (pss_cons (ps_set (i := 7) sc_law_kind.nd rfl (by first | exact Or.inl rfl | exact Or.inr rfl) (pe_fn F_law_kind (hr.mono (by omega)) rfl pass0 (pa_cons (pv 0) (pa_cons (pv 1) (pa_cons (pe_op op_sub (pv 2) pe_int) (pa_cons (pv 3) (pa_cons (pv 4) pa_nil)))))))
      (pss_one (ps_ret (pe_tup (pa_cons pe_str (pa_cons (pv 7) (pa_cons (pv 6) (pa_cons (pe_fn F_law_term (hr.mono (by omega)) rfl pass0 (pa_cons (pv 0) (pa_cons (pv 1) (pa_cons (pe_op op_sub (pv 2) pe_int) (pa_cons (pv 3) (pa_cons (pv 4) pa_nil)))))) pa_nil)))))))))))), ?_⟩
  try dsimp only [cxK, cxK2]
  refine let6 ?_
  intro _ _ _ _ _ _
  refine ⟨_, rfl, _, rfl, a, p, ns, i, 7, rfl, g.T, (by omega), (by decide), fun way H1 w0 w1 x1 h1 => ?_⟩
  have g1 := g.next x1 h1 (by omega)
  have leafs : ∀ H2 : Hp, SameX p H H2 → Sg K a p c ns H2 (i + 1) → ∀ (x : Str) (r : Addr), (x = "nat" ∨ x = "none") → Rep H2 (.tup [.str x]) (.ref r) → Q (.ref r) H2 := fun H2 sx g2 x r hx hr2 => by
    refine q (.tup [.str x]) _ H2 (i + 1) ⟨hr2, ?_, by simp only [depth, depthL]; omega, by simp only [knots, knotsL]; omega, sx, g2, by omega, by omega⟩
    rcases hx with rfl | rfl
    · exact wf_nat
    · exact wf_none
  refine ⟨_, rfl, _, _, rfl, rfl, _, rfl, ?_⟩
  have some3 : ∀ (R : VK), (∀ (H2 : Hp) (x : Str) (r : Addr), SameX p H H2 → Sg K a p c ns H2 (i + 1) → (x = "nat" ∨ x = "none") → Rep H2 (.tup [.str x]) (.ref r) → R (.ref r) H2) → ∀ (q1 q2 q3 q4 : Addr), H1 q1 = none → (upd H1 q1 (.tup [V.str "nat"])) q2 = none → (upd (upd H1 q1 (.tup [V.str "nat"])) q2 (.tup [V.str "nat"])) q3 = none → (upd (upd (upd H1 q1 (.tup [V.str "nat"])) q2 (.tup [V.str "nat"])) q3 (.tup [V.str "none"])) q4 = none →
      ∃ v, atI [V.ref q1, .ref q2, .ref q3] (way % 3) = some v ∧ (upd (upd (upd (upd H1 q1 (.tup [V.str "nat"])) q2 (.tup [V.str "nat"])) q3 (.tup [V.str "none"])) q4 (.lst [V.ref q1, .ref q2, .ref q3])) q4 = some (.lst [V.ref q1, .ref q2, .ref q3]) ∧ R v (upd (upd (upd (upd H1 q1 (.tup [V.str "nat"])) q2 (.tup [V.str "nat"])) q3 (.tup [V.str "none"])) q4 (.lst [V.ref q1, .ref q2, .ref q3])) := fun R hR q1 q2 q3 q4 e1 e2 e3 e4 => by
    have t1 := same_new e1 (.tup [V.str "nat"])
    have t2 := same_new e2 (.tup [V.str "nat"])
    have t3 := same_new e3 (.tup [V.str "none"])
    have t4 := same_new e4 (.lst [V.ref q1, .ref q2, .ref q3])
    have ra := (rep_new e1 (rs (rw_ (x := "nat")) r0)).mono (t2.trans (t3.trans t4))
    have rb := (rep_new e2 (rs (rw_ (x := "nat")) r0)).mono (t3.trans t4)
    have rc := (rep_new e3 (rs (rw_ (x := "none")) r0)).mono t4
    have tt := t1.trans (t2.trans (t3.trans t4))
    have h : way % 3 = 0 ∨ way % 3 = 1 ∨ way % 3 = 2 := by omega
    rcases h with h | h | h
    · exact ⟨_, by rw [h]; rfl, upd_same, hR _ "nat" q1 (x1.trans tt.x) (g1.mono tt) (.inl rfl) ra⟩
    · exact ⟨_, by rw [h]; rfl, upd_same, hR _ "nat" q2 (x1.trans tt.x) (g1.mono tt) (.inl rfl) rb⟩
    · exact ⟨_, by rw [h]; rfl, upd_same, hR _ "none" q3 (x1.trans tt.x) (g1.mono tt) (.inr rfl) rc⟩
  have one : 1 ≤ sizeLine := by decide
  refine ite2 (fun cd => ?_) (fun cd => ?_)
  · refine iteT ⟨one, fun q1 e1 => ⟨one, fun q2 e2 => ⟨one, fun q3 e3 => ⟨(by show 3 ≤ sizeLine; decide), fun q4 e4 => ?_⟩⟩⟩⟩
    obtain ⟨v, hv, h4, hq⟩ := some3 Q (fun H2 x r sx g2 hx hr2 => leafs H2 sx g2 x r hx hr2) q1 q2 q3 q4 e1 e2 e3 e4
    exact ⟨_, rfl, _, _, rfl, rfl, (by show (0 : Int) < 3; decide), q4, _, _, v, rfl, rfl, SqL.of h4, hv, hq⟩
  refine ⟨_, rfl, _, _, rfl, rfl, _, rfl, ?_⟩
  refine ite2 (fun cw => ?_) (fun cw => ?_)
  · refine ⟨one, fun q1 e1 => ⟨one, fun q2 e2 => ⟨one, fun q3 e3 => ⟨(by show 3 ≤ sizeLine; decide), fun q4 e4 => ?_⟩⟩⟩⟩
    obtain ⟨v, hv, h4, hq⟩ := some3 Q (fun H2 x r sx g2 hx hr2 => leafs H2 sx g2 x r hx hr2) q1 q2 q3 q4 e1 e2 e3 e4
    exact ⟨_, rfl, _, _, rfl, rfl, (by show (0 : Int) < 3; decide), q4, _, _, v, rfl, rfl, SqL.of h4, hv, hq⟩
  have cd : ¬ deep < 1 := of_decide_eq_false (Bool.eq_false_iff.mpr cd)
  have cw : ¬ way < 3 := of_decide_eq_false (Bool.eq_false_iff.mpr cw)
  refine ⟨_, rfl, _, _, rfl, rfl, _, rfl, ?_⟩
  refine ite2 (fun cw2 => ?_) (fun cw2 => ?_)
  · have cw2 : way < 5 := of_decide_eq_true cw2
    refine ⟨_, rfl, _, rfl, _, rfl, _, _, rfl, rfl, _, rfl, _, rfl, a, p, c, ns, i + 1, deep - 1, near, rfl, g1, (by omega), (by omega), (by omega), (by omega), n0, (by omega), fun dA vA H2 i2 oA => ?_⟩
    refine ⟨(by show 2 ≤ sizeLine; decide), fun q1 e1 => ?_⟩
    have t1 := same_new e1 (.lst [V.str "all", .str "some"])
    obtain ⟨y, hy, hyy⟩ : ∃ y : Str, atI [V.str "all", .str "some"] (way - 3) = some (.str y) ∧ (y = "all" ∨ y = "some") := by
      have : way = 3 ∨ way = 4 := by omega
      rcases this with rfl | rfl
      · exact ⟨_, rfl, .inl rfl⟩
      · exact ⟨_, rfl, .inr rfl⟩
    have hA := oA.hi
    have lA := oA.lo
    refine ⟨_, rfl, _, _, rfl, rfl, q1, _, _, _, rfl, rfl, SqL.of upd_same, hy, _, rfl, ?_⟩
    refine ⟨_, rfl, _, rfl, _, rfl, _, _, rfl, rfl, _, rfl, _, _, rfl, rfl, _, rfl, a, p, c, ns, i2, deep - 1, near + 1, rfl, oA.g.mono t1, (by omega), (by omega), (by omega), (by omega), (by omega), (by omega), fun dB vB H3 i3 oB => ⟨(by show 3 ≤ sizeLine; decide), fun q2 e2 => ?_⟩⟩
    have hB := oB.hi
    have lB := oB.lo
    have sAB := t1.x.trans oB.sx
    have a1 := oA.dp
    have a2 := oB.dp
    have a3 := oA.kn
    have a4 := oB.kn
    have hw : wfG isStrD true (.tup [.str y, dA, dB]) = true := by
      rcases hyy with rfl | rfl
      · exact wf_all oA.wf oB.wf
      · exact wf_some oA.wf oB.wf
    have hyl : y.length ≤ 1000 := by rcases hyy with rfl | rfl <;> decide
    exact q _ _ _ _ (made ((x1.trans oA.sx).trans sAB) oB.g e2 (rs (rw_ hyl) (rs (oA.later sAB) (rs oB.r r0))) hw (by apply KM.d0; with_reducible repeat' first | apply KM.q0i | apply KM.q0s | apply KM.q0 | apply KM.q4 | apply KM.q3 | apply KM.q2 | apply KM.q1 | omega) (by simp only [knots, knotsL]; omega) (by omega) (by omega))
  · refine ⟨_, rfl, _, rfl, _, rfl, _, _, rfl, rfl, _, rfl, _, rfl, a, p, c, ns, i + 1, deep - 1, near, rfl, g1, (by omega), (by omega), (by omega), (by omega), n0, (by omega), fun dA vA H2 i2 oA => ?_⟩
    have hA := oA.hi
    have lA := oA.lo
    refine ⟨_, rfl, _, rfl, _, rfl, _, _, rfl, rfl, _, rfl, _, rfl, a, p, c, ns, i2, deep - 2, near, rfl, oA.g, (by omega), (by omega), (by omega), (by omega), n0, (by omega), fun dB vB H3 i3 oB => ?_⟩
    have hB := oB.hi
    have lB := oB.lo
    refine ⟨_, rfl, _, rfl, _, rfl, _, rfl, _, rfl, _, _, rfl, rfl, _, rfl, _, rfl, a, p, c, ns, i3, deep - 1, near, rfl, oB.g, (by omega), (by omega), (by omega), (by omega), n0, (by omega), fun dC vC H4 i4 oC => ⟨(by show 4 ≤ sizeLine; decide), fun q2 e2 => ?_⟩⟩
    have hC := oC.hi
    have lC := oC.lo
    have a1 := oA.dp
    have a2 := oB.dp
    have a3 := oA.kn
    have a4 := oB.kn
    have a5 := oC.dp
    have a6 := oC.kn
    exact q _ _ _ _ (made ((x1.trans oA.sx).trans (oB.sx.trans oC.sx)) oC.g e2 (rs rw_ (rs (oB.later oC.sx) (rs (oA.later (oB.sx.trans oC.sx)) (rs oC.r r0)))) (wf_same oB.wf oA.wf oC.wf) (by apply KM.d0; with_reducible repeat' first | apply KM.q0i | apply KM.q0s | apply KM.q0 | apply KM.q4 | apply KM.q3 | apply KM.q2 | apply KM.q1 | omega) (by simp only [knots, knotsL]; omega) (by omega) (by omega))
end K22
end
section
set_option maxHeartbeats 2000000
namespace K22
open PySem L2 L3 KM PyProof.Rows
seal L2.PE L2.PS L2.PSs L2.PT L2.PW L2.PA L2.PG L2.PGs L2.PI L2.PC L2.PO L2.PPs L2.PK L3.PIf
variable {P : Program} {w : World} {K : PySem.W.Frag} {mg : Str → Option Value} {base : Heap} {t : Adr}
theorem sc_law_fun : FnScope ["_law_script", "_law_tape", "_law_deep", "_law_near", "_law_pool_here", "_law_kind_here"] ["_law_script", "_law_tape", "_law_deep", "_law_near", "_law_pool_here"] (defScope s_law_fun) := ⟨rfl, rfl, rfl, by decide +kernel, rfl, by decide +kernel, by decide +kernel⟩
theorem c_law_fun {n : Nat} (D : Df K mg "_law_fun" s_law_fun ["_law_script", "_law_tape", "_law_deep", "_law_near", "_law_pool_here"]) (M : Mg mg t) (F_law_kind : Cal P w K mg CX0 "_law_kind" (3 * n + 132) ["_law_script", "_law_tape", "_law_deep", "_law_near", "_law_pool_here"] (spGen K true n)) (F_law_term : Cal P w K mg CX0 "_law_term" (3 * n + 132) ["_law_script", "_law_tape", "_law_deep", "_law_near", "_law_pool_here"] (spGen K false n)) : Cal P w K mg CX0 "_law_fun" (3 * n + 133) ["_law_script", "_law_tape", "_law_deep", "_law_near", "_law_pool_here"] (spHel K n (2 * n + 3) (1 + 6 * p5 n) (2 * cst n)) := by
  refine D.ok sc_law_fun (fun vs H Q E h => ?_) (fun base f cdv A outer s H vs Q E hr h => ?_)
  · obtain ⟨a, p, c, ns, i, deep, near, rfl, _⟩ := h
    rfl
  obtain ⟨a, p, c, ns, i, deep, near, rfl, g, hi, d0, d1, hn, n0, n1, q⟩ := h
  have i0 := g.T.i0
  have c10 := cst_ge n
  have p1 := p5_ge n
  refine ⟨_, (pss_cons (ps_set (i := 5) sc_law_fun.nd rfl (by first | exact Or.inl rfl | exact Or.inr rfl) (pe_fn F_law_kind (hr.mono (by omega)) rfl pass0 (pa_cons (pv 0) (pa_cons (pv 1) (pa_cons (pe_op op_sub (pv 2) pe_int) (pa_cons (pv 3) (pa_cons (pv 4) pa_nil)))))))
      (pss_one (ps_ret (pe_tup (pa_cons pe_str (pa_cons (pv 5) (pa_cons (pe_fn F_law_term (hr.mono (by omega)) rfl pass0 (pa_cons (pv 0) (pa_cons (pv 1) (pa_cons (pe_op op_sub (pv 2) pe_int) (pa_cons (pe_op op_add (pv 3) pe_int) (pa_cons (pv 4) pa_nil)))))) pa_nil))))))), ?_⟩
  try dsimp only [cxK, cxK2]
  refine let2 ?_
  intro _ _
  refine ⟨_, rfl, _, rfl, _, rfl, _, _, rfl, rfl, _, rfl, _, rfl, a, p, c, ns, i, deep - 2, near, rfl, g, (by omega), (by omega), (by omega), (by omega), (by omega), (by omega), fun dA vA H1 i1 oA => ?_⟩
  have hA := oA.hi
  have lA := oA.lo
  have dpA := oA.dp
  have knA := oA.kn
  refine ⟨_, rfl, _, rfl, _, rfl, _, rfl, _, _, rfl, rfl, _, rfl, _, _, rfl, rfl, _, rfl, a, p, c, ns, i1, deep - 1, near + 1, rfl, oA.g, (by omega), (by omega), (by omega), (by omega), (by omega), (by omega), fun dB vB H2 i2 oB => ?_⟩
  have hB := oB.hi
  have lB := oB.lo
  have dpB := oB.dp
  have knB := oB.kn
  refine ⟨(by show 3 ≤ sizeLine; decide), fun q1 e1 => ?_⟩
  exact q _ _ _ _ (made (oA.sx.trans oB.sx) oB.g e1 (rs rw_ (rs (oA.later oB.sx) (rs oB.r r0))) (wf_fun oA.wf oB.wf) (by apply KM.d0; with_reducible repeat' first | apply KM.q0i | apply KM.q0s | apply KM.q0 | apply KM.q4 | apply KM.q3 | apply KM.q2 | apply KM.q1 | omega) (by simp only [knots, knotsL]; omega) (by omega) (by omega))
theorem sc_law_pair : FnScope ["_law_script", "_law_tape", "_law_deep", "_law_near", "_law_pool_here", "_law_kind_here", "_law_first"] ["_law_script", "_law_tape", "_law_deep", "_law_near", "_law_pool_here"] (defScope s_law_pair) := ⟨rfl, rfl, rfl, by decide +kernel, rfl, by decide +kernel, by decide +kernel⟩
theorem c_law_pair {n : Nat} (D : Df K mg "_law_pair" s_law_pair ["_law_script", "_law_tape", "_law_deep", "_law_near", "_law_pool_here"]) (M : Mg mg t) (F_law_kind : Cal P w K mg CX0 "_law_kind" (3 * n + 132) ["_law_script", "_law_tape", "_law_deep", "_law_near", "_law_pool_here"] (spGen K true n)) (F_law_term : Cal P w K mg CX0 "_law_term" (3 * n + 132) ["_law_script", "_law_tape", "_law_deep", "_law_near", "_law_pool_here"] (spGen K false n)) : Cal P w K mg CX0 "_law_pair" (3 * n + 133) ["_law_script", "_law_tape", "_law_deep", "_law_near", "_law_pool_here"] (spHel K n (2 * n + 3) (1 + 9 * p5 n) (3 * cst n)) := by
  refine D.ok sc_law_pair (fun vs H Q E h => ?_) (fun base f cdv A outer s H vs Q E hr h => ?_)
  · obtain ⟨a, p, c, ns, i, deep, near, rfl, _⟩ := h
    rfl
  obtain ⟨a, p, c, ns, i, deep, near, rfl, g, hi, d0, d1, hn, n0, n1, q⟩ := h
  have i0 := g.T.i0
  have c10 := cst_ge n
  have p1 := p5_ge n
  refine ⟨_, (pss_cons (ps_set (i := 5) sc_law_pair.nd rfl (by first | exact Or.inl rfl | exact Or.inr rfl) (pe_fn F_law_kind (hr.mono (by omega)) rfl pass0 (pa_cons (pv 0) (pa_cons (pv 1) (pa_cons (pe_op op_sub (pv 2) pe_int) (pa_cons (pv 3) (pa_cons (pv 4) pa_nil)))))))
      (pss_cons (ps_set (i := 6) sc_law_pair.nd rfl (by first | exact Or.inl rfl | exact Or.inr rfl) (pe_fn F_law_term (hr.mono (by omega)) rfl pass0 (pa_cons (pv 0) (pa_cons (pv 1) (pa_cons (pe_op op_sub (pv 2) pe_int) (pa_cons (pv 3) (pa_cons (pv 4) pa_nil)))))))
      (pss_one (ps_ret (pe_tup (pa_cons pe_str (pa_cons (pv 5) (pa_cons (pv 6) (pa_cons (pe_fn F_law_term (hr.mono (by omega)) rfl pass0 (pa_cons (pv 0) (pa_cons (pv 1) (pa_cons (pe_op op_sub (pv 2) pe_int) (pa_cons (pv 3) (pa_cons (pv 4) pa_nil)))))) pa_nil))))))))), ?_⟩
  try dsimp only [cxK, cxK2]
  refine let3 ?_
  intro _ _ _
  refine ⟨_, rfl, _, rfl, _, rfl, _, _, rfl, rfl, _, rfl, _, rfl, a, p, c, ns, i, deep - 2, near, rfl, g, (by omega), (by omega), (by omega), (by omega), (by omega), (by omega), fun dA vA H1 i1 oA => ?_⟩
  have hA := oA.hi
  have lA := oA.lo
  have dpA := oA.dp
  have knA := oA.kn
  refine ⟨_, rfl, _, rfl, _, rfl, _, _, rfl, rfl, _, rfl, _, rfl, a, p, c, ns, i1, deep - 1, near, rfl, oA.g, (by omega), (by omega), (by omega), (by omega), (by omega), (by omega), fun dB vB H2 i2 oB => ?_⟩
  have hB := oB.hi
  have lB := oB.lo
  have dpB := oB.dp
  have knB := oB.kn
  refine ⟨_, rfl, _, rfl, _, rfl, _, rfl, _, rfl, _, _, rfl, rfl, _, rfl, _, rfl, a, p, c, ns, i2, deep - 1, near, rfl, oB.g, (by omega), (by omega), (by omega), (by omega), (by omega), (by omega), fun dC vC H3 i3 oC => ?_⟩
  have hC := oC.hi
  have lC := oC.lo
  have dpC := oC.dp
  have knC := oC.kn
  refine ⟨(by show 4 ≤ sizeLine; decide), fun q1 e1 => ?_⟩
  exact q _ _ _ _ (made (oA.sx.trans (oB.sx.trans oC.sx)) oC.g e1 (rs rw_ (rs (oA.later (oB.sx.trans oC.sx)) (rs (oB.later oC.sx) (rs oC.r r0)))) (wf_pair oA.wf oB.wf oC.wf) (by apply KM.d0; with_reducible repeat' first | apply KM.q0i | apply KM.q0s | apply KM.q0 | apply KM.q4 | apply KM.q3 | apply KM.q2 | apply KM.q1 | omega) (by simp only [knots, knotsL]; omega) (by omega) (by omega))
theorem sc_law_like : FnScope ["_law_script", "_law_tape", "_law_deep", "_law_near", "_law_pool_here", "_law_kind_here"] ["_law_script", "_law_tape", "_law_deep", "_law_near", "_law_pool_here"] (defScope s_law_like) := ⟨rfl, rfl, rfl, by decide +kernel, rfl, by decide +kernel, by decide +kernel⟩
theorem c_law_like {n : Nat} (D : Df K mg "_law_like" s_law_like ["_law_script", "_law_tape", "_law_deep", "_law_near", "_law_pool_here"]) (M : Mg mg t) (F_law_kind : Cal P w K mg CX0 "_law_kind" (3 * n + 132) ["_law_script", "_law_tape", "_law_deep", "_law_near", "_law_pool_here"] (spGen K true n)) (F_law_term : Cal P w K mg CX0 "_law_term" (3 * n + 132) ["_law_script", "_law_tape", "_law_deep", "_law_near", "_law_pool_here"] (spGen K false n)) : Cal P w K mg CX0 "_law_like" (3 * n + 133) ["_law_script", "_law_tape", "_law_deep", "_law_near", "_law_pool_here"] (spHel K n (2 * n + 3) (1 + 6 * p5 n) (2 * cst n)) := by
  refine D.ok sc_law_like (fun vs H Q E h => ?_) (fun base f cdv A outer s H vs Q E hr h => ?_)
  · obtain ⟨a, p, c, ns, i, deep, near, rfl, _⟩ := h
    rfl
  obtain ⟨a, p, c, ns, i, deep, near, rfl, g, hi, d0, d1, hn, n0, n1, q⟩ := h
  have i0 := g.T.i0
  have c10 := cst_ge n
  have p1 := p5_ge n
  refine ⟨_, (pss_cons (ps_set (i := 5) sc_law_like.nd rfl (by first | exact Or.inl rfl | exact Or.inr rfl) (pe_fn F_law_kind (hr.mono (by omega)) rfl pass0 (pa_cons (pv 0) (pa_cons (pv 1) (pa_cons (pe_op op_sub (pv 2) pe_int) (pa_cons (pv 3) (pa_cons (pv 4) pa_nil)))))))
      (pss_one (ps_ret (pe_tup (pa_cons pe_str (pa_cons (pv 5) (pa_cons (pe_fn F_law_term (hr.mono (by omega)) rfl pass0 (pa_cons (pv 0) (pa_cons (pv 1) (pa_cons (pe_op op_sub (pv 2) pe_int) (pa_cons (pv 3) (pa_cons (pv 4) pa_nil)))))) pa_nil))))))), ?_⟩
  try dsimp only [cxK, cxK2]
  refine let2 ?_
  intro _ _
  refine ⟨_, rfl, _, rfl, _, rfl, _, _, rfl, rfl, _, rfl, _, rfl, a, p, c, ns, i, deep - 2, near, rfl, g, (by omega), (by omega), (by omega), (by omega), (by omega), (by omega), fun dA vA H1 i1 oA => ?_⟩
  have hA := oA.hi
  have lA := oA.lo
  have dpA := oA.dp
  have knA := oA.kn
  refine ⟨_, rfl, _, rfl, _, rfl, _, rfl, _, _, rfl, rfl, _, rfl, _, rfl, a, p, c, ns, i1, deep - 1, near, rfl, oA.g, (by omega), (by omega), (by omega), (by omega), (by omega), (by omega), fun dB vB H2 i2 oB => ?_⟩
  have hB := oB.hi
  have lB := oB.lo
  have dpB := oB.dp
  have knB := oB.kn
  refine ⟨(by show 3 ≤ sizeLine; decide), fun q1 e1 => ?_⟩
  exact q _ _ _ _ (made (oA.sx.trans oB.sx) oB.g e1 (rs rw_ (rs (oA.later oB.sx) (rs oB.r r0))) (wf_like oA.wf oB.wf) (by apply KM.d0; with_reducible repeat' first | apply KM.q0i | apply KM.q0s | apply KM.q0 | apply KM.q4 | apply KM.q3 | apply KM.q2 | apply KM.q1 | omega) (by simp only [knots, knotsL]; omega) (by omega) (by omega))
theorem sc_law_number : FnScope ["_law_script", "_law_tape", "_law_deep", "_law_near", "_law_pool_here"] ["_law_script", "_law_tape", "_law_deep", "_law_near", "_law_pool_here"] (defScope s_law_number) := ⟨rfl, rfl, rfl, by decide +kernel, rfl, by decide +kernel, by decide +kernel⟩
theorem c_law_number {n : Nat} (D : Df K mg "_law_number" s_law_number ["_law_script", "_law_tape", "_law_deep", "_law_near", "_law_pool_here"]) (M : Mg mg t) (F_law_draw : Cal P w K mg CX0 "_law_draw" (1) ["_law_script", "_law_tape", "_law_many"] (spDraw K)) (F_law_term : Cal P w K mg CX0 "_law_term" (3 * n + 132) ["_law_script", "_law_tape", "_law_deep", "_law_near", "_law_pool_here"] (spGen K false n)) : Cal P w K mg CX0 "_law_number" (3 * n + 133) ["_law_script", "_law_tape", "_law_deep", "_law_near", "_law_pool_here"] (spHel K n (2 * n + 3) (1 + 3 * p5 n) (1 + cst n)) := by
  refine D.ok sc_law_number (fun vs H Q E h => ?_) (fun base f cdv A outer s H vs Q E hr h => ?_)
  · obtain ⟨a, p, c, ns, i, deep, near, rfl, _⟩ := h
    rfl
  obtain ⟨a, p, c, ns, i, deep, near, rfl, g, hi, d0, d1, hn, n0, n1, q⟩ := h
  have i0 := g.T.i0
  have c10 := cst_ge n
  have p1 := p5_ge n
  refine ⟨_, (pss_cons (ps_if (pt_cmpR op_eq (pe_fn F_law_draw (hr.mono (by omega)) rfl pass0 (pa_cons (pv 0) (pa_cons (pv 1) (pa_cons pe_int pa_nil)))) pe_int (nomark _)) (pss_one (ps_ret (pe_tup (pa_cons pe_str pa_nil)))) pss_nil)
      (pss_one (ps_ret (pe_tup (pa_cons pe_str (pa_cons (pe_fn F_law_term (hr.mono (by omega)) rfl pass0 (pa_cons (pv 0) (pa_cons (pv 1) (pa_cons (pe_op op_sub (pv 2) pe_int) (pa_cons (pv 3) (pa_cons (pv 4) pa_nil)))))) pa_nil)))))), ?_⟩
  try dsimp only [cxK, cxK2]
  refine let2 ?_
  intro _ _
  refine ⟨_, rfl, _, rfl, a, p, ns, i, 3, rfl, g.T, (by omega), (by decide), fun way H0 w0 w1 x0 h0 => ⟨rfl, _, rfl, ?_⟩⟩
  have g0 := g.next x0 h0 (by omega)
  refine ite2 (fun _ => ?_) (fun _ => ?_)
  · refine ⟨(by show 1 ≤ sizeLine; decide), fun q1 e1 => ?_⟩
    exact q _ _ _ _ (made x0 g0 e1 (rs rw_ r0) wf_zero (by apply KM.d0; with_reducible repeat' first | apply KM.q0i | apply KM.q0s | apply KM.q0 | apply KM.q4 | apply KM.q3 | apply KM.q2 | apply KM.q1 | omega) (by simp only [knots, knotsL]; omega) (by omega) (by omega))
  refine ⟨_, rfl, _, rfl, _, rfl, _, _, rfl, rfl, _, rfl, _, rfl, a, p, c, ns, i + 1, deep - 1, near, rfl, g0, (by omega), (by omega), (by omega), (by omega), (by omega), (by omega), fun dA vA H1 i1 oA => ?_⟩
  have hA := oA.hi
  have lA := oA.lo
  have dpA := oA.dp
  have knA := oA.kn
  refine ⟨(by show 2 ≤ sizeLine; decide), fun q1 e1 => ?_⟩
  exact q _ _ _ _ (made (x0.trans oA.sx) oA.g e1 (rs rw_ (rs oA.r r0)) (wf_next oA.wf) (by apply KM.d0; with_reducible repeat' first | apply KM.q0i | apply KM.q0s | apply KM.q0 | apply KM.q4 | apply KM.q3 | apply KM.q2 | apply KM.q1 | omega) (by simp only [knots, knotsL]; omega) (by omega) (by omega))
def spWay (K : PySem.W.Frag) (n dp kn : Nat) (co : Int) : Sp := fun vs H Q _ => ∃ (a p c : Addr) (ns : List Int) (i deep near way : Int), vs = [.ref a, .ref p, .int deep, .int near, .ref c, .int way] ∧ Sg K a p c ns H i ∧ i + 9 * cst n < 2 ^ 58 ∧ 1 ≤ deep ∧ deep < n ∧ n ≤ 9 ∧ 0 ≤ near ∧ near + n + 1 ≤ 99 ∧
  ∀ (d : D) (v : V) (H' : Hp) (i' : Int), Ou K a p c ns H i false dp kn co d v H' i' → Q v H'
theorem sc_law_parted : FnScope ["_law_script", "_law_tape", "_law_deep", "_law_near", "_law_pool_here", "_law_way", "_law_word", "_law_kind_here", "_law_first", "_law_second"] ["_law_script", "_law_tape", "_law_deep", "_law_near", "_law_pool_here", "_law_way"] (defScope s_law_parted) := ⟨rfl, rfl, rfl, by decide +kernel, rfl, by decide +kernel, by decide +kernel⟩
theorem c_law_parted {n : Nat} (D : Df K mg "_law_parted" s_law_parted ["_law_script", "_law_tape", "_law_deep", "_law_near", "_law_pool_here", "_law_way"]) (M : Mg mg t) (F_law_draw : Cal P w K mg CX0 "_law_draw" (1) ["_law_script", "_law_tape", "_law_many"] (spDraw K)) (F_law_kind : Cal P w K mg CX0 "_law_kind" (3 * n + 132) ["_law_script", "_law_tape", "_law_deep", "_law_near", "_law_pool_here"] (spGen K true n)) (F_law_term : Cal P w K mg CX0 "_law_term" (3 * n + 132) ["_law_script", "_law_tape", "_law_deep", "_law_near", "_law_pool_here"] (spGen K false n)) (F_law_fun : Cal P w K mg CX0 "_law_fun" (3 * n + 133) ["_law_script", "_law_tape", "_law_deep", "_law_near", "_law_pool_here"] (spHel K n (2 * n + 3) (1 + 6 * p5 n) (2 * cst n))) (F_law_pair : Cal P w K mg CX0 "_law_pair" (3 * n + 133) ["_law_script", "_law_tape", "_law_deep", "_law_near", "_law_pool_here"] (spHel K n (2 * n + 3) (1 + 9 * p5 n) (3 * cst n))) (F_law_like : Cal P w K mg CX0 "_law_like" (3 * n + 133) ["_law_script", "_law_tape", "_law_deep", "_law_near", "_law_pool_here"] (spHel K n (2 * n + 3) (1 + 6 * p5 n) (2 * cst n))) (F_law_number : Cal P w K mg CX0 "_law_number" (3 * n + 133) ["_law_script", "_law_tape", "_law_deep", "_law_near", "_law_pool_here"] (spHel K n (2 * n + 3) (1 + 3 * p5 n) (1 + cst n))) : Cal P w K mg CX0 "_law_parted" (3 * n + 134) ["_law_script", "_law_tape", "_law_deep", "_law_near", "_law_pool_here", "_law_way"] (spWay K n (2 * n + 4) (2 + 12 * p5 n) (2 + 5 * cst n)) := by
  refine D.ok sc_law_parted (fun vs H Q E h => ?_) (fun base f cdv A outer s H vs Q E hr h => ?_)
  · obtain ⟨a, p, c, ns, i, deep, near, way, rfl, _⟩ := h
    rfl
  obtain ⟨a, p, c, ns, i, deep, near, way, rfl, g, hi, d0, d1, hn, n0, n1, q⟩ := h
  have i0 := g.T.i0
  have c10 := cst_ge n
  have p1 := p5_ge n
  refine ⟨_, (pss_cons (ps_if (pt_cmpR op_eq (pv 5) pe_int (nomark _)) (pss_one (ps_ret (pe_tup (pa_cons pe_str (pa_cons (pe_fn F_law_fun (hr.mono (by omega)) rfl pass0 (pa_cons (pv 0) (pa_cons (pv 1) (pa_cons (pv 2) (pa_cons (pv 3) (pa_cons (pv 4) pa_nil)))))) (pa_cons (pe_fn F_law_term (hr.mono (by omega)) rfl pass0 (pa_cons (pv 0) (pa_cons (pv 1) (pa_cons (pe_op op_sub (pv 2) pe_int) (pa_cons (pv 3) (pa_cons (pv 4) pa_nil)))))) pa_nil)))))) pss_nil)
      (pss_cons (ps_if (pt_cmpR op_eq (pv 5) pe_int (nomark _)) (pss_cons (ps_set (i := 6) sc_law_parted.nd rfl (by first | exact Or.inl rfl | exact Or.inr rfl) (pe_ix ix_list (pe_lst (pa_cons pe_str (pa_cons pe_str pa_nil))) (pe_fn F_law_draw (hr.mono (by omega)) rfl pass0 (pa_cons (pv 0) (pa_cons (pv 1) (pa_cons pe_int pa_nil)))) (fun _ _ => rfl)))
      (pss_one (ps_ret (pe_tup (pa_cons (pv 6) (pa_cons (pe_fn F_law_pair (hr.mono (by omega)) rfl pass0 (pa_cons (pv 0) (pa_cons (pv 1) (pa_cons (pv 2) (pa_cons (pv 3) (pa_cons (pv 4) pa_nil)))))) pa_nil)))))) pss_nil)
      (pss_cons (ps_set (i := 7) sc_law_parted.nd rfl (by first | exact Or.inl rfl | exact Or.inr rfl) (pe_fn F_law_kind (hr.mono (by omega)) rfl pass0 (pa_cons (pv 0) (pa_cons (pv 1) (pa_cons (pe_op op_sub (pv 2) pe_int) (pa_cons (pe_op op_add (pv 3) pe_int) (pa_cons (pv 4) pa_nil)))))))
      (pss_cons (ps_set (i := 8) sc_law_parted.nd rfl (by first | exact Or.inl rfl | exact Or.inr rfl) (pe_fn F_law_term (hr.mono (by omega)) rfl pass0 (pa_cons (pv 0) (pa_cons (pv 1) (pa_cons (pe_op op_sub (pv 2) pe_int) (pa_cons (pv 3) (pa_cons (pv 4) pa_nil)))))))
      (pss_cons (ps_if (pt_cmpR op_eq (pv 5) pe_int (nomark _)) (pss_one (ps_ret (pe_tup (pa_cons pe_str (pa_cons (pv 7) (pa_cons (pv 8) (pa_cons (pe_fn F_law_like (hr.mono (by omega)) rfl pass0 (pa_cons (pv 0) (pa_cons (pv 1) (pa_cons (pv 2) (pa_cons (pv 3) (pa_cons (pv 4) pa_nil)))))) pa_nil))))))) pss_nil)
      (pss_cons (ps_set (i := 9) sc_law_parted.nd rfl (by first | exact Or.inl rfl | exact Or.inr rfl) (pe_fn F_law_term (hr.mono (by omega)) rfl pass0 (pa_cons (pv 0) (pa_cons (pv 1) (pa_cons (pe_op op_sub (pv 2) pe_int) (pa_cons (pv 3) (pa_cons (pv 4) pa_nil)))))))
      (pss_one (ps_ret (pe_tup (pa_cons pe_str (pa_cons (pv 7) (pa_cons (pv 8) (pa_cons (pv 9) (pa_cons (pe_fn F_law_number (hr.mono (by omega)) rfl pass0 (pa_cons (pv 0) (pa_cons (pv 1) (pa_cons (pv 2) (pa_cons (pv 3) (pa_cons (pv 4) pa_nil)))))) pa_nil)))))))))))))), ?_⟩
  try dsimp only [cxK, cxK2]
  refine let7 ?_
  intro _ _ _ _ _ _ _
  refine ⟨_, rfl, rfl, _, rfl, ite2 (fun _ => ?_) (fun _ => ?_)⟩
  · refine ⟨_, rfl, _, rfl, _, rfl, _, rfl, _, rfl, a, p, c, ns, i, deep, near, rfl, g, (by omega), d0, d1, (by omega), n0, n1, fun dA vA H1 i1 oA => ?_⟩
    have hA := oA.hi
    have lA := oA.lo
    have dpA := oA.dp
    have knA := oA.kn
    refine ⟨_, rfl, _, rfl, _, rfl, _, _, rfl, rfl, _, rfl, _, rfl, a, p, c, ns, i1, deep - 1, near, rfl, oA.g, (by omega), (by omega), (by omega), (by omega), (by omega), (by omega), fun dB vB H2 i2 oB => ?_⟩
    have hB := oB.hi
    have lB := oB.lo
    have dpB := oB.dp
    have knB := oB.kn
    refine ⟨(by show 3 ≤ sizeLine; decide), fun q1 e1 => ?_⟩
    exact q _ _ _ _ (made (oA.sx.trans oB.sx) oB.g e1 (rs rw_ (rs (oA.later oB.sx) (rs oB.r r0))) (wf_app oA.wf oB.wf) (by apply KM.d0; with_reducible repeat' first | apply KM.q0i | apply KM.q0s | apply KM.q0 | apply KM.q4 | apply KM.q3 | apply KM.q2 | apply KM.q1 | omega) (by simp only [knots, knotsL]; omega) (by omega) (by omega))
  refine ⟨_, rfl, rfl, _, rfl, ite2 (fun _ => ?_) (fun _ => ?_)⟩
  · refine ⟨(by show 2 ≤ sizeLine; decide), fun q0 e0 => ?_⟩
    have t0 := same_new e0 (.lst [V.str "first", .str "second"])
    refine ⟨_, rfl, _, rfl, a, p, ns, i, 2, rfl, (g.mono t0).T, (by omega), (by decide), fun wz H9 w0 w1 x9 h9 => ?_⟩
    have g9 := (g.mono t0).next x9 h9 (by omega)
    obtain ⟨y, hy, hyy⟩ : ∃ y : Str, atI [V.str "first", .str "second"] wz = some (.str y) ∧ (y = "first" ∨ y = "second") := by
      have : wz = 0 ∨ wz = 1 := by omega
      rcases this with rfl | rfl
      · exact ⟨_, rfl, .inl rfl⟩
      · exact ⟨_, rfl, .inr rfl⟩
    have hne : q0 ≠ p := fun z => by subst z; rw [g.T.tape] at e0; cases e0
    have hq0 := x9 _ _ hne (show (upd _ q0 (.lst [V.str "first", .str "second"])) q0 = some _ from upd_same)
    have hyl : y.length ≤ 1000 := by rcases hyy with rfl | rfl <;> decide
    have hwy : ∀ {d : KM.D}, wfG isStrD false d = true → wfG isStrD false (.tup [.str y, d]) = true := fun h => by
      rcases hyy with rfl | rfl
      · exact wf_first h
      · exact wf_second h
    refine ⟨q0, _, _, _, rfl, rfl, SqL.of hq0, hy, ?_⟩
    refine ⟨_, rfl, _, rfl, _, rfl, _, rfl, _, rfl, _, rfl, a, p, c, ns, i + 1, deep, near, rfl, g9, (by omega), d0, d1, (by omega), n0, n1, fun dA vA H1 i1 oA => ?_⟩
    have hA := oA.hi
    have lA := oA.lo
    have dpA := oA.dp
    have knA := oA.kn
    refine ⟨(by show 2 ≤ sizeLine; decide), fun q1 e1 => ?_⟩
    exact q _ _ _ _ (made ((t0.x.trans x9).trans oA.sx) oA.g e1 (rs (rw_ hyl) (rs oA.r r0)) (hwy oA.wf) (by apply KM.d0; with_reducible repeat' first | apply KM.q0i | apply KM.q0s | apply KM.q0 | apply KM.q4 | apply KM.q3 | apply KM.q2 | apply KM.q1 | omega) (by simp only [knots, knotsL]; omega) (by omega) (by omega))
  refine ⟨_, rfl, _, rfl, _, rfl, _, _, rfl, rfl, _, rfl, _, _, rfl, rfl, _, rfl, a, p, c, ns, i, deep - 2, near + 1, rfl, g, (by omega), (by omega), (by omega), (by omega), (by omega), (by omega), fun dA vA H1 i1 oA => ?_⟩
  have hA := oA.hi
  have lA := oA.lo
  have dpA := oA.dp
  have knA := oA.kn
  refine ⟨_, rfl, _, rfl, _, rfl, _, _, rfl, rfl, _, rfl, _, rfl, a, p, c, ns, i1, deep - 1, near, rfl, oA.g, (by omega), (by omega), (by omega), (by omega), (by omega), (by omega), fun dB vB H2 i2 oB => ?_⟩
  have hB := oB.hi
  have lB := oB.lo
  have dpB := oB.dp
  have knB := oB.kn
  refine ⟨_, rfl, rfl, _, rfl, ite2 (fun _ => ?_) (fun _ => ?_)⟩
  · refine ⟨_, rfl, _, rfl, _, rfl, _, rfl, _, rfl, _, rfl, _, rfl, a, p, c, ns, i2, deep, near, rfl, oB.g, (by omega), d0, d1, (by omega), n0, n1, fun dC vC H3 i3 oC => ?_⟩
    have hC := oC.hi
    have lC := oC.lo
    have dpC := oC.dp
    have knC := oC.kn
    refine ⟨(by show 4 ≤ sizeLine; decide), fun q1 e1 => ?_⟩
    exact q _ _ _ _ (made (oA.sx.trans (oB.sx.trans oC.sx)) oC.g e1 (rs rw_ (rs (oA.later (oB.sx.trans oC.sx)) (rs (oB.later oC.sx) (rs oC.r r0)))) (wf_carry oA.wf oB.wf oC.wf) (by apply KM.d0; with_reducible repeat' first | apply KM.q0i | apply KM.q0s | apply KM.q0 | apply KM.q4 | apply KM.q3 | apply KM.q2 | apply KM.q1 | omega) (by simp only [knots, knotsL]; omega) (by omega) (by omega))
  refine ⟨_, rfl, _, rfl, _, rfl, _, _, rfl, rfl, _, rfl, _, rfl, a, p, c, ns, i2, deep - 1, near, rfl, oB.g, (by omega), (by omega), (by omega), (by omega), (by omega), (by omega), fun dC vC H3 i3 oC => ?_⟩
  have hC := oC.hi
  have lC := oC.lo
  have dpC := oC.dp
  have knC := oC.kn
  refine ⟨_, rfl, _, rfl, _, rfl, _, rfl, _, rfl, _, rfl, _, rfl, _, rfl, a, p, c, ns, i3, deep, near, rfl, oC.g, (by omega), d0, d1, (by omega), n0, n1, fun dE vE H4 i4 oE => ?_⟩
  have hE := oE.hi
  have lE := oE.lo
  have dpE := oE.dp
  have knE := oE.kn
  refine ⟨(by show 5 ≤ sizeLine; decide), fun q1 e1 => ?_⟩
  exact q _ _ _ _ (made (oA.sx.trans (oB.sx.trans (oC.sx.trans oE.sx))) oE.g e1 (rs rw_ (rs (oA.later (oB.sx.trans (oC.sx.trans oE.sx))) (rs (oB.later (oC.sx.trans oE.sx)) (rs (oC.later oE.sx) (rs oE.r r0))))) (wf_rec oA.wf oB.wf oC.wf oE.wf) (by apply KM.d0; with_reducible repeat' first | apply KM.q0i | apply KM.q0s | apply KM.q0 | apply KM.q4 | apply KM.q3 | apply KM.q2 | apply KM.q1 | omega) (by simp only [knots, knotsL]; omega) (by omega) (by omega))
end K22
end
section
set_option maxHeartbeats 2000000
namespace K22
open PySem L2 L3 KM PyProof.Rows
seal L2.PE L2.PS L2.PSs L2.PT L2.PW L2.PA L2.PG L2.PGs L2.PI L2.PC L2.PO L2.PPs L2.PK L3.PIf
variable {P : Program} {w : World} {K : PySem.W.Frag} {mg : Str → Option Value} {base : Heap} {t : Adr}
theorem sc_law_still : FnScope ["_law_script", "_law_tape", "_law_deep", "_law_near", "_law_pool_here", "_law_way", "_law_one", "_law_two", "_law_three"] ["_law_script", "_law_tape", "_law_deep", "_law_near", "_law_pool_here", "_law_way"] (defScope s_law_still) := ⟨rfl, rfl, rfl, by decide +kernel, rfl, by decide +kernel, by decide +kernel⟩
theorem c_law_still {n : Nat} (D : Df K mg "_law_still" s_law_still ["_law_script", "_law_tape", "_law_deep", "_law_near", "_law_pool_here", "_law_way"]) (M : Mg mg t) (F_law_draw : Cal P w K mg CX0 "_law_draw" (1) ["_law_script", "_law_tape", "_law_many"] (spDraw K)) (F_law_kind : Cal P w K mg CX0 "_law_kind" (3 * n + 132) ["_law_script", "_law_tape", "_law_deep", "_law_near", "_law_pool_here"] (spGen K true n)) (F_law_term : Cal P w K mg CX0 "_law_term" (3 * n + 132) ["_law_script", "_law_tape", "_law_deep", "_law_near", "_law_pool_here"] (spGen K false n)) (F_law_fun : Cal P w K mg CX0 "_law_fun" (3 * n + 133) ["_law_script", "_law_tape", "_law_deep", "_law_near", "_law_pool_here"] (spHel K n (2 * n + 3) (1 + 6 * p5 n) (2 * cst n))) (F_law_pair : Cal P w K mg CX0 "_law_pair" (3 * n + 133) ["_law_script", "_law_tape", "_law_deep", "_law_near", "_law_pool_here"] (spHel K n (2 * n + 3) (1 + 9 * p5 n) (3 * cst n))) (F_law_like : Cal P w K mg CX0 "_law_like" (3 * n + 133) ["_law_script", "_law_tape", "_law_deep", "_law_near", "_law_pool_here"] (spHel K n (2 * n + 3) (1 + 6 * p5 n) (2 * cst n))) : Cal P w K mg CX0 "_law_still" (3 * n + 134) ["_law_script", "_law_tape", "_law_deep", "_law_near", "_law_pool_here", "_law_way"] (spWay K n (2 * n + 4) (1 + 12 * p5 n) (1 + 4 * cst n)) := by
  refine D.ok sc_law_still (fun vs H Q E h => ?_) (fun base f cdv A outer s H vs Q E hr h => ?_)
  · obtain ⟨a, p, c, ns, i, deep, near, way, rfl, _⟩ := h
    rfl
  obtain ⟨a, p, c, ns, i, deep, near, way, rfl, g, hi, d0, d1, hn, n0, n1, q⟩ := h
  have i0 := g.T.i0
  have c10 := cst_ge n
  have p1 := p5_ge n
  refine ⟨_, (pss_cons (ps_if (pt_cmpR op_lt (pv 5) pe_int (nomark _)) (pss_one (ps_ret (pe_tup (pa_cons pe_str (pa_cons (pe_fn F_law_term (hr.mono (by omega)) rfl pass0 (pa_cons (pv 0) (pa_cons (pv 1) (pa_cons (pe_op op_sub (pv 2) pe_int) (pa_cons (pv 3) (pa_cons (pv 4) pa_nil)))))) pa_nil))))) pss_nil)
      (pss_cons (ps_if (pt_cmpR op_eq (pv 5) pe_int (nomark _)) (pss_one (ps_ret (pe_fn F_law_fun (hr.mono (by omega)) rfl pass0 (pa_cons (pv 0) (pa_cons (pv 1) (pa_cons (pv 2) (pa_cons (pv 3) (pa_cons (pv 4) pa_nil)))))))) pss_nil)
      (pss_cons (ps_if (pt_cmpR op_eq (pv 5) pe_int (nomark _)) (pss_one (ps_ret (pe_fn F_law_pair (hr.mono (by omega)) rfl pass0 (pa_cons (pv 0) (pa_cons (pv 1) (pa_cons (pv 2) (pa_cons (pv 3) (pa_cons (pv 4) pa_nil)))))))) pss_nil)
      (pss_cons (ps_if (pt_cmpR op_eq (pv 5) pe_int (nomark _)) (pss_one (ps_ret (pe_fn F_law_like (hr.mono (by omega)) rfl pass0 (pa_cons (pv 0) (pa_cons (pv 1) (pa_cons (pv 2) (pa_cons (pv 3) (pa_cons (pv 4) pa_nil)))))))) pss_nil)
      (pss_cons (ps_set (i := 6) sc_law_still.nd rfl (by first | exact Or.inl rfl | exact Or.inr rfl) (pe_fn F_law_term (hr.mono (by omega)) rfl pass0 (pa_cons (pv 0) (pa_cons (pv 1) (pa_cons (pe_op op_sub (pv 2) pe_int) (pa_cons (pv 3) (pa_cons (pv 4) pa_nil)))))))
      (pss_cons (ps_if (pt_cmpR op_eq (pv 5) pe_int (nomark _)) (pss_one (ps_ret (pe_tup (pa_cons pe_str (pa_cons (pe_fn F_law_kind (hr.mono (by omega)) rfl pass0 (pa_cons (pv 0) (pa_cons (pv 1) (pa_cons (pe_op op_sub (pv 2) pe_int) (pa_cons (pv 3) (pa_cons (pv 4) pa_nil)))))) (pa_cons (pv 6) pa_nil)))))) pss_nil)
      (pss_cons (ps_if (pt_cmpR op_eq (pv 5) pe_int (nomark _)) (pss_one (ps_ret (pe_tup (pa_cons (pe_ix ix_list (pe_lst (pa_cons pe_str (pa_cons pe_str pa_nil))) (pe_fn F_law_draw (hr.mono (by omega)) rfl pass0 (pa_cons (pv 0) (pa_cons (pv 1) (pa_cons pe_int pa_nil)))) (fun _ _ => rfl)) (pa_cons (pv 6) pa_nil))))) pss_nil)
      (pss_cons (ps_set (i := 7) sc_law_still.nd rfl (by first | exact Or.inl rfl | exact Or.inr rfl) (pe_fn F_law_term (hr.mono (by omega)) rfl pass0 (pa_cons (pv 0) (pa_cons (pv 1) (pa_cons (pe_op op_sub (pv 2) pe_int) (pa_cons (pv 3) (pa_cons (pv 4) pa_nil)))))))
      (pss_cons (ps_if (pt_cmpR op_eq (pv 5) pe_int (nomark _)) (pss_one (ps_ret (pe_tup (pa_cons pe_str (pa_cons (pv 6) (pa_cons (pv 7) pa_nil)))))) pss_nil)
      (pss_cons (ps_if (pt_cmpR op_eq (pv 5) pe_int (nomark _)) (pss_one (ps_ret (pe_tup (pa_cons pe_str (pa_cons (pe_fn F_law_kind (hr.mono (by omega)) rfl pass0 (pa_cons (pv 0) (pa_cons (pv 1) (pa_cons (pe_op op_sub (pv 2) pe_int) (pa_cons (pe_op op_add (pv 3) pe_int) (pa_cons (pv 4) pa_nil)))))) (pa_cons (pv 6) (pa_cons (pv 7) pa_nil))))))) pss_nil)
      (pss_cons (ps_set (i := 8) sc_law_still.nd rfl (by first | exact Or.inl rfl | exact Or.inr rfl) (pe_fn F_law_term (hr.mono (by omega)) rfl pass0 (pa_cons (pv 0) (pa_cons (pv 1) (pa_cons (pe_op op_sub (pv 2) pe_int) (pa_cons (pv 3) (pa_cons (pv 4) pa_nil)))))))
      (pss_one (ps_ret (pe_tup (pa_cons pe_str (pa_cons (pe_fn F_law_kind (hr.mono (by omega)) rfl pass0 (pa_cons (pv 0) (pa_cons (pv 1) (pa_cons (pe_op op_sub (pv 2) pe_int) (pa_cons (pe_op op_add (pv 3) pe_int) (pa_cons (pv 4) pa_nil)))))) (pa_cons (pv 6) (pa_cons (pv 7) (pa_cons (pv 8) pa_nil))))))))))))))))))), ?_⟩
  try dsimp only [cxK, cxK2]
  refine let12 ?_
  intro _ _ _ _ _ _ _ _ _ _ _ _
  refine ⟨_, rfl, _, _, rfl, rfl, _, rfl, ite2 (fun _ => ?_) (fun _ => ?_)⟩
  · refine ⟨_, rfl, _, rfl, _, rfl, _, _, rfl, rfl, _, rfl, _, rfl, a, p, c, ns, i, deep - 1, near, rfl, g, (by omega), (by omega), (by omega), (by omega), (by omega), (by omega), fun dA vA H1 i1 oA => ?_⟩
    have hA := oA.hi
    have lA := oA.lo
    have dpA := oA.dp
    have knA := oA.kn
    refine ⟨(by show 2 ≤ sizeLine; decide), fun q1 e1 => ?_⟩
    exact q _ _ _ _ (made (oA.sx) oA.g e1 (rs rw_ (rs oA.r r0)) (wf_next oA.wf) (by apply KM.d0; with_reducible repeat' first | apply KM.q0i | apply KM.q0s | apply KM.q0 | apply KM.q4 | apply KM.q3 | apply KM.q2 | apply KM.q1 | omega) (by simp only [knots, knotsL]; omega) (by omega) (by omega))
  refine ⟨_, rfl, rfl, _, rfl, ite2 (fun _ => ?_) (fun _ => ?_)⟩
  · refine ⟨_, rfl, _, rfl, _, rfl, _, rfl, _, rfl, a, p, c, ns, i, deep, near, rfl, g, (by omega), d0, d1, (by omega), n0, n1, fun dA vA H1 i1 oA => ?_⟩
    have hA := oA.hi
    have lA := oA.lo
    have dpA := oA.dp
    have knA := oA.kn
    exact q _ _ _ _ (oA.weak (by omega) (by omega) (by omega))
  refine ⟨_, rfl, rfl, _, rfl, ite2 (fun _ => ?_) (fun _ => ?_)⟩
  · refine ⟨_, rfl, _, rfl, _, rfl, _, rfl, _, rfl, a, p, c, ns, i, deep, near, rfl, g, (by omega), d0, d1, (by omega), n0, n1, fun dA vA H1 i1 oA => ?_⟩
    have hA := oA.hi
    have lA := oA.lo
    have dpA := oA.dp
    have knA := oA.kn
    exact q _ _ _ _ (oA.weak (by omega) (by omega) (by omega))
  refine ⟨_, rfl, rfl, _, rfl, ite2 (fun _ => ?_) (fun _ => ?_)⟩
  · refine ⟨_, rfl, _, rfl, _, rfl, _, rfl, _, rfl, a, p, c, ns, i, deep, near, rfl, g, (by omega), d0, d1, (by omega), n0, n1, fun dA vA H1 i1 oA => ?_⟩
    have hA := oA.hi
    have lA := oA.lo
    have dpA := oA.dp
    have knA := oA.kn
    exact q _ _ _ _ (oA.weak (by omega) (by omega) (by omega))
  refine ⟨_, rfl, _, rfl, _, rfl, _, _, rfl, rfl, _, rfl, _, rfl, a, p, c, ns, i, deep - 1, near, rfl, g, (by omega), (by omega), (by omega), (by omega), (by omega), (by omega), fun dA vA H1 i1 oA => ?_⟩
  have hA := oA.hi
  have lA := oA.lo
  have dpA := oA.dp
  have knA := oA.kn
  refine ⟨_, rfl, rfl, _, rfl, ite2 (fun _ => ?_) (fun _ => ?_)⟩
  · refine ⟨_, rfl, _, rfl, _, rfl, _, _, rfl, rfl, _, rfl, _, rfl, a, p, c, ns, i1, deep - 2, near, rfl, oA.g, (by omega), (by omega), (by omega), (by omega), (by omega), (by omega), fun dB vB H2 i2 oB => ?_⟩
    have hB := oB.hi
    have lB := oB.lo
    have dpB := oB.dp
    have knB := oB.kn
    refine ⟨_, rfl, (by show 3 ≤ sizeLine; decide), fun q1 e1 => ?_⟩
    exact q _ _ _ _ (made (oA.sx.trans oB.sx) oB.g e1 (rs rw_ (rs oB.r (rs (oA.later oB.sx) r0))) (wf_never oB.wf oA.wf) (by apply KM.d0; with_reducible repeat' first | apply KM.q0i | apply KM.q0s | apply KM.q0 | apply KM.q4 | apply KM.q3 | apply KM.q2 | apply KM.q1 | omega) (by simp only [knots, knotsL]; omega) (by omega) (by omega))
  refine ⟨_, rfl, rfl, _, rfl, ite2 (fun _ => ?_) (fun _ => ?_)⟩
  · refine ⟨(by show 2 ≤ sizeLine; decide), fun q0 e0 => ?_⟩
    have t0 := same_new e0 (.lst [V.str "first", .str "second"])
    refine ⟨_, rfl, _, rfl, a, p, ns, i1, 2, rfl, (oA.g.mono t0).T, (by omega), (by decide), fun wz H9 w0 w1 x9 h9 => ?_⟩
    have g9 := (oA.g.mono t0).next x9 h9 (by omega)
    obtain ⟨y, hy, hyy⟩ : ∃ y : Str, atI [V.str "first", .str "second"] wz = some (.str y) ∧ (y = "first" ∨ y = "second") := by
      have : wz = 0 ∨ wz = 1 := by omega
      rcases this with rfl | rfl
      · exact ⟨_, rfl, .inl rfl⟩
      · exact ⟨_, rfl, .inr rfl⟩
    have hne : q0 ≠ p := fun z => by subst z; rw [oA.g.T.tape] at e0; cases e0
    have hq0 := x9 _ _ hne (show (upd _ q0 (.lst [V.str "first", .str "second"])) q0 = some _ from upd_same)
    have hyl : y.length ≤ 1000 := by rcases hyy with rfl | rfl <;> decide
    have hwy : ∀ {d : KM.D}, wfG isStrD false d = true → wfG isStrD false (.tup [.str y, d]) = true := fun h => by
      rcases hyy with rfl | rfl
      · exact wf_first h
      · exact wf_second h
    refine ⟨q0, _, _, _, rfl, rfl, SqL.of hq0, hy, _, rfl, ?_⟩
    refine ⟨(by show 2 ≤ sizeLine; decide), fun q1 e1 => ?_⟩
    exact q _ _ _ _ (made (oA.sx.trans (t0.x.trans x9)) g9 e1 (rs (rw_ hyl) (rs (oA.later (t0.x.trans x9)) r0)) (hwy oA.wf) (by apply KM.d0; with_reducible repeat' first | apply KM.q0i | apply KM.q0s | apply KM.q0 | apply KM.q4 | apply KM.q3 | apply KM.q2 | apply KM.q1 | omega) (by simp only [knots, knotsL]; omega) (by omega) (by omega))
  refine ⟨_, rfl, _, rfl, _, rfl, _, _, rfl, rfl, _, rfl, _, rfl, a, p, c, ns, i1, deep - 1, near, rfl, oA.g, (by omega), (by omega), (by omega), (by omega), (by omega), (by omega), fun dB vB H2 i2 oB => ?_⟩
  have hB := oB.hi
  have lB := oB.lo
  have dpB := oB.dp
  have knB := oB.kn
  refine ⟨_, rfl, rfl, _, rfl, ite2 (fun _ => ?_) (fun _ => ?_)⟩
  · refine ⟨_, rfl, _, rfl, (by show 3 ≤ sizeLine; decide), fun q1 e1 => ?_⟩
    exact q _ _ _ _ (made (oA.sx.trans oB.sx) oB.g e1 (rs rw_ (rs (oA.later oB.sx) (rs oB.r r0))) (wf_app oA.wf oB.wf) (by apply KM.d0; with_reducible repeat' first | apply KM.q0i | apply KM.q0s | apply KM.q0 | apply KM.q4 | apply KM.q3 | apply KM.q2 | apply KM.q1 | omega) (by simp only [knots, knotsL]; omega) (by omega) (by omega))
  refine ⟨_, rfl, rfl, _, rfl, ite2 (fun _ => ?_) (fun _ => ?_)⟩
  · refine ⟨_, rfl, _, rfl, _, rfl, _, _, rfl, rfl, _, rfl, _, _, rfl, rfl, _, rfl, a, p, c, ns, i2, deep - 2, near + 1, rfl, oB.g, (by omega), (by omega), (by omega), (by omega), (by omega), (by omega), fun dC vC H3 i3 oC => ?_⟩
    have hC := oC.hi
    have lC := oC.lo
    have dpC := oC.dp
    have knC := oC.kn
    refine ⟨_, rfl, _, rfl, (by show 4 ≤ sizeLine; decide), fun q1 e1 => ?_⟩
    exact q _ _ _ _ (made (oA.sx.trans (oB.sx.trans oC.sx)) oC.g e1 (rs rw_ (rs oC.r (rs (oA.later (oB.sx.trans oC.sx)) (rs (oB.later oC.sx) r0)))) (wf_carry oC.wf oA.wf oB.wf) (by apply KM.d0; with_reducible repeat' first | apply KM.q0i | apply KM.q0s | apply KM.q0 | apply KM.q4 | apply KM.q3 | apply KM.q2 | apply KM.q1 | omega) (by simp only [knots, knotsL]; omega) (by omega) (by omega))
  refine ⟨_, rfl, _, rfl, _, rfl, _, _, rfl, rfl, _, rfl, _, rfl, a, p, c, ns, i2, deep - 1, near, rfl, oB.g, (by omega), (by omega), (by omega), (by omega), (by omega), (by omega), fun dC vC H3 i3 oC => ?_⟩
  have hC := oC.hi
  have lC := oC.lo
  have dpC := oC.dp
  have knC := oC.kn
  refine ⟨_, rfl, _, rfl, _, rfl, _, _, rfl, rfl, _, rfl, _, _, rfl, rfl, _, rfl, a, p, c, ns, i3, deep - 2, near + 1, rfl, oC.g, (by omega), (by omega), (by omega), (by omega), (by omega), (by omega), fun dE vE H4 i4 oE => ?_⟩
  have hE := oE.hi
  have lE := oE.lo
  have dpE := oE.dp
  have knE := oE.kn
  refine ⟨_, rfl, _, rfl, _, rfl, (by show 5 ≤ sizeLine; decide), fun q1 e1 => ?_⟩
  exact q _ _ _ _ (made (oA.sx.trans (oB.sx.trans (oC.sx.trans oE.sx))) oE.g e1 (rs rw_ (rs oE.r (rs (oA.later (oB.sx.trans (oC.sx.trans oE.sx))) (rs (oB.later (oC.sx.trans oE.sx)) (rs (oC.later oE.sx) r0))))) (wf_rec oE.wf oA.wf oB.wf oC.wf) (by apply KM.d0; with_reducible repeat' first | apply KM.q0i | apply KM.q0s | apply KM.q0 | apply KM.q4 | apply KM.q3 | apply KM.q2 | apply KM.q1 | omega) (by simp only [knots, knotsL]; omega) (by omega) (by omega))
theorem sc_law_term : FnScope ["_law_script", "_law_tape", "_law_deep", "_law_near", "_law_pool_here", "_law_way"] ["_law_script", "_law_tape", "_law_deep", "_law_near", "_law_pool_here"] (defScope s_law_term) := ⟨rfl, rfl, rfl, by decide +kernel, rfl, by decide +kernel, by decide +kernel⟩
theorem st_law_term {n : Nat} (D : Df K mg "_law_term" s_law_term ["_law_script", "_law_tape", "_law_deep", "_law_near", "_law_pool_here"]) (M : Mg mg t) (F_law_draw : Cal P w K mg CX0 "_law_draw" (1) ["_law_script", "_law_tape", "_law_many"] (spDraw K)) (F_law_leaf : Cal P w K mg CX0 "_law_leaf" (131) ["_law_script", "_law_tape", "_law_near", "_law_pool_here"] (spLeaf K)) (F_law_parted : Cal P w K mg CX0 "_law_parted" (3 * n + 134) ["_law_script", "_law_tape", "_law_deep", "_law_near", "_law_pool_here", "_law_way"] (spWay K n (2 * n + 4) (2 + 12 * p5 n) (2 + 5 * cst n))) (F_law_still : Cal P w K mg CX0 "_law_still" (3 * n + 134) ["_law_script", "_law_tape", "_law_deep", "_law_near", "_law_pool_here", "_law_way"] (spWay K n (2 * n + 4) (1 + 12 * p5 n) (1 + 4 * cst n))) : Cal P w K mg CX0 "_law_term" (3 * n + 135) ["_law_script", "_law_tape", "_law_deep", "_law_near", "_law_pool_here"] (spGen K false (n + 1)) := by
  refine D.ok sc_law_term (fun vs H Q E h => ?_) (fun base f cdv A outer s H vs Q E hr h => ?_)
  · obtain ⟨a, p, c, ns, i, deep, near, rfl, _⟩ := h
    rfl
  obtain ⟨a, p, c, ns, i, deep, near, rfl, g, hi, d0, d1, hn, n0, n1, q⟩ := h
  have i0 := g.T.i0
  have e := cst_succ n
  have c10 := cst_ge n
  have e5 := p5_succ n
  have p1 := p5_ge n
  rw [e] at hi q
  rw [e5] at q
  refine ⟨_, (pss_cons (ps_set (i := 5) sc_law_term.nd rfl (by first | exact Or.inl rfl | exact Or.inr rfl) (pe_fn F_law_draw (hr.mono (by omega)) rfl pass0 (pa_cons (pv 0) (pa_cons (pv 1) (pa_cons pe_int pa_nil)))))
      (pss_cons (ps_if (L2.PW.pt (pw_or (pt_cmpR op_lt (pv 2) pe_int (nomark _)) (pw_or1 (pt_cmpR op_lt (pv 5) pe_int (nomark _))))) (pss_one (ps_ret (pe_fn F_law_leaf (hr.mono (by omega)) rfl pass0 (pa_cons (pv 0) (pa_cons (pv 1) (pa_cons (pv 3) (pa_cons (pv 4) pa_nil))))))) pss_nil)
      (pss_cons (ps_if (pt_cmpR op_lt (pv 5) pe_int (nomark _)) (pss_one (ps_ret (pe_fn F_law_parted (hr.mono (by omega)) rfl pass0 (pa_cons (pv 0) (pa_cons (pv 1) (pa_cons (pv 2) (pa_cons (pv 3) (pa_cons (pv 4) (pa_cons (pe_op op_sub (pv 5) pe_int) pa_nil))))))))) pss_nil)
      (pss_one (ps_ret (pe_fn F_law_still (hr.mono (by omega)) rfl pass0 (pa_cons (pv 0) (pa_cons (pv 1) (pa_cons (pv 2) (pa_cons (pv 3) (pa_cons (pv 4) (pa_cons (pe_op op_sub (pv 5) pe_int) pa_nil)))))))))))), ?_⟩
  try dsimp only [cxK, cxK2]
  refine let4 ?_
  intro _ _ _ _
  refine ⟨_, rfl, _, rfl, a, p, ns, i, 17, rfl, g.T, (by omega), (by decide), fun way H1 w0 w1 x1 h1 => ?_⟩
  have g1 := g.next x1 h1 (by omega)
  refine ⟨_, rfl, _, _, rfl, rfl, _, rfl, ?_⟩
  refine ite2 (fun cd => ?_) (fun cd => ?_)
  · exact iteT ⟨_, rfl, _, rfl, _, rfl, _, rfl, a, p, c, ns, i + 1, near, rfl, g1, (by omega), n0, (by omega), fun d v H' i' o => q _ _ _ _ ((o.after (co1 := 1) x1 (by omega) (by omega)).weak (by omega) (by omega) (by omega))⟩
  refine ⟨_, rfl, _, _, rfl, rfl, _, rfl, ?_⟩
  refine ite2 (fun cw => ?_) (fun cw => ?_)
  · exact ⟨_, rfl, _, rfl, _, rfl, _, rfl, a, p, c, ns, i + 1, near, rfl, g1, (by omega), n0, (by omega), fun d v H' i' o => q _ _ _ _ ((o.after (co1 := 1) x1 (by omega) (by omega)).weak (by omega) (by omega) (by omega))⟩
  have cd : ¬ deep < 1 := of_decide_eq_false (Bool.eq_false_iff.mpr cd)
  refine ⟨_, rfl, _, _, rfl, rfl, _, rfl, ?_⟩
  refine ite2 (fun cw2 => ?_) (fun cw2 => ?_)
  · exact ⟨_, rfl, _, rfl, _, rfl, _, rfl, _, rfl, _, rfl, _, _, rfl, rfl, a, p, c, ns, i + 1, deep, near, way - 3, rfl, g1, (by omega), (by omega), (by omega), (by omega), n0, (by omega), fun d v H' i' o => q _ _ _ _ ((o.after (co1 := 1) x1 (by omega) (by omega)).weak (by omega) (by omega) (by omega))⟩
  · exact ⟨_, rfl, _, rfl, _, rfl, _, rfl, _, rfl, _, rfl, _, _, rfl, rfl, a, p, c, ns, i + 1, deep, near, way - 7, rfl, g1, (by omega), (by omega), (by omega), (by omega), n0, (by omega), fun d v H' i' o => q _ _ _ _ ((o.after (co1 := 1) x1 (by omega) (by omega)).weak (by omega) (by omega) (by omega))⟩
theorem c_gen (Dk : Df K mg "_law_kind" s_law_kind ["_law_script", "_law_tape", "_law_deep", "_law_near", "_law_pool_here"]) (Dt : Df K mg "_law_term" s_law_term ["_law_script", "_law_tape", "_law_deep", "_law_near", "_law_pool_here"]) (Df_ : Df K mg "_law_fun" s_law_fun ["_law_script", "_law_tape", "_law_deep", "_law_near", "_law_pool_here"]) (Dp : Df K mg "_law_pair" s_law_pair ["_law_script", "_law_tape", "_law_deep", "_law_near", "_law_pool_here"]) (Dl : Df K mg "_law_like" s_law_like ["_law_script", "_law_tape", "_law_deep", "_law_near", "_law_pool_here"]) (Dn : Df K mg "_law_number" s_law_number ["_law_script", "_law_tape", "_law_deep", "_law_near", "_law_pool_here"]) (Da : Df K mg "_law_parted" s_law_parted ["_law_script", "_law_tape", "_law_deep", "_law_near", "_law_pool_here", "_law_way"]) (Ds : Df K mg "_law_still" s_law_still ["_law_script", "_law_tape", "_law_deep", "_law_near", "_law_pool_here", "_law_way"]) (M : Mg mg t) (F_law_draw : Cal P w K mg CX0 "_law_draw" (1) ["_law_script", "_law_tape", "_law_many"] (spDraw K)) (F_law_leaf : Cal P w K mg CX0 "_law_leaf" (131) ["_law_script", "_law_tape", "_law_near", "_law_pool_here"] (spLeaf K)) :
    ∀ n : Nat, (Cal P w K mg CX0 "_law_kind" (3 * n + 132) ["_law_script", "_law_tape", "_law_deep", "_law_near", "_law_pool_here"] (spGen K true n)) ∧ (Cal P w K mg CX0 "_law_term" (3 * n + 132) ["_law_script", "_law_tape", "_law_deep", "_law_near", "_law_pool_here"] (spGen K false n))
  | 0 => ⟨Cal.never Dk fun vs H Q E ⟨a, p, c, ns, i, deep, near, _, _, _, h1, h2, _⟩ => by omega, Cal.never Dt fun vs H Q E ⟨a, p, c, ns, i, deep, near, _, _, _, h1, h2, _⟩ => by omega⟩
  | n + 1 => by
    obtain ⟨hk, ht⟩ := c_gen Dk Dt Df_ Dp Dl Dn Da Ds M F_law_draw F_law_leaf n
    have f1 := c_law_fun Df_ M hk ht
    have f2 := c_law_pair Dp M hk ht
    have f3 := c_law_like Dl M hk ht
    have f4 := c_law_number Dn M F_law_draw ht
    have f5 := c_law_parted Da M F_law_draw hk ht f1 f2 f3 f4
    have f6 := c_law_still Ds M F_law_draw hk ht f1 f2 f3
    exact ⟨(st_law_kind Dk M F_law_draw hk ht).mono (by omega), (st_law_term Dt M F_law_draw F_law_leaf f5 f6).mono (by omega)⟩
end K22
end
section
set_option maxHeartbeats 1000000
namespace K22
open PySem L2 L3 KM
seal L2.PE L2.PS L2.PSs L2.PT L2.PW L2.PA L2.PG L2.PGs L2.PI L2.PC L2.PO L2.PPs L2.PK L3.PIf
variable {P : Program} {w : World} {K : PySem.W.Frag} {mg : Str → Option Value} {base : Heap} {t : Adr}
theorem sizeLine_eq : sizeLine = 16777216 := by decide
def okH (d : D) : Prop := d = .non ∨ d = .tup [] ∨ ∃ x, d = .str x
mutual
def okD : D → Prop
  | .tup [] => True
  | .tup (h :: ps) => okH h ∧ okL ps ∧ ps.length ≤ 20
  | _ => True
def okL : List D → Prop
  | [] => True
  | p :: ps => okD p ∧ okL ps
end
theorem okL_get : ∀ {ps : List D} {i : Nat} {p : D}, okL ps → ps[i]? = some p → okD p
  | [], _, _, _, e => by simp at e
  | p :: ps, 0, _, h, e => by simp at e; subst e; exact h.1
  | p :: ps, i + 1, _, h, e => okL_get h.2 (by simpa using e)
mutual
theorem wf_ok : ∀ {k : Bool} {d : D}, wfG isStrD k d = true → okD d
  | k, .tup (.str x :: ps), h => by
    obtain ⟨s, e1, e2, e3, e4, e5, _⟩ := wf_shape h
    refine ⟨.inr (.inr ⟨x, rfl⟩), wf_okL e3, ?_⟩
    have : s.cps.toList.length = s.cps.size := by simp
    omega
  | k, .tup [], h => by simp [wfG] at h
  | k, .tup (.non :: _), h => by simp [wfG] at h
  | k, .tup (.bl _ :: _), h => by simp [wfG] at h
  | k, .tup (.int _ :: _), h => by simp [wfG] at h
  | k, .tup (.tup _ :: _), h => by simp [wfG] at h
  | k, .non, h => by simp [wfG] at h
  | k, .bl _, h => by simp [wfG] at h
  | k, .int _, h => by simp [wfG] at h
  | k, .str _, h => by simp [wfG] at h
theorem wf_okL : ∀ {cs : List Nat} {ps : List D}, wfL isStrD cs ps = true → okL ps
  | [], [], _ => trivial
  | [], _ :: _, h => by simp [wfL] at h
  | _ :: _, [], h => by simp [wfL] at h
  | c :: cs, p :: ps, h => by
    rw [wfL_cons, Bool.and_eq_true] at h
    refine ⟨?_, wf_okL h.2⟩
    have h := h.1
    unfold dueB at h
    by_cases c1 : c = 107
    · rw [if_pos c1] at h; exact wf_ok h
    · rw [if_neg c1] at h
      by_cases c2 : c = 116
      · rw [if_pos c2] at h; exact wf_ok h
      · rw [if_neg c2] at h
        cases p <;> first | trivial | (simp [numD, isStrD] at h; done)
end
theorem ok_len : ∀ {ds : List D}, okD (.tup ds) → ds.length ≤ 21
  | [], _ => by simp
  | _ :: ps, h => by have := h.2.2; simp; omega
theorem okL_mem : ∀ {ps : List D} {p : D}, okL ps → p ∈ ps → okD p
  | [], _, _, e => by simp at e
  | q :: ps, p, h, e => by
    rcases List.mem_cons.mp e with rfl | e
    · exact h.1
    · exact okL_mem h.2 e
theorem ok_tk : ∀ {d : D}, okD d → ∀ x ∈ tk d, okD x
  | .tup [], _, x, hx => by simp [tk] at hx
  | .tup (h :: ps), ok, x, hx => by
    have hm : x ∈ h :: ps := (List.mem_filter.mp hx).1
    rcases List.mem_cons.mp hm with rfl | hm
    · rcases ok.1 with rfl | rfl | ⟨y, rfl⟩ <;> simp [okD]
    · exact okL_mem ok.2.1 hm
  | .non, _, x, hx => by simp [tk] at hx
  | .bl _, _, x, hx => by simp [tk] at hx
  | .int _, _, x, hx => by simp [tk] at hx
  | .str _, _, x, hx => by simp [tk] at hx
theorem ok_lv : ∀ (n : Nat) (l : List D), (∀ x ∈ l, okD x) → ∀ x ∈ lv n l, okD x
  | 0, _, h => h
  | n + 1, l, h => ok_lv n _ fun x hx => by
    obtain ⟨d, hd, hx⟩ := List.mem_flatMap.mp hx
    exact ok_tk (h d hd) x hx
def vastD (d : D) : Bool := !(decide (knots d ≤ 600) && decide (depth d ≤ 40))
def spVast : Sp := fun vs H Q _ => ∃ ds v, vs = [v] ∧ Rep H (.tup ds) v ∧ okD (.tup ds) ∧ knots (.tup ds) ≤ 8000000 ∧ ∀ H', Same H H' → Q (.bl (vastD (.tup ds))) H'
def pickT (ds : List D) (vs : List V) (j : Nat) : Option V := if isTup ((ds[j]?).getD .non) then vs[j]? else none
theorem reps_pick {H : Hp} : ∀ {ds : List D} {vs : List V}, Reps H ds vs → Reps H (ds.filter isTup) ((List.range vs.length).filterMap (pickT ds vs))
  | [], _, r => by
    have r : _ = [] := r
    subst r
    exact rfl
  | d :: ds, _, ⟨v, vr, e, q, t⟩ => by
    subst e
    have ih := reps_pick t
    rw [List.length_cons, List.range_succ_eq_map, List.filterMap_cons, List.filterMap_map]
    have e : (pickT (d :: ds) (v :: vr) ∘ Nat.succ) = pickT ds vr := by
      funext j
      simp [pickT]
    rw [e]
    by_cases hd : isTup d = true
    · rw [List.filter_cons_of_pos hd]
      have e0 : pickT (d :: ds) (v :: vr) 0 = some v := by simp [pickT, hd]
      simp only [e0]
      exact ⟨v, _, rfl, q, ih⟩
    · rw [List.filter_cons_of_neg hd]
      have e0 : pickT (d :: ds) (v :: vr) 0 = none := by simp [pickT, hd]
      simp only [e0]
      exact ih
theorem tups_one (ds : List D) : ∀ x ∈ [D.tup ds], isTup x = true := fun x hx => by
  rw [List.mem_singleton.mp hx]; rfl
theorem knots_one (ds : List D) : knotsL [D.tup ds] = knots (.tup ds) := by simp [knotsL]
theorem depth_one (ds : List D) : depthL [D.tup ds] = depth (.tup ds) := by simp [depthL]
theorem lv_len (i : Nat) (ds : List D) : (lv i [D.tup ds]).length ≤ knots (.tup ds) := by
  have h := upto_knots (i + 1) [D.tup ds] (tups_one ds)
  rw [knots_one] at h
  simp only [upto] at h
  omega
theorem flat_take_len (l : List D) (j : Nat) : ((l.take j).flatMap tk).length ≤ (l.flatMap tk).length := by
  have e : l.flatMap tk = (l.take j).flatMap tk ++ (l.drop j).flatMap tk := by rw [← List.flatMap_append, List.take_append_drop]
  rw [e, List.length_append]
  omega
theorem flat_len {L : Nat} : ∀ (l : List D), (∀ d ∈ l, (tk d).length ≤ L) → (l.flatMap tk).length ≤ l.length * L
  | [], _ => by simp
  | d :: l, h => by
    rw [List.flatMap_cons, List.length_append, List.length_cons, Nat.add_mul, Nat.one_mul]
    have := flat_len l fun x hx => h x (List.mem_cons_of_mem _ hx)
    have := h d List.mem_cons_self
    omega
theorem tk_len {d : D} (h : okD d) : (tk d).length ≤ 21 := by
  cases d with
  | tup es => exact Nat.le_trans (List.length_filter_le _ _) (ok_len h)
  | _ => simp [tk]
theorem vast_yes {ds : List D} {i : Nat} (h : 600 < upto i [D.tup ds]) : vastD (.tup ds) = true := by
  have := upto_knots i [D.tup ds] (tups_one ds)
  rw [knots_one] at this
  unfold vastD
  rw [decide_eq_false (by omega)]
  rfl
theorem vast_end {ds : List D} (h : upto 40 [D.tup ds] ≤ 600) : vastD (.tup ds) = decide (0 < (lv 40 [D.tup ds]).length) := by
  have e := small_iff [D.tup ds] (tups_one ds)
  rw [knots_one, depth_one] at e
  unfold vastD
  by_cases hz : lv 40 [D.tup ds] = []
  · obtain ⟨a, b⟩ := e.mp ⟨h, hz⟩
    rw [decide_eq_true a, decide_eq_true b, hz]
    rfl
  · have : ¬ (knots (.tup ds) ≤ 600 ∧ depth (.tup ds) ≤ 40) := fun z => hz (e.mpr z).2
    have hl : 0 < (lv 40 [D.tup ds]).length := List.length_pos_iff.mpr hz
    rw [decide_eq_true hl]
    by_cases a : knots (.tup ds) ≤ 600
    · rw [decide_eq_false fun b => this ⟨a, b⟩, Bool.and_false]; rfl
    · rw [decide_eq_false a]; rfl
theorem sc_is_vast : FnScope ["value", "level", "knots", "depth", "below", "knot"] ["value"] (defScope s_is_vast) := ⟨rfl, rfl, rfl, by decide +kernel, rfl, by decide +kernel, by decide +kernel⟩
theorem c_is_vast (D : Df K mg "is_vast" s_is_vast ["value"]) (M : Mg mg t) : Cal P w K mg CX0 "is_vast" (1) ["value"] spVast := by
  refine D.ok sc_is_vast (fun vs H Q E h => ?_) (fun base f cdv A outer s H vs Q E hr h => ?_)
  · obtain ⟨d, v, rfl, _⟩ := h
    rfl
  obtain ⟨ds, v, rfl, r, ok, hk, q⟩ := h
  refine ⟨_, (pss_cons (ps_set (i := 1) sc_is_vast.nd rfl (by first | exact Or.inl rfl | exact Or.inr rfl) (pe_lst (pa_cons (pv 0) pa_nil)))
      (pss_cons (ps_set (i := 2) sc_is_vast.nd rfl (by first | exact Or.inl rfl | exact Or.inr rfl) pe_int)
      (pss_cons (ps_for PassesOwn.never rfl (pi_range1 rfl M.n_range (pa_cons (pe_gint M.g_MOST_DEEP rfl) pa_nil)) (pg_name (i := 3) sc_is_vast.nd rfl (by first | exact Or.inl rfl | exact Or.inr rfl)) (pss_cons (ps_aug (i := 2) sc_is_vast.nd rfl (by first | exact Or.inl rfl | exact Or.inr rfl) (pe_callB call_len_seq rfl M.n_len bt_len (pa_cons (pv 1) pa_nil)) ip_add)
      (pss_cons (ps_if (pt_cmpR op_gt (pv 2) (pe_gint M.g_MOST_KNOTS rfl) (nomark _)) (pss_one (ps_ret pe_bl)) pss_nil)
      (pss_cons (ps_set (i := 4) sc_is_vast.nd rfl (by first | exact Or.inl rfl | exact Or.inr rfl) (pe_lst pa_nil))
      (pss_cons (ps_for PassesOwn.never rfl (pi_list (pv 1)) (pg_name (i := 5) sc_is_vast.nd rfl (by first | exact Or.inl rfl | exact Or.inr rfl)) (pss_one (ps_expr (pe_bm PySem.F.plainAttrs_list PySem.F.slot_list_extend PySem.F.type_list_extend mt_extend (pv 4) (pa_cons (pe_comp (N' := ["part"]) (own := 1) (fr := []) rfl (blk_of (N := ["value", "level", "knots", "depth", "below", "knot"]) (sc := defScope s_is_vast) rfl rfl rfl (by decide +kernel)) (pi_tup (pv 5)) (own_name (by decide)) (fun _ _ _ => (pg_name (i := 0) (show List.Nodup (["part"] : List Str) by decide +kernel) rfl (Or.inl rfl))) (fun _ _ _ => (pif_one (pt_val (pe_callB (call_isinstK (K := K)) rfl M.n_isinstance bt_isinstance (pa_cons (pv 0) (pa_cons (pe_ty M.n_tuple bt_tuple rfl) pa_nil)))))) (fun _ _ _ => (pv 0))) pa_nil)))))
      (pss_one (ps_set (i := 1) sc_is_vast.nd rfl (by first | exact Or.inl rfl | exact Or.inr rfl) (pv 4))))))))
      (pss_one (ps_ret (pe_cmpR op_gt (pe_callB call_len_seq rfl M.n_len bt_len (pa_cons (pv 1) pa_nil)) pe_int (nomark _))))))), ?_⟩
  try dsimp only [cxK, cxK2]
  refine let4 ?_
  intro _ _ _ _
  refine ⟨_, rfl, (by show 1 ≤ sizeLine; decide), fun q1 hq1 => ?_⟩
  have e1 : (upd H q1 (.lst [v])) q1 = some (.lst [v]) := upd_same
  have s1 : Same H (upd H q1 (.lst [v])) := same_new hq1 _
  refine ⟨40, rfl, by decide, by decide, for_range (n := 40) (fun i σ' H' => ∃ (q : Addr) (us : List V) (k3 k4 k5 : Option V), σ' = [some v, some (.ref q), some (.int (upto i [KM.D.tup ds])), k3, k4, k5] ∧ H' q = some (.lst us) ∧
    Reps H' (lv i [KM.D.tup ds]) us ∧ upto i [KM.D.tup ds] ≤ 600 ∧ Same H H') ?_ ?_ ?_⟩
  · exact ⟨q1, [v], none, none, none, rfl, e1, Reps.one (r.mono s1), by simp [upto], s1⟩
  · rintro i σ' H2 hi ⟨q2, us, k3, k4, k5, rfl, hq2, rp, hup, s2⟩
    have lus := rp.length
    have lvl := lv_len i ds
    refine ⟨_, rfl, _, rfl, q2, us, rfl, .inl (SqL.of hq2), _, _, rfl, rfl, ?_⟩
    have eu : ((upto i [KM.D.tup ds] : Nat) : Int) + ((us.length : Nat) : Int) = ((upto (i + 1) [KM.D.tup ds] : Nat) : Int) := by
      simp only [upto]
      omega
    show tSeq _ _ _ [some v, some (.ref q2), some (.int (((upto i [KM.D.tup ds] : Nat) : Int) + ((us.length : Nat) : Int))), some (.int (0 + (i : Int))), k4, k5] H2
    rw [eu]
    refine ⟨_, rfl, _, _, rfl, rfl, _, rfl, ?_⟩
    refine ite2 (fun c => ?_) (fun c => ?_)
    · have c : (600 : Int) < ((upto (i + 1) [KM.D.tup ds] : Nat) : Int) := of_decide_eq_true c
      have e := vast_yes (ds := ds) (i := i + 1) (by omega)
      rw [e] at q
      exact q H2 s2
    have c : ¬ (600 : Int) < ((upto (i + 1) [KM.D.tup ds] : Nat) : Int) := of_decide_eq_false (Bool.eq_false_iff.mpr c)
    refine ⟨by show 0 ≤ sizeLine; decide, fun q4 hq4 => ?_⟩
    have e4 : (upd H2 q4 (.lst [])) q4 = some (.lst []) := upd_same
    have s4 : Same H2 (upd H2 q4 (.lst [])) := same_new hq4 _
    refine ⟨_, rfl, q2, rfl, ⟨us, SqL.of (s4 _ _ hq2)⟩, for_list (xs := us) (fun j σ' H' => ∃ (bs : List V) (k5 : Option V), σ' = [some v, some (.ref q2), some (.int (upto (i + 1) [KM.D.tup ds])), some (.int (0 + (i : Int))), some (.ref q4), k5] ∧
      H' q4 = some (.lst bs) ∧ Reps H' (((lv i [KM.D.tup ds]).take j).flatMap tk) bs ∧ Same H2 H') ?_ ?_ ?_ ?_⟩
    · exact ⟨[], k5, rfl, e4, by simp [Reps], s4⟩
    · rintro j σ' H' _ ⟨bs, k5, rfl, h4, rb, s'⟩
      exact SqL.of (s' _ _ hq2)
    · rintro j u σ' H5 hu ⟨bs, k5, rfl, h4, rb, s5⟩
      obtain ⟨d, hd, rd⟩ := rp.get' hu
      have htd := lv_tups i [KM.D.tup ds] (tups_one ds) d (List.mem_of_getElem? hd)
      obtain ⟨es, rfl⟩ : ∃ es, d = .tup es := by
        cases d <;> first | exact ⟨_, rfl⟩ | cases htd
      obtain ⟨a, ws, rfl, ha, rw'⟩ := rd.mono s5
      have hsz : ws.length ≤ sizeLine := by
        have h1 := rw'.length
        have h2 := ok_len (ok_lv i [KM.D.tup ds] (fun x hx => by rw [List.mem_singleton.mp hx]; exact ok) _ (List.mem_of_getElem? hd))
        rw [sizeLine_eq]
        omega
      refine ⟨_, rfl, .inl ⟨rfl, _, SqL.of h4⟩, _, rfl, a, rfl, ⟨ws, SqT.of ha⟩, fun p hp => comp_opt ws.length (pickT es ws) hp hsz (fun k H6 hk6 s6 => ?_) fun H6 s6 h6 => ?_⟩
      · obtain ⟨wk, hwk⟩ : ∃ x, ws[k]? = some x := ⟨_, List.getElem?_eq_getElem hk6⟩
        have hqa : SqT K H6 a ws := SqT.of (s6 _ _ ha)
        refine ⟨⟨ws, wk, hqa, hwk⟩, ?_⟩
        rintro x' H7 ⟨rfl, hy⟩ R R0 hR hR0
        have hx := hy ws hqa
        rw [hwk] at hx
        cases hx
        obtain ⟨dk, hdk, rk⟩ := rw'.get' hwk
        refine ⟨_, rfl, _, _, _, _, rfl, (Rep.mono s6 rk).ty, kit_tup _ dk, _, rfl, ?_⟩
        refine ite2 (fun c => ?_) (fun c => ?_)
        · exact ⟨_, rfl, hR wk H7 (by simp [pickT, hdk, c, hwk]) (Same.refl _)⟩
        · exact hR0 H7 (by simp [pickT, hdk, c]) (Same.refl _)
      · have lb := rb.length
        have h4' := s6 _ _ h4
        have n4 : q4 ≠ p := ne_of_none h4 hp
        have hl : (lv i [KM.D.tup ds]).take (j + 1) = (lv i [KM.D.tup ds]).take j ++ [KM.D.tup es] := by rw [List.take_add_one, hd]; rfl
        have hfl : ((lv i [KM.D.tup ds]).take (j + 1)).flatMap tk = ((lv i [KM.D.tup ds]).take j).flatMap tk ++ es.filter isTup := by rw [hl, List.flatMap_append]; simp [tk]
        have rpk := reps_pick (rw'.mono s6)
        have lpk := rpk.length
        have lfl := flat_take_len (lv i [KM.D.tup ds]) (j + 1)
        rw [← lv_succ, hfl, List.length_append] at lfl
        have lv1 : (lv (i + 1) [KM.D.tup ds]).length ≤ 600 * 21 := by
          rw [lv_succ]
          refine Nat.le_trans (flat_len _ fun x hx => tk_len (ok_lv i [KM.D.tup ds] (fun x hx => by rw [List.mem_singleton.mp hx]; exact ok) x hx)) (Nat.mul_le_mul_right _ ?_)
          simp only [upto] at c
          omega
        have np : ∀ vs, H6 q4 ≠ some (.tup vs) := fun vs z => by rw [h4'] at z; cases z
        refine ⟨⟨ws, SqT.of (s6 _ _ ha), Nat.le_refl _⟩, q4, p, _, _, rfl, rfl, h4', h6, ?_, ?_⟩
        · rw [lb, lpk, sizeLine_eq]
          omega
        · refine ⟨_, _, rfl, upd_same, ?_, fun b o hb => ?_⟩
          · rw [hfl]
            exact Reps.monoX (SameX.upd _) np ((rb.mono s6).append rpk)
          · rw [upd_ne (ne_of_none hb hq4)]
            exact s6 _ _ (s5 _ _ hb)
    · rintro σ' H5 ⟨bs, k5, rfl, h4, rb, s5⟩
      rw [List.take_of_length_le (by omega), ← lv_succ] at rb
      refine ⟨_, rfl, q4, bs, _, _, _, rfl, h4, rb, by omega, s2.trans s5⟩
  · rintro σ' H2 ⟨q2, us, k3, k4, k5, rfl, hq2, rp, hup, s2⟩
    refine ⟨_, rfl, q2, us, rfl, .inl (SqL.of hq2), _, _, rfl, rfl, ?_⟩
    have e : decide ((0 : Int) < ((us.length : Nat) : Int)) = vastD (.tup ds) := by
      rw [vast_end hup, rp.length]
      simp
    show Q (.bl (decide ((0 : Int) < ((us.length : Nat) : Int)))) H2
    rw [e]
    exact q H2 s2
end K22
end
section
set_option maxHeartbeats 1000000
namespace K22
open PySem L2 L3 KM PyProof.Rows
seal L2.PE L2.PS L2.PSs L2.PT L2.PW L2.PA L2.PG L2.PGs L2.PI L2.PC L2.PO L2.PPs L2.PK L3.PIf
variable {P : Program} {w : World} {K : PySem.W.Frag} {mg : Str → Option Value} {base : Heap} {t : Adr}
theorem leaf_flat {k : Bool} {x : Str} {ps : List D} (h : wfG isStrD k (.tup (.str x :: ps)) = true) (hx : leafW x = true) : ∀ (i : Nat) (p : D), ps[i]? = some p → isTup p = false ∧ (numD p = true ∨ isStrD p = true) := by
  obtain ⟨s, h1, h2, h3, h4, h5, h6, h7, _⟩ := wf_shape h
  have hc : ∀ (cs : List Nat) (qs : List D) (i : Nat), wfL isStrD cs qs = true → (∀ c ∈ cs, ktB c = !leafW x) → ∀ p, qs[i]? = some p → isTup p = false ∧ (numD p = true ∨ isStrD p = true) := fun cs => by
    induction cs with
    | nil =>
      intro qs i hq _ p e
      cases qs with
      | nil => simp at e
      | cons _ _ => simp [wfL] at hq
    | cons c cs ih =>
      intro qs i hq hk p e
      cases qs with
      | nil => simp [wfL] at hq
      | cons q qs =>
        rw [wfL_cons, Bool.and_eq_true] at hq
        cases i with
        | zero =>
          simp at e
          subst e
          have hkc := hk c List.mem_cons_self
          rw [hx] at hkc
          have hq1 := hq.1
          unfold dueB at hq1
          rw [if_neg (fun z => by rw [z, kt1] at hkc; cases hkc), if_neg (fun z => by rw [z, kt2] at hkc; cases hkc)] at hq1
          split at hq1
          · exact ⟨by cases q <;> simp [numD] at hq1 <;> rfl, .inl hq1⟩
          · exact ⟨by cases q <;> simp [isStrD] at hq1 <;> rfl, .inr hq1⟩
        | succ i => exact ih qs i hq.2 (fun c hc => hk c (List.mem_cons_of_mem _ hc)) p (by simpa using e)
  exact fun i p e => hc _ ps i h3 h6 p e
theorem flat_zero : ∀ (ps : List D), (∀ (i : Nat) (p : D), ps[i]? = some p → isTup p = false) → knotsL ps = 0 ∧ depthL ps = 0
  | [], _ => ⟨rfl, rfl⟩
  | p :: ps, h => by
    obtain ⟨h1, h2⟩ := flat_zero ps fun i q e => h (i + 1) q (by simpa using e)
    have h0 := h 0 p rfl
    have e1 : knots p = 0 := by cases p <;> first | rfl | simp [isTup] at h0
    have e2 : depth p = 0 := by cases p <;> first | rfl | simp [isTup] at h0
    simp [knotsL, depthL, h1, h2, e1, e2]
theorem knotsL_sum : ∀ ps : List D, knotsL ps = (ps.map knots).sum
  | [] => rfl
  | p :: ps => by simp [knotsL, knotsL_sum ps]
theorem depthL_max : ∀ ps : List D, depthL ps = maxN (ps.map depth)
  | [] => rfl
  | p :: ps => by rw [depthL, depthL_max ps]; rfl
theorem knots_kids {k : Bool} {x : Str} {ps : List D} (h : wfG isStrD k (.tup (.str x :: ps)) = true) : knots (.tup (.str x :: ps)) = 1 + ((kidsD x ps).map knots).sum ∧ depth (.tup (.str x :: ps)) = 1 + maxN ((kidsD x ps).map depth) := by
  rw [← knotsL_sum, ← depthL_max]
  have e1 : knots (.tup (.str x :: ps)) = 1 + knotsL ps := by simp [knots, knotsL]
  have e2 : depth (.tup (.str x :: ps)) = 1 + depthL ps := by simp [depth, depthL]
  rw [e1, e2]
  unfold kidsD
  by_cases hx : leafW x = true
  · obtain ⟨z1, z2⟩ := flat_zero ps fun i p e => (leaf_flat h hx i p e).1
    rw [if_pos hx, z1, z2]
    exact ⟨rfl, rfl⟩
  · rw [if_neg hx]
    exact ⟨rfl, rfl⟩
structure Rz (d : D) (n : Nat) : Prop where
  wf : Wf d
  dp : depth d < n
  kn : knots d ≤ 8000000
theorem Rz.kid {n : Nat} {x : Str} {ps : List D} {i : Nat} {p : D} (h : Rz (.tup (.str x :: ps)) (n + 1)) (e : (kidsD x ps)[i]? = some p) : Rz p n := by
  obtain ⟨k, wf⟩ := h.wf
  obtain ⟨w1, w2⟩ := wf_kid wf e
  have hd := h.dp
  have hk := h.kn
  refine ⟨w1, by omega, ?_⟩
  rw [(knots_kids wf).1] at hk
  have := get_le_sum ((kidsD x ps).map knots) i
  rw [List.getElem?_map, e] at this
  have : knots p ≤ ((kidsD x ps).map knots).sum := this
  omega
end K22
end
section
set_option maxHeartbeats 2000000
namespace K22
open PySem L2 L3 KM PyProof.Rows
seal L2.PE L2.PS L2.PSs L2.PT L2.PW L2.PA L2.PG L2.PGs L2.PI L2.PC L2.PO L2.PPs L2.PK L3.PIf
variable {P : Program} {w : World} {K : PySem.W.Frag} {mg : Str → Option Value} {base : Heap} {t : Adr}
theorem leaf_in (x : Str) : inV (.str x) ((["var", "name"] : List Str).map V.str) = leafW x := by
  rw [inV_strs]
  unfold leafW
  rw [Bool.eq_iff_iff]
  simp
theorem sc_law_kids : FnScope ["_law_thing_here"] ["_law_thing_here"] (defScope s_law_kids) := ⟨rfl, rfl, rfl, by decide +kernel, rfl, by decide +kernel, by decide +kernel⟩
theorem c_law_kids (D : Df K mg "_law_kids" s_law_kids ["_law_thing_here"]) (M : Mg mg t) : Cal P w K mg CX0 "_law_kids" (1) ["_law_thing_here"] spKids := by
  refine D.ok sc_law_kids (fun vs H Q E h => ?_) (fun base f cdv A outer s H vs Q E hr h => ?_)
  · obtain ⟨x, ps, v, rfl, _⟩ := h
    rfl
  obtain ⟨x, ps, v, rfl, r, hl, q⟩ := h
  obtain ⟨a, us, rfl, ha, v0, us, rfl, ⟨rfl, hx⟩, rp⟩ := r
  have hlu := rp.length
  have ea : atI (V.str x :: us) 0 = some (.str x) := atI_nat (j := 0) rfl
  refine ⟨_, (pss_cons (ps_if (pt_cmpR op_in_seq (pe_ix ix_tup (pv 0) pe_int (fun _ _ => rfl)) (pe_tup (pa_cons pe_str (pa_cons pe_str pa_nil))) rfl) (pss_one (ps_ret (pe_lst pa_nil))) pss_nil)
      (pss_one (ps_ret (pe_callTy call_list_of rfl M.n_list bt_list (pa_cons (pe_slice sl_tupW (pv 0) (po_some pe_int) po_none) pa_nil))))), ?_⟩
  try dsimp only [cxK, cxK2]
  refine let2 ?_
  intro _ _
  refine ⟨_, rfl, a, _, _, _, rfl, rfl, SqT.of ha, ea, (by show 2 ≤ sizeLine; decide), fun p1 hp1 => ⟨p1, (["var", "name"] : List Str).map V.str, rfl, .inr (SqT.of upd_same), rfl, rfl, _, rfl, ?_⟩⟩
  have s1 := same_new hp1 (.tup [V.str "var", .str "name"])
  show if (inV (.str x) ((["var", "name"] : List Str).map V.str)) = true then _ else _
  rw [leaf_in]
  generalize upd H p1 (.tup [V.str "var", .str "name"]) = H1 at s1 ⊢
  refine ite2 (fun c => ?_) (fun c => ?_)
  · exact ⟨Nat.zero_le _, fun p hp => q p [] _ (s1.free hp) (s1.trans (same_new hp _)) upd_same (by unfold kidsD; rw [if_pos c]; exact rfl)⟩
  have nk : kidsD x ps = ps := by unfold kidsD; rw [if_neg c]
  rw [nk] at q
  have ec : cutV (V.str x :: us) (some 1) none = us := by
    have := cutV_from (V.str x :: us) 1
    simpa using this
  have h1 := s1 _ _ ha
  refine ⟨_, rfl, _, rfl, a, _, rfl, SqT.of h1, fun p hp => ?_, fun z => ?_⟩
  · rw [ec]
    refine ⟨p, us, rfl, .inr (SqT.of upd_same), fun l hl => ?_⟩
    have s2 := s1.trans ((same_new hp (.tup us)).trans (same_new hl (.lst us)))
    exact q l us _ (s1.free ((same_new hp _).free hl)) s2 upd_same (rp.mono s2)
  · rw [ec] at z
    exact absurd (congrArg List.length z) (by simp)
theorem maxN_snoc : ∀ (l : List Nat) (a : Nat), maxN (l ++ [a]) = max (maxN l) a
  | [], a => by show max a 0 = max 0 a; omega
  | b :: l, a => by
    show max b (maxN (l ++ [a])) = max (max b (maxN l)) a
    rw [maxN_snoc l a]
    omega
def spMeas (n : Nat) : Sp := fun vs H Q _ => ∃ (d : D) (v : V), vs = [v] ∧ Rep H d v ∧ Rz d n ∧ ∀ (q : Addr) (c : Int) (H' : Hp), Same H H' → -1 ≤ c → c ≤ 99 → H' q = some (.tup [.int (knots d : Nat), .int (depth d : Nat), .int c]) → Q (.ref q) H'
theorem sc_law_measured : FnScope ["_law_thing_here", "_law_knots", "_law_deep", "_law_most", "_law_kid", "_law_told"] ["_law_thing_here"] (defScope s_law_measured) := ⟨rfl, rfl, rfl, by decide +kernel, rfl, by decide +kernel, by decide +kernel⟩
theorem st_law_measured {n : Nat} (D : Df K mg "_law_measured" s_law_measured ["_law_thing_here"]) (M : Mg mg t) (F_law_kids : Cal P w K mg CX0 "_law_kids" (1) ["_law_thing_here"] spKids) (F_law_measured : Cal P w K mg CX0 "_law_measured" (n + 131) ["_law_thing_here"] (spMeas n)) : Cal P w K mg CX0 "_law_measured" (n + 132) ["_law_thing_here"] (spMeas (n + 1)) := by
  refine D.ok sc_law_measured (fun vs H Q E h => ?_) (fun base f cdv A outer s H vs Q E hr h => ?_)
  · obtain ⟨d, v, rfl, _⟩ := h
    rfl
  obtain ⟨d, v, rfl, r, rz, q⟩ := h
  have hh := hr.hd (by omega)
  obtain ⟨x, ps, k, rfl, wf, hps⟩ := wf_ps rz.wf
  have hk4 := kids4 wf
  obtain ⟨a, us0, rfl, ha, v0, us0, rfl, ⟨rfl, hx⟩, rp⟩ := id r
  have ea : atI (V.str x :: us0) 0 = some (.str x) := atI_nat (j := 0) rfl
  refine ⟨_, (pss_cons (ps_set (i := 1) sc_law_measured.nd rfl (by first | exact Or.inl rfl | exact Or.inr rfl) pe_int)
      (pss_cons (ps_set (i := 2) sc_law_measured.nd rfl (by first | exact Or.inl rfl | exact Or.inr rfl) pe_int)
      (pss_cons (ps_set (i := 3) sc_law_measured.nd rfl (by first | exact Or.inl rfl | exact Or.inr rfl) (pe_un un_neg pe_int))
      (pss_cut (ps_if (pt_cmpR op_eq (pe_ix ix_tup (pv 0) pe_int (fun _ _ => rfl)) pe_str (nomark _)) (pss_one (ps_set (i := 3) sc_law_measured.nd rfl (by first | exact Or.inl rfl | exact Or.inr rfl) (pe_ix ix_tup (pv 0) pe_int (fun _ _ => rfl)))) pss_nil)
      (pss_cons (ps_for PassesOwn.never rfl (pi_list (pe_fn F_law_kids (hr.mono (by omega)) rfl pass0 (pa_cons (pv 0) pa_nil))) (pg_name (i := 4) sc_law_measured.nd rfl (by first | exact Or.inl rfl | exact Or.inr rfl)) (pss_cons (ps_set (i := 5) sc_law_measured.nd rfl (by first | exact Or.inl rfl | exact Or.inr rfl) (pe_fn F_law_measured (hr.mono (by omega)) rfl pass0 (pa_cons (pv 4) pa_nil)))
      (pss_cons (ps_set (i := 1) sc_law_measured.nd rfl (by first | exact Or.inl rfl | exact Or.inr rfl) (pe_op op_add (pv 1) (pe_ix ix_tup (pv 5) pe_int (fun _ _ => rfl))))
      (pss_cons (ps_set (i := 2) sc_law_measured.nd rfl (by first | exact Or.inl rfl | exact Or.inr rfl) (pe_callB (call_max2 hh) rfl M.n_max bt_max (pa_cons (pv 2) (pa_cons (pe_ix ix_tup (pv 5) pe_int (fun _ _ => rfl)) pa_nil))))
      (pss_one (ps_set (i := 3) sc_law_measured.nd rfl (by first | exact Or.inl rfl | exact Or.inr rfl) (pe_callB (call_max2 hh) rfl M.n_max bt_max (pa_cons (pv 3) (pa_cons (pe_ix ix_tup (pv 5) pe_int (fun _ _ => rfl)) pa_nil)))))))))
      (pss_one (ps_ret (pe_tup (pa_cons (pv 1) (pa_cons (pe_op op_add (pv 2) pe_int) (pa_cons (pv 3) pa_nil))))))))))), ?_⟩
  try dsimp only [cxK, cxK2]
  refine let4 ?_
  intro _ _ _ _
  refine ⟨_, rfl, fun σ' H' => ∃ c : Int, σ' = [some (.ref a), some (.int 1), some (.int 0), some (.int c), none, none] ∧ -1 ≤ c ∧ c ≤ 99 ∧ H' = H, ?_, ?_⟩
  · refine ⟨_, rfl, a, _, _, _, rfl, rfl, SqT.of ha, ea, rfl, _, rfl, ?_⟩
    refine ite2 (fun c => ?_) (fun c => ⟨-1, rfl, by decide, by decide, rfl⟩)
    have c : V.str x = V.str "var" := of_decide_eq_true c
    cases c
    obtain ⟨sh, e1, _, e3, _, e5, _⟩ := wf_shape wf
    rw [shape_var] at e1
    cases e1
    rw [len_n] at e3 e5
    obtain ⟨p0, rfl⟩ : ∃ p0, ps = [p0] := by
      cases ps with
      | nil => simp at e5
      | cons p0 rest => cases rest with
        | nil => exact ⟨p0, rfl⟩
        | cons _ _ => simp at e5
    rw [wfL_cons, Bool.and_eq_true] at e3
    have hn : numD p0 = true := by simpa [dueB] using e3.1
    obtain ⟨i, rfl⟩ : ∃ i, p0 = .int i := by cases p0 <;> first | exact ⟨_, rfl⟩ | simp [numD] at hn
    obtain ⟨u1, us1, rfl, r1, _⟩ := rp
    cases (show u1 = V.int i from r1)
    have hi : 0 ≤ i ∧ i ≤ 99 := by simp [numD] at hn; exact hn
    exact ⟨_, rfl, a, _, _, .int i, rfl, rfl, SqT.of ha, atI_nat (j := 1) rfl, i, rfl, by omega, by omega, rfl⟩
  rintro σ' H0 ⟨c, rfl, c0, c1, rfl⟩
  refine ⟨_, rfl, x, ps, _, rfl, r, hps, fun p1 us H1 _ s1 h1 r1 => ⟨p1, rfl, ⟨us, SqL.of h1⟩, ?_⟩⟩
  have l1 := r1.length
  have hkn := knots_kids wf
  let Ifr : Nat → L2.St → Hp → Prop := (fun j σ' H' => ∃ (c : Int) (kv tv : Option V), σ' = [some (.ref a), some (.int ((1 + (((kidsD x ps).take j).map knots).sum : Nat) : Int)), some (.int (maxN (((kidsD x ps).take j).map depth) : Nat)), some (.int c), kv, tv] ∧ -1 ≤ c ∧ c ≤ 99 ∧ Same H1 H')
  refine for_by us.length Ifr ?_ ?_ ?_
  · exact ⟨c, none, none, rfl, c0, c1, Same.refl _⟩
  · rintro j σ' H2 hj ⟨c, kv, tv, rfl, c0, c1, s2⟩
    obtain ⟨dj, hdj⟩ : ∃ dj, (kidsD x ps)[j]? = some dj := ⟨_, List.getElem?_eq_getElem (by omega)⟩
    obtain ⟨uj, huj, ruj⟩ := r1.get hdj
    refine ⟨⟨us, uj, SqL.of (s2 _ _ h1), huj⟩, ?_⟩
    rintro x' H3 ⟨rfl, hy⟩
    have hy := hy us (SqL.of (s2 _ _ h1))
    rw [huj] at hy
    cases hy
    refine ⟨_, rfl, dj, uj, rfl, ruj.mono s2, rz.kid hdj, fun q3 c3 H4 s4 b0 b1 h4 => ?_⟩
    have hT := SqT.of (K := K) h4
    refine ⟨_, rfl, _, rfl, q3, _, _, _, rfl, rfl, hT, atI_nat (j := 0) rfl, _, _, rfl, rfl, ?_⟩
    refine ⟨_, rfl, _, rfl, q3, _, _, _, rfl, rfl, hT, atI_nat (j := 1) rfl, _, _, rfl, ?_⟩
    refine ⟨_, rfl, _, rfl, q3, _, _, _, rfl, rfl, hT, atI_nat (j := 2) rfl, _, _, rfl, ?_⟩
    refine ⟨if c3 > c then c3 else c, some uj, some (.ref q3), ?_, ?_, ?_, s2.trans s4⟩
    rotate_left
    · show -1 ≤ (if c3 > c then c3 else c)
      split <;> omega
    · show (if c3 > c then c3 else c) ≤ 99
      split <;> omega
    · rw [take_snoc hdj, List.map_append, List.map_append, List.sum_append, List.map_singleton, List.map_singleton, maxN_snoc, List.sum_singleton]
      have e1 : ((1 + (((kidsD x ps).take j).map knots).sum : Nat) : Int) + ((knots dj : Nat) : Int) = ((1 + ((((kidsD x ps).take j).map knots).sum + knots dj) : Nat) : Int) := by omega
      have e2 : (if ((depth dj : Nat) : Int) > ((maxN (((kidsD x ps).take j).map depth) : Nat) : Int) then ((depth dj : Nat) : Int) else ((maxN (((kidsD x ps).take j).map depth) : Nat) : Int)) = ((max (maxN (((kidsD x ps).take j).map depth)) (depth dj) : Nat) : Int) := by
        split <;> omega
      rw [← e1, ← e2]
      rfl
  · rintro σ' H2 ⟨c, kv, tv, rfl, c0, c1, s2⟩
    refine ⟨⟨us, SqL.of (s2 _ _ h1), Nat.le_refl _⟩, ?_⟩
    refine ⟨_, rfl, _, rfl, _, _, rfl, rfl, _, rfl, (by show 3 ≤ sizeLine; decide), fun q4 hq4 => ?_⟩
    refine q q4 c _ (s1.trans (s2.trans (same_new hq4 _))) c0 c1 ?_
    rw [hkn.1, hkn.2]
    rw [l1, List.take_length]
    have e2 : ((maxN ((kidsD x ps).map depth) : Nat) : Int) + 1 = ((1 + maxN ((kidsD x ps).map depth) : Nat) : Int) := by omega
    rw [← e2]
    exact upd_same
theorem c_law_measured (D : Df K mg "_law_measured" s_law_measured ["_law_thing_here"]) (M : Mg mg t) (F_law_kids : Cal P w K mg CX0 "_law_kids" (1) ["_law_thing_here"] spKids) : ∀ n : Nat, Cal P w K mg CX0 "_law_measured" (n + 131) ["_law_thing_here"] (spMeas n)
  | 0 => Cal.never D fun vs H Q E ⟨d, v, _, _, h, _⟩ => absurd h.dp (Nat.not_lt_zero _)
  | n + 1 => st_law_measured D M F_law_kids (c_law_measured D M F_law_kids n)
def spGreat (n : Nat) : Sp := fun vs H Q _ => ∃ (d : D) (v : V), vs = [v] ∧ Rep H d v ∧ Rz d n ∧ ∀ H', Same H H' → Q (.bl (vastD d)) H'
theorem sc_law_great : FnScope ["_law_thing_here", "_law_told"] ["_law_thing_here"] (defScope s_law_great) := ⟨rfl, rfl, rfl, by decide +kernel, rfl, by decide +kernel, by decide +kernel⟩
theorem c_law_great {n : Nat} (D : Df K mg "_law_great" s_law_great ["_law_thing_here"]) (M : Mg mg t) (F_law_measured : Cal P w K mg CX0 "_law_measured" (n + 131) ["_law_thing_here"] (spMeas n)) : Cal P w K mg CX0 "_law_great" (n + 132) ["_law_thing_here"] (spGreat n) := by
  refine D.ok sc_law_great (fun vs H Q E h => ?_) (fun base f cdv A outer s H vs Q E hr h => ?_)
  · obtain ⟨d, v, rfl, _⟩ := h
    rfl
  obtain ⟨d, v, rfl, r, rz, q⟩ := h
  refine ⟨_, (pss_cons (ps_set (i := 1) sc_law_great.nd rfl (by first | exact Or.inl rfl | exact Or.inr rfl) (pe_fn F_law_measured (hr.mono (by omega)) rfl pass0 (pa_cons (pv 0) pa_nil)))
      (pss_one (ps_ret (pe_or (pe_cmpR op_gt (pe_ix ix_tup (pv 1) pe_int (fun _ _ => rfl)) pe_int (nomark _)) (pe_or (pe_cmpR op_gt (pe_ix ix_tup (pv 1) pe_int (fun _ _ => rfl)) pe_int (nomark _)) (pe_one (pe_cmpR op_gt (pe_ix ix_tup (pv 1) pe_int (fun _ _ => rfl)) pe_int (nomark _)))))))), ?_⟩
  try dsimp only [cxK, cxK2]
  refine let2 ?_
  intro _ _
  refine ⟨_, rfl, d, v, rfl, r, rz, fun q3 c3 H1 s1 b0 b1 h1 => ?_⟩
  have hT := SqT.of (K := K) h1
  refine ⟨_, rfl, q3, _, _, _, rfl, rfl, hT, atI_nat (j := 0) rfl, _, _, rfl, rfl, _, rfl, ?_⟩
  have qq := q H1 s1
  refine ite2 (fun c => ?_) (fun c => ?_)
  · have c : (600 : Int) < ((knots d : Nat) : Int) := of_decide_eq_true c
    have e : vastD d = true := by unfold vastD; simp; omega
    rw [e] at qq
    exact qq
  have c : ¬ (600 : Int) < ((knots d : Nat) : Int) := of_decide_eq_false (Bool.eq_false_iff.mpr c)
  refine ⟨_, rfl, q3, _, _, _, rfl, rfl, hT, atI_nat (j := 1) rfl, _, _, rfl, rfl, _, rfl, ?_⟩
  refine ite2 (fun c2 => ?_) (fun c2 => ?_)
  · have c2 : (40 : Int) < ((depth d : Nat) : Int) := of_decide_eq_true c2
    have e : vastD d = true := by unfold vastD; simp; omega
    rw [e] at qq
    exact qq
  have c2 : ¬ (40 : Int) < ((depth d : Nat) : Int) := of_decide_eq_false (Bool.eq_false_iff.mpr c2)
  have e : vastD d = false := by unfold vastD; simp; omega
  rw [e] at qq
  refine ⟨_, rfl, q3, _, _, _, rfl, rfl, hT, atI_nat (j := 2) rfl, _, _, rfl, rfl, ?_⟩
  have e2 : decide ((99 : Int) < c3) = false := decide_eq_false (by omega)
  show Q (.bl (decide ((99 : Int) < c3))) H1
  rw [e2]
  exact qq
def spThing (K : PySem.W.Frag) : Sp := fun vs H Q _ => ∃ (a p c : Addr) (ns : List Int) (i deep near : Int), vs = [.ref a, .ref p, .int deep, .int near, .ref c] ∧ Sg K a p c ns H i ∧ i < 2 ^ 50 ∧ 1 ≤ deep ∧ deep ≤ 5 ∧ 0 ≤ near ∧ near ≤ 90 ∧
  ∀ (k : Bool) (d : D) (v : V) (H' : Hp) (i' : Int), Ou K a p c ns H i k 16 300000 1000000000 d v H' i' → Q v H'
theorem sc_law_thing : FnScope ["_law_script", "_law_tape", "_law_deep", "_law_near", "_law_pool_here", "_law_made"] ["_law_script", "_law_tape", "_law_deep", "_law_near", "_law_pool_here"] (defScope s_law_thing) := ⟨rfl, rfl, rfl, by decide +kernel, rfl, by decide +kernel, by decide +kernel⟩
theorem c_law_thing (D : Df K mg "_law_thing" s_law_thing ["_law_script", "_law_tape", "_law_deep", "_law_near", "_law_pool_here"]) (M : Mg mg t) (F_law_draw : Cal P w K mg CX0 "_law_draw" (1) ["_law_script", "_law_tape", "_law_many"] (spDraw K)) (F_law_kind : Cal P w K mg CX0 "_law_kind" (153) ["_law_script", "_law_tape", "_law_deep", "_law_near", "_law_pool_here"] (spGen K true 7)) (F_law_term : Cal P w K mg CX0 "_law_term" (153) ["_law_script", "_law_tape", "_law_deep", "_law_near", "_law_pool_here"] (spGen K false 7)) (F_law_great : Cal P w K mg CX0 "_law_great" (152) ["_law_thing_here"] (spGreat 20)) : Cal P w K mg CX0 "_law_thing" (154) ["_law_script", "_law_tape", "_law_deep", "_law_near", "_law_pool_here"] (spThing K) := by
  refine D.ok sc_law_thing (fun vs H Q E h => ?_) (fun base f cdv A outer s H vs Q E hr h => ?_)
  · obtain ⟨a, p, c, ns, i, deep, near, rfl, _⟩ := h
    rfl
  obtain ⟨a, p, c, ns, i, deep, near, rfl, g, hi, d0, d1, n0, n1, q⟩ := h
  have i0 := g.T.i0
  have ec : cst 7 = 100000000 := by decide
  have e5 : p5 7 = 78125 := by decide
  refine ⟨_, (pss_cut (ps_if (pt_cmpR op_eq (pe_fn F_law_draw (hr.mono (by omega)) rfl pass0 (pa_cons (pv 0) (pa_cons (pv 1) (pa_cons pe_int pa_nil)))) pe_int (nomark _)) (pss_one (ps_set (i := 5) sc_law_thing.nd rfl (by first | exact Or.inl rfl | exact Or.inr rfl) (pe_fn F_law_kind (hr.mono (by omega)) rfl pass0 (pa_cons (pv 0) (pa_cons (pv 1) (pa_cons (pv 2) (pa_cons (pv 3) (pa_cons (pv 4) pa_nil)))))))) (pss_one (ps_set (i := 5) sc_law_thing.nd rfl (by first | exact Or.inl rfl | exact Or.inr rfl) (pe_fn F_law_term (hr.mono (by omega)) rfl pass0 (pa_cons (pv 0) (pa_cons (pv 1) (pa_cons (pv 2) (pa_cons (pv 3) (pa_cons (pv 4) pa_nil)))))))))
      (pss_cons (ps_if (pt_val (pe_fn F_law_great (hr.mono (by omega)) rfl pass0 (pa_cons (pv 5) pa_nil))) (pss_one (ps_ret (pe_tup (pa_cons pe_str pa_nil)))) pss_nil)
      (pss_one (ps_ret (pv 5))))), ?_⟩
  try dsimp only [cxK, cxK2]
  refine ⟨fun σ' H' => ∃ (k : Bool) (d : KM.D) (v : V) (i' : Int), σ' = [some (.ref a), some (.ref p), some (.int deep), some (.int near), some (.ref c), some v] ∧ Ou K a p c ns H i k 16 300000 1000000000 d v H' i', ?_, ?_⟩
  · refine ⟨_, rfl, _, rfl, a, p, ns, i, 5, rfl, g.T, (by omega), (by decide), fun way H1 w0 w1 x1 h1 => ⟨rfl, _, rfl, ?_⟩⟩
    have g1 := g.next x1 h1 (by omega)
    refine ite2 (fun _ => ?_) (fun _ => ?_)
    · exact ⟨_, rfl, _, rfl, _, rfl, _, rfl, _, rfl, a, p, c, ns, i + 1, deep, near, rfl, g1, (by omega), (by omega), (by omega), (by decide), n0, (by omega), fun d v H' i' o => ⟨true, d, v, i', rfl, (o.after (co1 := 1) x1 (by omega) (by omega)).weak (by decide) (by omega) (by omega)⟩⟩
    · exact ⟨_, rfl, _, rfl, _, rfl, _, rfl, _, rfl, a, p, c, ns, i + 1, deep, near, rfl, g1, (by omega), (by omega), (by omega), (by decide), n0, (by omega), fun d v H' i' o => ⟨false, d, v, i', rfl, (o.after (co1 := 1) x1 (by omega) (by omega)).weak (by decide) (by omega) (by omega)⟩⟩
  rintro σ' H1 ⟨k, d, v, i', rfl, o⟩
  have odp := o.dp
  have okn := o.kn
  refine ⟨_, rfl, d, v, rfl, o.r, ⟨⟨k, o.wf⟩, by omega, by omega⟩, fun H2 s2 => ⟨_, rfl, ?_⟩⟩
  refine ite2 (fun _ => ?_) (fun _ => ?_)
  · refine ⟨(by show 1 ≤ sizeLine; decide), fun q1 e1 => ?_⟩
    exact q false _ _ _ _ (made (o.sx.trans s2.x) (o.g.mono s2) e1 (rs rw_ r0) wf_zero (by apply KM.d0; with_reducible repeat' first | apply KM.q0i | apply KM.q0s | apply KM.q0 | apply KM.q4 | apply KM.q3 | apply KM.q2 | apply KM.q1 | omega) (by simp only [knots, knotsL]; omega) o.lo o.hi)
  · exact ⟨_, rfl, q k d v H2 i' ⟨o.r.mono s2, o.wf, o.dp, o.kn, o.sx.trans s2.x, o.g.mono s2, o.lo, o.hi⟩⟩
end K22
end
section
set_option maxHeartbeats 2000000
namespace K22
open PySem L2 L3 KM PyProof.Rows
seal L2.PE L2.PS L2.PSs L2.PT L2.PW L2.PA L2.PG L2.PGs L2.PI L2.PC L2.PO L2.PPs L2.PK L3.PIf
variable {P : Program} {w : World} {K : PySem.W.Frag} {mg : Str → Option Value} {base : Heap} {t : Adr}
def BkV (H : Hp) (v : V) : Prop := ∃ (q : Addr) (dk dt : D) (vk vt : V), v = .ref q ∧ H q = some (.tup [vk, vt]) ∧ Rep H dk vk ∧ wfG isStrD true dk = true ∧ Rep H dt vt ∧ wfG isStrD false dt = true ∧ depth dk ≤ 16 ∧ depth dt ≤ 16 ∧ knots dk ≤ 300000 ∧ knots dt ≤ 300000
structure Bk (H : Hp) (kvs : List (Key × V)) : Prop where
  len : kvs.length ≤ 1000
  each : ∀ k v, (k, v) ∈ kvs → BkV H v
theorem BkV.sx {H H' : Hp} {p : Addr} {v : V} (h : BkV H v) (s : SameX p H H') (hp : ∀ vs, H p ≠ some (.tup vs)) : BkV H' v := by
  obtain ⟨q, dk, dt, vk, vt, e, hq, r1, w1, r2, w2, b⟩ := h
  exact ⟨q, dk, dt, vk, vt, e, s _ _ (fun z => by subst z; exact hp _ hq) hq, r1.monoX s hp, w1, r2.monoX s hp, w2, b⟩
theorem Bk.sx {H H' : Hp} {p : Addr} {kvs : List (Key × V)} (h : Bk H kvs) (s : SameX p H H') (hp : ∀ vs, H p ≠ some (.tup vs)) : Bk H' kvs := ⟨h.len, fun k v m => (h.each k v m).sx s hp⟩
theorem BkV.mono {H H' : Hp} {v : V} (h : BkV H v) (s : Same H H') : BkV H' v := by
  obtain ⟨q, dk, dt, vk, vt, e, hq, r1, w1, r2, w2, b⟩ := h
  exact ⟨q, dk, dt, vk, vt, e, s _ _ hq, r1.mono s, w1, r2.mono s, w2, b⟩
theorem Bk.mono {H H' : Hp} {kvs : List (Key × V)} (h : Bk H kvs) (s : Same H H') : Bk H' kvs := ⟨h.len, fun k v m => (h.each k v m).mono s⟩
theorem put_mem {kvs : List (Key × V)} {k k' : Key} {v v' : V} (h : (k', v') ∈ putK kvs k v) : (k', v') ∈ kvs ∨ v' = v := by
  unfold putK at h
  split at h
  · obtain ⟨⟨a, b⟩, m, e⟩ := List.mem_map.mp h
    simp only at e
    split at e
    · cases e
      exact .inr rfl
    · cases e
      exact .inl m
  · rcases List.mem_append.mp h with m | m
    · exact .inl m
    · have := List.mem_singleton.mp m
      cases this
      exact .inr rfl
theorem put_len {kvs : List (Key × V)} {k : Key} {v : V} : (putK kvs k v).length ≤ kvs.length + 1 := by
  unfold putK
  split
  · rw [List.length_map]; omega
  · rw [List.length_append, List.length_singleton]
    exact Nat.le_refl _
theorem not_tup_list {H : Hp} {p : Addr} {xs : List V} (h : H p = some (.lst xs)) : ∀ vs, H p ≠ some (.tup vs) := fun vs z => by rw [h] at z; cases z
theorem not_tup_dict {H : Hp} {p : Addr} {xs : List (Key × V)} (h : H p = some (.dK xs)) : ∀ vs, H p ≠ some (.tup vs) := fun vs z => by rw [h] at z; cases z
def spBook (K : PySem.W.Frag) : Sp := fun vs H Q _ => ∃ (a p c : Addr) (ns : List Int) (i : Int), vs = [.ref a, .ref p, .ref c] ∧ Sg K a p c ns H i ∧ i < 2 ^ 50 ∧
  ∀ (b : Addr) (kvs : List (Key × V)) (H' : Hp) (i' : Int), H b = none → H' b = some (.dK kvs) → kvs.length ≤ 3 → Bk H' kvs → SameX p H H' → Sg K a p c ns H' i' → i ≤ i' → i' ≤ i + 10000000000 → Q (.ref b) H'
theorem sc_law_book : FnScope ["_law_script", "_law_tape", "_law_pool_here", "_law_book_here", "_law_k", "_law_kind_here"] ["_law_script", "_law_tape", "_law_pool_here"] (defScope s_law_book) := ⟨rfl, rfl, rfl, by decide +kernel, rfl, by decide +kernel, by decide +kernel⟩
theorem c_law_book (D : Df K mg "_law_book" s_law_book ["_law_script", "_law_tape", "_law_pool_here"]) (M : Mg mg t) (F_law_draw : Cal P w K mg CX0 "_law_draw" (1) ["_law_script", "_law_tape", "_law_many"] (spDraw K)) (F_law_kind : Cal P w K mg CX0 "_law_kind" (153) ["_law_script", "_law_tape", "_law_deep", "_law_near", "_law_pool_here"] (spGen K true 7)) (F_law_term : Cal P w K mg CX0 "_law_term" (153) ["_law_script", "_law_tape", "_law_deep", "_law_near", "_law_pool_here"] (spGen K false 7)) : Cal P w K mg CX0 "_law_book" (154) ["_law_script", "_law_tape", "_law_pool_here"] (spBook K) := by
  refine D.ok sc_law_book (fun vs H Q E h => ?_) (fun base f cdv A outer s H vs Q E hr h => ?_)
  · obtain ⟨a, p, c, ns, i, rfl, _⟩ := h
    rfl
  obtain ⟨a, p, c, ns, i, rfl, g, hi, q⟩ := h
  have i0 := g.T.i0
  have hu := hu_of hr
  have ec : cst 7 = 100000000 := by decide
  have e5 : p5 7 = 78125 := by decide
  refine ⟨_, (pss_cons (ps_set (i := 3) sc_law_book.nd rfl (by first | exact Or.inl rfl | exact Or.inr rfl) pe_dnewK)
      (pss_cons (ps_for PassesOwn.never rfl (pi_range1 rfl M.n_range (pa_cons (pe_fn F_law_draw (hr.mono (by omega)) rfl pass0 (pa_cons (pv 0) (pa_cons (pv 1) (pa_cons pe_int pa_nil)))) pa_nil)) (pg_name (i := 4) sc_law_book.nd rfl (by first | exact Or.inl rfl | exact Or.inr rfl)) (pss_cons (ps_set (i := 5) sc_law_book.nd rfl (by first | exact Or.inl rfl | exact Or.inr rfl) (pe_fn F_law_kind (hr.mono (by omega)) rfl pass0 (pa_cons (pv 0) (pa_cons (pv 1) (pa_cons pe_int (pa_cons pe_int (pa_cons (pv 2) pa_nil)))))))
      (pss_one (ps_dput hu (pv 3) (pe_ix ix_list (pv 2) (pv 4) (fun _ _ => rfl)) (pe_tup (pa_cons (pv 5) (pa_cons (pe_fn F_law_term (hr.mono (by omega)) rfl pass0 (pa_cons (pv 0) (pa_cons (pv 1) (pa_cons pe_int (pa_cons pe_int (pa_cons (pv 2) pa_nil)))))) pa_nil))) rfl))))
      (pss_one (ps_ret (pv 3))))), ?_⟩
  try dsimp only [cxK, cxK2]
  refine let3 ?_
  intro _ _ _
  intro b hb
  have sb := same_new hb (.dK [])
  have hb0 : (upd H b (.dK [])) b = some (.dK []) := upd_same
  have gb := g.mono sb
  have xb : SameX p H (upd H b (.dK [])) := sb.x
  have nb : b ≠ p := fun z => by subst z; rw [g.T.tape] at hb; cases hb
  generalize upd H b (.dK []) = H0 at sb hb0 gb xb ⊢
  refine ⟨_, rfl, _, rfl, a, p, ns, i, 4, rfl, gb.T, (by omega), (by decide), fun m H1 m0 m1 x1 h1 => ⟨_, rfl, (by omega), (by omega), ?_⟩⟩
  obtain ⟨m, rfl⟩ : ∃ k : Nat, m = (k : Int) := ⟨m.toNat, by omega⟩
  have g1 := gb.next x1 h1 (by omega)
  have hb1 := x1 _ _ nb hb0
  let Ifr : Nat → L2.St → Hp → Prop := (fun k σ' H' => ∃ (kvs : List (Key × V)) (i' : Int) (kv hv : Option V), σ' = [some (.ref a), some (.ref p), some (.ref c), some (.ref b), kv, hv] ∧ H' b = some (.dK kvs) ∧ kvs.length ≤ k ∧ Bk H' kvs ∧ SameX p H H' ∧ Sg K a p c ns H' i' ∧ i ≤ i' ∧ i' ≤ i + 1 + 200000000 * (k : Int))
  refine for_by (m : Int).toNat Ifr ?_ ?_ ?_
  · exact ⟨[], i + 1, none, none, rfl, hb1, Nat.le_refl _, ⟨by simp, fun k v h => by cases h⟩, xb.trans x1, g1, by omega, by omega⟩
  · rintro k σ' H2 hk ⟨kvs, i2, kv, hv, rfl, h2, l2, B2, x2, g2, lo2, hi2⟩
    refine ⟨hk, ?_⟩
    rintro x' H2' ⟨rfl, rfl⟩
    have e0 : (0 : Int) + (k : Int) = ((k : Nat) : Int) := by omega
    rw [e0]
    refine ⟨_, rfl, _, rfl, _, rfl, a, p, c, ns, i2, 1, 0, rfl, g2, (by omega), (by decide), (by decide), (by decide), (by decide), (by decide), fun dA vA H3 i3 oA => ?_⟩
    have hA := oA.hi
    have lA := oA.lo
    refine ⟨_, rfl, _, rfl, _, rfl, _, rfl, a, p, c, ns, i3, 2, 0, rfl, oA.g, (by omega), (by decide), (by decide), (by decide), (by decide), (by decide), fun dB vB H4 i4 oB => ⟨(by show 2 ≤ sizeLine; decide), fun q1 e1 => ?_⟩⟩
    have hB := oB.hi
    have lB := oB.lo
    have t1 := same_new e1 (.tup [vA, vB])
    have x34 := oA.sx.trans oB.sx
    have g5 := oB.g.mono t1
    have h5 := t1 _ _ (x34 _ _ nb h2)
    have B5 := (B2.sx x34 (not_tup_list g2.T.tape)).mono t1
    have rA := (oA.later oB.sx).mono t1
    have rB := oB.r.mono t1
    have hq1 : (upd H4 q1 (.tup [vA, vB])) q1 = some (.tup [vA, vB]) := upd_same
    have x5 := (x2.trans x34).trans t1.x
    generalize upd H4 q1 (.tup [vA, vB]) = H5 at t1 g5 h5 B5 rA rB hq1 x5 ⊢
    obtain ⟨x, y, z, l1, l2', l3, hc⟩ := g5.pl
    obtain ⟨o, ho, hol⟩ : ∃ o : Str, atI [V.str x, .str y, .str z] ((k : Nat) : Int) = some (.str o) ∧ o.length ≤ 101 := by
      have hk3 : k = 0 ∨ k = 1 ∨ k = 2 := by omega
      rcases hk3 with rfl | rfl | rfl
      · exact ⟨x, rfl, l1⟩
      · exact ⟨y, rfl, l2'⟩
      · exact ⟨z, rfl, l3⟩
    refine ⟨_, rfl, _, rfl, _, rfl, c, _, _, _, rfl, rfl, SqL.of hc, ho, b, _, rfl, DPut.k (k := Sum.inr o) h5 (by have : kvs.length ≤ 1000 := B2.len; exact Nat.lt_of_le_of_lt this (by decide)), ?_⟩
    have xu : SameX b H5 (upd H5 b (.dK (putK kvs (Sum.inr o) (.ref q1)))) := SameX.upd _
    have dA' := oA.dp
    have dB' := oB.dp
    have kA' := oA.kn
    have kB' := oB.kn
    have bV : BkV H5 (.ref q1) := ⟨q1, dA, dB, vA, vB, rfl, hq1, rA, oA.wf, rB, oB.wf, dA', dB', by omega, by omega⟩
    have hB' : H b = none := hb
    refine ⟨putK kvs (Sum.inr o) (.ref q1), i4, _, _, rfl, upd_same, Nat.le_trans put_len (by omega), ⟨Nat.le_trans put_len (by omega), fun k' v' m' => ?_⟩, ?_, ?_, by omega, by omega⟩
    · rcases put_mem m' with m' | rfl
      · exact (B5.each k' v' m').sx xu (not_tup_dict h5)
      · exact bV.sx xu (not_tup_dict h5)
    · intro b' o' n' h'
      rw [upd_ne (ne_of_none h' hb)]
      exact x5 b' o' n' h'
    · exact g5.upd h5
  · rintro σ' H2 ⟨kvs, i2, kv, hv, rfl, h2, l2, B2, x2, g2, lo2, hi2⟩
    refine ⟨Nat.le_refl _, _, rfl, q b kvs H2 i2 hb h2 (by omega) B2 x2 g2 lo2 (by omega)⟩
end K22
end
section
set_option maxHeartbeats 2000000
namespace K22
open PySem L2 L3 KM PyProof.Rows
seal L2.PE L2.PS L2.PSs L2.PT L2.PW L2.PA L2.PG L2.PGs L2.PI L2.PC L2.PO L2.PPs L2.PK L3.PIf
variable {P : Program} {w : World} {K : PySem.W.Frag} {mg : Str → Option Value} {base : Heap} {t : Adr}
def hdD : D → Str
  | .tup (.str x :: _) => x
  | _ => ""
def nameB (inb : Str → Bool) : D → V
  | .str y => if inb y = true then .str "name" else .non
  | _ => .non
def ruleW (inb : Str → Bool) (x : Str) (ps : List D) : V :=
  if x = "name" then nameB inb ((ps[0]?).getD .non)
  else if x = "app" then (if hdD ((ps[0]?).getD .non) = "fun" then .str "fun" else .non)
  else if x = "carry" then (if hdD ((ps[2]?).getD .non) = "like" then .str "like" else .non)
  else if x = "first" then (if hdD ((ps[0]?).getD .non) = "pair" then .str "first" else .non)
  else if x = "second" then (if hdD ((ps[0]?).getD .non) = "pair" then .str "second" else .non)
  else if x = "rec" then (if hdD ((ps[3]?).getD .non) = "zero" then .str "zero" else if hdD ((ps[3]?).getD .non) = "next" then .str "next" else .non)
  else .non
def ruleD (inb : Str → Bool) : D → V
  | .tup (.str x :: ps) => ruleW inb x ps
  | _ => .non
theorem wfL_get {nm : D → Bool} : ∀ {cs : List Nat} {ps : List D} {i c : Nat}, wfL nm cs ps = true → cs[i]? = some c → ∃ p, ps[i]? = some p ∧ dueB nm c p = true
  | [], [], _, _, _, e => by simp at e
  | [], _ :: _, _, _, h, _ => by simp [wfL] at h
  | _ :: _, [], _, _, h, _ => by simp [wfL] at h
  | a :: cs, p :: ps, 0, c, h, e => by
    simp at e
    subst e
    rw [wfL_cons, Bool.and_eq_true] at h
    exact ⟨p, rfl, h.1⟩
  | a :: cs, p :: ps, i + 1, c, h, e => by
    rw [wfL_cons, Bool.and_eq_true] at h
    obtain ⟨c, h1, h2⟩ := wfL_get (i := i) h.2 (by simpa using e)
    exact ⟨c, by simpa using h1, h2⟩
theorem part_of {k : Bool} {x s : Str} {ps : List D} (h : wfG isStrD k (.tup (.str x :: ps)) = true) (hs : shapeV x = .str s) {i : Nat} (hi : s.cps.toList[i]? = some 116) : ∃ p, ps[i]? = some p ∧ wfG isStrD false p = true := by
  obtain ⟨s', e1, _, e3, _⟩ := wf_shape h
  rw [hs] at e1
  cases e1
  obtain ⟨p, h1, h2⟩ := wfL_get e3 hi
  exact ⟨p, h1, by simpa [dueB] using h2⟩
theorem hd_rep {H : Hp} {k : Bool} {p : D} {u : V} (h : wfG isStrD k p = true) (r : Rep H p u) : ∃ (c : Addr) (us : List V), u = .ref c ∧ H c = some (.tup (.str (hdD p) :: us)) := by
  obtain ⟨x, ps, rfl⟩ := wf_form h
  obtain ⟨c, vs, rfl, hc, v0, us, rfl, ⟨rfl, _⟩, _⟩ := r
  exact ⟨c, us, rfl, hc⟩
theorem part_rep {H : Hp} {k : Bool} {x s : Str} {ps : List D} {us : List V} (h : wfG isStrD k (.tup (.str x :: ps)) = true) (r : Reps H ps us) (hs : shapeV x = .str s) {i : Nat} (hi : s.cps.toList[i]? = some 116) :
    ∃ (c : Addr) (ws : List V), atI (V.str x :: us) ((i + 1 : Nat) : Int) = some (.ref c) ∧ H c = some (.tup (.str (hdD ((ps[i]?).getD .non)) :: ws)) := by
  obtain ⟨p, h1, h2⟩ := part_of h hs hi
  obtain ⟨u, hu, ru⟩ := r.get h1
  obtain ⟨c, ws, rfl, hc⟩ := hd_rep h2 ru
  refine ⟨c, ws, atI_nat (by simpa using hu), ?_⟩
  rw [h1]
  exact hc
def inB (kvs : List (Key × V)) (x : Str) : Bool := (valV kvs (Sum.inr x : Key)).isSome
def spRule : Sp := fun vs H Q _ => ∃ (d : D) (v : V) (b : Addr) (kvs : List (Key × V)), vs = [v, .ref b] ∧ Rep H d v ∧ Wf d ∧ H b = some (.dK kvs) ∧ ∀ H', Same H H' → Q (ruleD (inB kvs) d) H'
theorem name_part {k : Bool} {ps : List D} (h : wfG isStrD k (.tup (.str "name" :: ps)) = true) : ∃ y, ps = [.str y] := by
  obtain ⟨s', e1, _, e3, _⟩ := wf_shape h
  rw [shape_name] at e1
  cases e1
  rw [len_w] at e3
  match ps, e3 with
  | [], e3 => simp [wfL] at e3
  | [p], e3 =>
    rw [wfL_cons, Bool.and_eq_true] at e3
    have : isStrD p = true := by simpa [dueB] using e3.1
    cases p with
    | str y => exact ⟨y, rfl⟩
    | _ => simp [isStrD] at this
  | p :: q :: r, e3 =>
    rw [wfL_cons, Bool.and_eq_true] at e3
    have := e3.2
    simp [wfL] at this
theorem val4 (v1 v2 v3 v4 : V) (x : Str) : valV [((Sum.inr "app" : Key), v1), (Sum.inr "carry", v2), (Sum.inr "first", v3), (Sum.inr "second", v4)] (Sum.inr x : Key) = if x = "app" then some v1 else if x = "carry" then some v2 else if x = "first" then some v3 else if x = "second" then some v4 else none := by
  have inj : ∀ y : Str, (Sum.inr y : Key) = Sum.inr x ↔ x = y := fun y => ⟨fun z => by cases z; rfl, fun z => by rw [z]⟩
  by_cases h1 : x = "app"
  · rw [if_pos h1, valV_pos ((inj _).mpr h1)]
  rw [if_neg h1, valV_neg (fun z => h1 ((inj _).mp z))]
  by_cases h2 : x = "carry"
  · rw [if_pos h2, valV_pos ((inj _).mpr h2)]
  rw [if_neg h2, valV_neg (fun z => h2 ((inj _).mp z))]
  by_cases h3 : x = "first"
  · rw [if_pos h3, valV_pos ((inj _).mpr h3)]
  rw [if_neg h3, valV_neg (fun z => h3 ((inj _).mp z))]
  by_cases h4 : x = "second"
  · rw [if_pos h4, valV_pos ((inj _).mpr h4)]
  rw [if_neg h4, valV_neg (fun z => h4 ((inj _).mp z))]
  rfl
theorem merge4 (v1 v2 v3 v4 : V) : mergeK [] [((Sum.inr "app" : Key), v1), (Sum.inr "carry", v2), (Sum.inr "first", v3), (Sum.inr "second", v4)] = [((Sum.inr "app" : Key), v1), (Sum.inr "carry", v2), (Sum.inr "first", v3), (Sum.inr "second", v4)] := by
  rfl
theorem sc_law_rule : FnScope ["_law_thing_here", "_law_book_here", "_law_word", "_law_heads"] ["_law_thing_here", "_law_book_here"] (defScope s_law_rule) := ⟨rfl, rfl, rfl, by decide +kernel, rfl, by decide +kernel, by decide +kernel⟩
theorem c_law_rule (D : Df K mg "_law_rule" s_law_rule ["_law_thing_here", "_law_book_here"]) (M : Mg mg t) : Cal P w K mg CX0 "_law_rule" (1) ["_law_thing_here", "_law_book_here"] spRule := by
  refine D.ok sc_law_rule (fun vs H Q E h => ?_) (fun base f cdv A outer s H vs Q E hr h => ?_)
  · obtain ⟨d, v, b, kvs, rfl, _⟩ := h
    rfl
  obtain ⟨d, v, b, kvs, rfl, r, wf, hb, q⟩ := h
  have hu := hu_of hr
  obtain ⟨x, ps, k, rfl, wfk, hps⟩ := wf_ps wf
  obtain ⟨a, us0, rfl, ha, v0, us, rfl, ⟨rfl, hx⟩, rp⟩ := id r
  have ea : atI (V.str x :: us) 0 = some (.str x) := atI_nat (j := 0) rfl
  refine ⟨_, (pss_cons (ps_set (i := 2) sc_law_rule.nd rfl (by first | exact Or.inl rfl | exact Or.inr rfl) (pe_ix ix_tup (pv 0) pe_int (fun _ _ => rfl)))
      (pss_cons (ps_if (pt_cmpR op_eq (pv 2) pe_str (nomark _)) (pss_one (ps_ret (pe_ix ix_list (pe_lst (pa_cons pe_str (pa_cons pe_non pa_nil))) (pe_callTy call_int1 rfl M.n_int bt_int (pa_cons (pe_cmp (pc_dnotin hu (pe_ix ix_tup (pv 0) pe_int (fun _ _ => rfl)) (pv 1))) pa_nil)) (fun _ _ => rfl)))) pss_nil)
      (pss_cons (ps_set (i := 3) sc_law_rule.nd rfl (by first | exact Or.inl rfl | exact Or.inr rfl) (pe_disp (pps_cons pe_str (pe_tup (pa_cons pe_int (pa_cons pe_str pa_nil))) (pps_cons pe_str (pe_tup (pa_cons pe_int (pa_cons pe_str pa_nil))) (pps_cons pe_str (pe_tup (pa_cons pe_int (pa_cons pe_str pa_nil))) (pps_cons pe_str (pe_tup (pa_cons pe_int (pa_cons pe_str pa_nil))) pps_nil)))) rfl rfl (by simp) (by decide)))
      (pss_cut (ps_if (L2.PW.pt (pw_and (pt_cmp (pc_din hu (pv 2) (pv 3))) (pw_and1 (pt_cmpR op_eq (pe_ix ix_tup (pe_ix ix_tup (pv 0) (pe_ix ix_tup (pe_dget hu (pv 3) (pv 2) (fun _ _ => rfl)) pe_int (fun _ _ => rfl)) (fun _ _ => rfl)) pe_int (fun _ _ => rfl)) (pe_ix ix_tup (pe_dget hu (pv 3) (pv 2) (fun _ _ => rfl)) pe_int (fun _ _ => rfl)) (nomark _))))) (pss_one (ps_ret (pe_dget hu (pe_disp (pps_cons pe_str pe_str (pps_cons pe_str pe_str (pps_cons pe_str pe_str (pps_cons pe_str pe_str pps_nil)))) rfl rfl (by simp) (by decide)) (pv 2) (fun _ _ => rfl)))) pss_nil)
      (pss_cons (ps_if (L2.PW.pt (pw_and (pt_cmpR op_eq (pv 2) pe_str (nomark _)) (pw_and1 (pt_cmpR op_in_seq (pe_ix ix_tup (pe_ix ix_tup (pv 0) pe_int (fun _ _ => rfl)) pe_int (fun _ _ => rfl)) (pe_tup (pa_cons pe_str (pa_cons pe_str pa_nil))) rfl)))) (pss_one (ps_ret (pe_ix ix_tup (pe_ix ix_tup (pv 0) pe_int (fun _ _ => rfl)) pe_int (fun _ _ => rfl)))) pss_nil)
      (pss_one (ps_ret pe_non))))))), ?_⟩
  try dsimp only [cxK, cxK2]
  refine let4 ?_
  intro _ _ _ _
  refine ⟨_, rfl, a, _, _, _, rfl, rfl, SqT.of ha, ea, ?_⟩
  refine ⟨_, rfl, rfl, _, rfl, ?_⟩
  refine ite2 (fun c => ?_) (fun c => ?_)
  · have c : V.str x = V.str "name" := of_decide_eq_true c
    cases c
    obtain ⟨y, rfl⟩ := name_part wfk
    obtain ⟨u, us', rfl, ⟨rfl, _⟩, ru⟩ := rp
    cases (show us' = [] from ru)
    have eq1 : ruleD (inB kvs) (.tup [.str "name", .str y]) = if inB kvs y = true then .str "name" else .non := rfl
    rw [eq1] at q
    refine ⟨(by show 2 ≤ sizeLine; decide), fun p1 hp1 => ?_⟩
    have s1 := same_new hp1 (.lst [V.str "name", .non])
    refine ⟨_, rfl, a, _, _, .str y, rfl, rfl, SqT.of (s1 _ _ ha), atI_nat (j := 1) rfl, _, rfl, b, _, rfl, DGet.k (k := Sum.inr y) (s1 _ _ hb), .inr ⟨_, rfl, ?_⟩⟩
    have qq := q _ s1
    show rIxL _ (.ref p1) (V.int (if (!inB kvs y) = true then 1 else 0)) _ _
    cases hin : inB kvs y with
    | true =>
      rw [hin] at qq
      exact ⟨p1, _, _, .str "name", rfl, rfl, SqL.of upd_same, rfl, qq⟩
    | false =>
      rw [hin] at qq
      exact ⟨p1, _, _, .non, rfl, rfl, SqL.of upd_same, rfl, qq⟩
  have nn : x ≠ "name" := fun z => c (by rw [z]; decide +kernel)
  have two : 2 ≤ sizeLine := by decide
  intro p1 hp1
  have s1 := same_new hp1 (.dK [])
  refine ⟨two, fun q1 e1 => ⟨two, fun q2 e2 => ⟨two, fun q3 e3 => ⟨two, fun q4 e4 => ?_⟩⟩⟩⟩
  have t1 := same_new e1 (.tup [V.int 1, .str "fun"])
  have t2 := same_new e2 (.tup [V.int 3, .str "like"])
  have t3 := same_new e3 (.tup [V.int 1, .str "pair"])
  have t4 := same_new e4 (.tup [V.int 1, .str "pair"])
  have hp : (upd H p1 (.dK [])) p1 = some (.dK []) := upd_same
  refine ⟨t4 _ _ (t3 _ _ (t2 _ _ (t1 _ _ hp))), [(Sum.inr "app", .ref q1), (Sum.inr "carry", .ref q2), (Sum.inr "first", .ref q3), (Sum.inr "second", .ref q4)], rfl, (by show 4 ≤ 15; decide), ?_⟩
  rw [merge4]
  have s5 : Same H (upd (upd (upd (upd (upd (upd H p1 (.dK [])) q1 (.tup [V.int 1, .str "fun"])) q2 (.tup [V.int 3, .str "like"])) q3 (.tup [V.int 1, .str "pair"])) q4 (.tup [V.int 1, .str "pair"])) p1 (.dK [(Sum.inr "app", .ref q1), (Sum.inr "carry", .ref q2), (Sum.inr "first", .ref q3), (Sum.inr "second", .ref q4)])) := same_upd (s1.trans (t1.trans (t2.trans (t3.trans t4)))) hp1
  have n1 : q1 ≠ p1 := fun z => by rw [z, hp] at e1; cases e1
  have n2 : q2 ≠ p1 := fun z => by rw [z, t1 _ _ hp] at e2; cases e2
  have n3 : q3 ≠ p1 := fun z => by rw [z, t2 _ _ (t1 _ _ hp)] at e3; cases e3
  have n4 : q4 ≠ p1 := fun z => by rw [z, t3 _ _ (t2 _ _ (t1 _ _ hp))] at e4; cases e4
  have h5 : (upd (upd (upd (upd (upd (upd H p1 (.dK [])) q1 (.tup [V.int 1, .str "fun"])) q2 (.tup [V.int 3, .str "like"])) q3 (.tup [V.int 1, .str "pair"])) q4 (.tup [V.int 1, .str "pair"])) p1 (.dK [(Sum.inr "app", .ref q1), (Sum.inr "carry", .ref q2), (Sum.inr "first", .ref q3), (Sum.inr "second", .ref q4)])) p1 = some (.dK [(Sum.inr "app", .ref q1), (Sum.inr "carry", .ref q2), (Sum.inr "first", .ref q3), (Sum.inr "second", .ref q4)]) := upd_same
  have f1 : (upd (upd (upd (upd (upd (upd H p1 (.dK [])) q1 (.tup [V.int 1, .str "fun"])) q2 (.tup [V.int 3, .str "like"])) q3 (.tup [V.int 1, .str "pair"])) q4 (.tup [V.int 1, .str "pair"])) p1 (.dK [(Sum.inr "app", .ref q1), (Sum.inr "carry", .ref q2), (Sum.inr "first", .ref q3), (Sum.inr "second", .ref q4)])) q1 = some (.tup [V.int 1, .str "fun"]) := by rw [upd_ne n1]; exact t4 _ _ (t3 _ _ (t2 _ _ upd_same))
  have f2 : (upd (upd (upd (upd (upd (upd H p1 (.dK [])) q1 (.tup [V.int 1, .str "fun"])) q2 (.tup [V.int 3, .str "like"])) q3 (.tup [V.int 1, .str "pair"])) q4 (.tup [V.int 1, .str "pair"])) p1 (.dK [(Sum.inr "app", .ref q1), (Sum.inr "carry", .ref q2), (Sum.inr "first", .ref q3), (Sum.inr "second", .ref q4)])) q2 = some (.tup [V.int 3, .str "like"]) := by rw [upd_ne n2]; exact t4 _ _ (t3 _ _ upd_same)
  have f3 : (upd (upd (upd (upd (upd (upd H p1 (.dK [])) q1 (.tup [V.int 1, .str "fun"])) q2 (.tup [V.int 3, .str "like"])) q3 (.tup [V.int 1, .str "pair"])) q4 (.tup [V.int 1, .str "pair"])) p1 (.dK [(Sum.inr "app", .ref q1), (Sum.inr "carry", .ref q2), (Sum.inr "first", .ref q3), (Sum.inr "second", .ref q4)])) q3 = some (.tup [V.int 1, .str "pair"]) := by rw [upd_ne n3]; exact t4 _ _ upd_same
  have f4 : (upd (upd (upd (upd (upd (upd H p1 (.dK [])) q1 (.tup [V.int 1, .str "fun"])) q2 (.tup [V.int 3, .str "like"])) q3 (.tup [V.int 1, .str "pair"])) q4 (.tup [V.int 1, .str "pair"])) p1 (.dK [(Sum.inr "app", .ref q1), (Sum.inr "carry", .ref q2), (Sum.inr "first", .ref q3), (Sum.inr "second", .ref q4)])) q4 = some (.tup [V.int 1, .str "pair"]) := by rw [upd_ne n4]; exact upd_same
  generalize upd (upd (upd (upd (upd (upd H p1 (.dK [])) q1 (.tup [V.int 1, .str "fun"])) q2 (.tup [V.int 3, .str "like"])) q3 (.tup [V.int 1, .str "pair"])) q4 (.tup [V.int 1, .str "pair"])) p1 (.dK [(Sum.inr "app", .ref q1), (Sum.inr "carry", .ref q2), (Sum.inr "first", .ref q3), (Sum.inr "second", .ref q4)]) = H5 at s5 h5 f1 f2 f3 f4 ⊢
  clear t1 t2 t3 t4 s1 hp hp1 e1 e2 e3 e4
  have ha5 := s5 _ _ ha
  have rp5 := rp.mono s5
  -- one of the four
  have key : (valV [((Sum.inr "app" : Key), V.ref q1), (Sum.inr "carry", .ref q2), (Sum.inr "first", .ref q3), (Sum.inr "second", .ref q4)] (Sum.inr x : Key) = none ∧ ruleW (inB kvs) x ps = (if x = "rec" then (if hdD ((ps[3]?).getD .non) = "zero" then .str "zero" else if hdD ((ps[3]?).getD .non) = "next" then .str "next" else .non) else .non)) ∨
      ∃ (qq : Addr) (j : Nat) (y z s' : Str), valV [((Sum.inr "app" : Key), V.ref q1), (Sum.inr "carry", .ref q2), (Sum.inr "first", .ref q3), (Sum.inr "second", .ref q4)] (Sum.inr x : Key) = some (.ref qq) ∧ H5 qq = some (.tup [.int ((j + 1 : Nat) : Int), .str y]) ∧ shapeV x = .str s' ∧ s'.cps.toList[j]? = some 116 ∧
        valV [((Sum.inr "app" : Key), V.str "fun"), (Sum.inr "carry", .str "like"), (Sum.inr "first", .str "first"), (Sum.inr "second", .str "second")] (Sum.inr x : Key) = some (.str z) ∧ ruleW (inB kvs) x ps = (if hdD ((ps[j]?).getD .non) = y then .str z else .non) ∧ x ≠ "rec" := by
    rw [val4, val4]
    unfold ruleW
    rw [if_neg nn]
    by_cases h1 : x = "app"
    · subst h1
      exact .inr ⟨q1, 0, "fun", "fun", "tt", by simp, f1, by decide +kernel, by decide +kernel, by simp, by simp, by decide +kernel⟩
    by_cases h2 : x = "carry"
    · subst h2
      exact .inr ⟨q2, 2, "like", "like", "ktt", by simp [h1], f2, by decide +kernel, by decide +kernel, by simp [h1], by simp [h1], by decide +kernel⟩
    by_cases h3 : x = "first"
    · subst h3
      exact .inr ⟨q3, 0, "pair", "first", "t", by simp [h1, h2], f3, by decide +kernel, by decide +kernel, by simp [h1, h2], by simp [h1, h2], by decide +kernel⟩
    by_cases h4 : x = "second"
    · subst h4
      exact .inr ⟨q4, 0, "pair", "second", "t", by simp [h1, h2, h3], f4, by decide +kernel, by decide +kernel, by simp [h1, h2, h3], by simp [h1, h2, h3], by decide +kernel⟩
    · exact .inl ⟨by simp [h1, h2, h3, h4], by simp [h1, h2, h3, h4]⟩
  refine ⟨fun σ' H' => σ' = [some (.ref a), some (.ref b), some (.str x), some (.ref p1)] ∧ H' = H5 ∧ ruleW (inB kvs) x ps = (if x = "rec" then (if hdD ((ps[3]?).getD .non) = "zero" then .str "zero" else if hdD ((ps[3]?).getD .non) = "next" then .str "next" else .non) else .non), ?_, ?_⟩
  · refine ⟨_, rfl, _, rfl, p1, _, rfl, DGet.k (k := Sum.inr x) h5, _, rfl, ?_⟩
    rcases key with ⟨kn, kr⟩ | ⟨qq, j, y, z, s', kv, kq, ks, ki, kz, kr, kx⟩
    · rw [kn]
      exact iteF (iteF ⟨rfl, rfl, kr⟩)
    rw [kv]
    obtain ⟨c0, ws, hat, hc0⟩ := part_rep wfk rp5 ks ki
    refine iteT ⟨_, rfl, _, rfl, _, rfl, p1, _, rfl, kv ▸ DGet.k (k := Sum.inr x) h5, qq, _, _, _, rfl, rfl, SqT.of kq, atI_nat (j := 0) rfl, a, _, _, .ref c0, rfl, rfl, SqT.of ha5, hat, c0, _, _, _, rfl, rfl, SqT.of hc0, atI_nat (j := 0) rfl, _, rfl, _, rfl, p1, _, rfl, kv ▸ DGet.k (k := Sum.inr x) h5, qq, _, _, _, rfl, rfl, SqT.of kq, atI_nat (j := 1) rfl, rfl, _, rfl, ?_⟩
    refine ite2 (fun ch => ?_) (fun ch => ?_)
    · have ch : V.str (hdD ((ps[j]?).getD .non)) = V.str y := of_decide_eq_true ch
      injection ch with ch
      intro p6 hp6
      have s6 := same_new hp6 (.dK [((Sum.inr "app" : Key), V.str "fun"), (Sum.inr "carry", .str "like"), (Sum.inr "first", .str "first"), (Sum.inr "second", .str "second")])
      refine ⟨upd_same, [((Sum.inr "app" : Key), V.str "fun"), (Sum.inr "carry", .str "like"), (Sum.inr "first", .str "first"), (Sum.inr "second", .str "second")], rfl, (by show 4 ≤ 15; decide), ?_⟩
      rw [merge4, upd_upd]
      refine ⟨_, rfl, p6, .str z, rfl, kz ▸ DGet.k (k := Sum.inr x) upd_same, ?_⟩
      have qq2 := q _ (s5.trans s6)
      have er : ruleD (inB kvs) (.tup (.str x :: ps)) = .str z := by
        show ruleW (inB kvs) x ps = _
        rw [kr, if_pos ch]
      rw [er] at qq2
      exact qq2
    · have ch : ¬ hdD ((ps[j]?).getD .non) = y := fun z => ch (by rw [z]; exact decide_eq_true rfl)
      refine ⟨rfl, rfl, ?_⟩
      rw [kr, if_neg ch, if_neg kx]
  · rintro σ' H' ⟨rfl, rfl, kr⟩
    refine ⟨_, rfl, rfl, _, rfl, ?_⟩
    refine ite2 (fun cr => ?_) (fun cr => ?_)
    · have cr : V.str x = V.str "rec" := of_decide_eq_true cr
      cases cr
      rw [if_pos rfl] at kr
      obtain ⟨c0, ws, hat, hc0⟩ := part_rep (s := "kttt") (i := 3) wfk rp5 (by decide +kernel) (by decide +kernel)
      refine ⟨_, rfl, a, _, _, .ref c0, rfl, rfl, SqT.of ha5, hat, c0, _, _, _, rfl, rfl, SqT.of hc0, atI_nat (j := 0) rfl, (by show 2 ≤ sizeLine; decide), fun p6 hp6 => ⟨p6, (["zero", "next"] : List Str).map V.str, rfl, .inr (SqT.of upd_same), rfl, rfl, _, rfl, ?_⟩⟩
      have s6 := same_new hp6 (.tup [V.str "zero", .str "next"])
      show if (inV (.str (hdD ((ps[3]?).getD .non))) ((["zero", "next"] : List Str).map V.str)) = true then _ else _
      rw [inV_strs]
      have qq2 := q _ (s5.trans s6)
      have er : ruleD (inB kvs) (.tup (.str "rec" :: ps)) = _ := kr
      rw [er] at qq2
      refine ite2 (fun ci => ?_) (fun ci => ?_)
      · have ci : hdD ((ps[3]?).getD .non) ∈ (["zero", "next"] : List Str) := of_decide_eq_true ci
        refine ⟨_, rfl, a, _, _, .ref c0, rfl, rfl, SqT.of (s6 _ _ ha5), hat, c0, _, _, _, rfl, rfl, SqT.of (s6 _ _ hc0), atI_nat (j := 0) rfl, ?_⟩
        simp only [List.mem_cons, List.not_mem_nil, or_false] at ci
        rcases ci with ci | ci
        · rw [ci, if_pos rfl] at qq2
          rw [ci]
          exact qq2
        · rw [ci, if_neg (by decide +kernel), if_pos rfl] at qq2
          rw [ci]
          exact qq2
      · have ci : ¬ hdD ((ps[3]?).getD .non) ∈ (["zero", "next"] : List Str) := of_decide_eq_false (Bool.eq_false_iff.mpr ci)
        simp only [List.mem_cons, List.not_mem_nil, or_false, not_or] at ci
        rw [if_neg ci.1, if_neg ci.2] at qq2
        exact qq2
    · have cr : x ≠ "rec" := fun z => cr (by rw [z]; decide +kernel)
      rw [if_neg cr] at kr
      have qq2 := q _ s5
      have er : ruleD (inB kvs) (.tup (.str x :: ps)) = _ := kr
      rw [er] at qq2
      exact iteF qq2
end K22
end
section
set_option maxHeartbeats 2000000
namespace K22
open PySem L2 L3 KM PyProof.Rows
seal L2.PE L2.PS L2.PSs L2.PT L2.PW L2.PA L2.PG L2.PGs L2.PI L2.PC L2.PO L2.PPs L2.PK L3.PIf
variable {P : Program} {w : World} {K : PySem.W.Frag} {mg : Str → Option Value} {base : Heap} {t : Adr}
abbrev Rp := List Nat × D
mutual
def rowsD (pl : List Nat) : D → List Rp
  | .tup (.str x :: ps) => (pl, .tup (.str x :: ps)) :: (if leafW x = true then [] else rowsL pl 0 ps)
  | _ => []
def rowsL (pl : List Nat) : Nat → List D → List Rp
  | _, [] => []
  | i, d :: ds => rowsD (pl ++ [i]) d ++ rowsL pl (i + 1) ds
end
theorem rowsD_eq (pl : List Nat) (x : Str) (ps : List D) : rowsD pl (.tup (.str x :: ps)) = (pl, .tup (.str x :: ps)) :: rowsL pl 0 (kidsD x ps) := by
  rw [rowsD]
  unfold kidsD
  split
  · rw [rowsL]
  · rfl
theorem rowsL_range (pl : List Nat) : ∀ (ds : List D) (j : Nat), rowsL pl j ds = ((List.range ds.length).map fun i => ((pl ++ [j + i], (ds[i]?).getD .non) : Rp)).flatMap fun r => rowsD r.1 r.2
  | [], j => by rw [rowsL]; rfl
  | d :: ds, j => by
    rw [rowsL, rowsL_range pl ds (j + 1), List.length_cons, List.range_succ_eq_map, List.map_cons, List.flatMap_cons, List.map_map]
    congr 1
    congr 1
    apply List.map_congr_left
    intro i _
    show ((pl ++ [j + 1 + i], (ds[i]?).getD .non) : Rp) = (pl ++ [j + (i + 1)], _)
    rw [show j + 1 + i = j + (i + 1) by omega]
    rfl
theorem rev_map {α : Type} (g : Nat → α) (n : Nat) : ((List.range n).map fun t => g (n - 1 - t)).reverse = (List.range n).map g := by
  apply List.ext_getElem
  · simp
  · intro i h1 h2
    have hi : i < n := by simpa using h2
    rw [List.getElem_reverse, List.getElem_map, List.getElem_map, List.getElem_range, List.getElem_range]
    simp only [List.length_map, List.length_range]
    congr 1
    omega
mutual
theorem rowsD_len : ∀ (pl : List Nat) (d : D), (rowsD pl d).length ≤ knots d
  | pl, .tup (.str x :: ps) => by
    rw [rowsD, List.length_cons]
    have e : knots (.tup (.str x :: ps)) = 1 + knotsL ps := by simp [knots, knotsL]
    rw [e]
    split
    · simp
    · have := rowsL_len pl 0 ps
      omega
  | pl, .tup [] => by simp [rowsD]
  | pl, .tup (.non :: _) => by simp [rowsD]
  | pl, .tup (.bl _ :: _) => by simp [rowsD]
  | pl, .tup (.int _ :: _) => by simp [rowsD]
  | pl, .tup (.tup _ :: _) => by simp [rowsD]
  | pl, .non => by simp [rowsD]
  | pl, .bl _ => by simp [rowsD]
  | pl, .int _ => by simp [rowsD]
  | pl, .str _ => by simp [rowsD]
theorem rowsL_len : ∀ (pl : List Nat) (j : Nat) (ds : List D), (rowsL pl j ds).length ≤ knotsL ds
  | pl, j, [] => by simp [rowsL]
  | pl, j, d :: ds => by
    rw [rowsL, List.length_append]
    have h1 := rowsD_len (pl ++ [j]) d
    have h2 := rowsL_len pl (j + 1) ds
    have e : knotsL (d :: ds) = knots d + knotsL ds := by simp [knotsL]
    omega
end
def vD : V → D
  | .str x => .str x
  | _ => .non
def stD (r : Rp) : D := .tup [plD r.1, r.2]
def rowD (inb : Str → Bool) (r : Rp) : D := .tup [plD r.1, r.2, vD (ruleD inb r.2)]
theorem rule_rep {H : Hp} {inb : Str → Bool} {d : D} (h : Wf d) : Rep H (vD (ruleD inb d)) (ruleD inb d) := by
  obtain ⟨k, h⟩ := h
  obtain ⟨x, ps, rfl⟩ := wf_form h
  show Rep H (vD (ruleW inb x ps)) (ruleW inb x ps)
  have st : ∀ y : Str, y.length ≤ 1000 → Rep H (vD (.str y)) (.str y) := fun y hy => ⟨rfl, hy⟩
  have nn : Rep H (vD .non) .non := rfl
  unfold ruleW nameB
  repeat' split
  all_goals first | exact nn | exact st _ (by decide +kernel)
theorem reps_snoc {H : Hp} : ∀ {ds : List D} {d : D} {ws : List V}, Reps H (ds ++ [d]) ws → ∃ ws' y, ws = ws' ++ [y] ∧ Reps H ds ws' ∧ Rep H d y
  | [], d, _, ⟨v, r, e, q, t⟩ => by
    subst e
    cases (show r = [] from t)
    exact ⟨[], v, rfl, rfl, q⟩
  | a :: ds, d, _, ⟨v, r, e, q, t⟩ => by
    subst e
    obtain ⟨ws', y, rfl, h1, h2⟩ := reps_snoc t
    exact ⟨v :: ws', y, rfl, ⟨v, ws', rfl, q, h1⟩, h2⟩
def spRows : Sp := fun vs H Q _ => ∃ (d : D) (v : V) (b : Addr) (kvs : List (Key × V)), vs = [v, .ref b] ∧ Rep H d v ∧ Wf d ∧ depth d ≤ 60 ∧ knots d ≤ 1000000 ∧ H b = some (.dK kvs) ∧
  ∀ (f : Addr) (fs : List V) (H' : Hp), H f = none → Same H H' → H' f = some (.lst fs) → Reps H' ((rowsD [] d).map (rowD (inB kvs))) fs → Q (.ref f) H'
structure Wk (H H' : Hp) (d : D) (b pf pw : Addr) (inb : Str → Bool) (st fo : List Rp) (ws fs : List V) : Prop where
  hw : H' pw = some (.lst ws)
  hf : H' pf = some (.lst fs)
  rw_ : Reps H' (st.map stD) ws
  rf : Reps H' (fo.map (rowD inb)) fs
  all : fo ++ st.reverse.flatMap (fun r => rowsD r.1 r.2) = rowsD [] d
  ok : ∀ x ∈ st, Wf x.2 ∧ x.1.length + depth x.2 ≤ 60
  kn : (st.map fun r => knots r.2).sum ≤ 1000000
  sm : Same H H'
theorem sc_law_rows : FnScope ["_law_thing_here", "_law_book_here", "_law_found", "_law_waiting", "_law_place", "_law_here", "_law_kids_here", "_law_step", "_law_number_here"] ["_law_thing_here", "_law_book_here"] (defScope s_law_rows) := ⟨rfl, rfl, rfl, by decide +kernel, rfl, by decide +kernel, by decide +kernel⟩
theorem c_law_rows (D : Df K mg "_law_rows" s_law_rows ["_law_thing_here", "_law_book_here"]) (M : Mg mg t) (F_law_rule : Cal P w K mg CX0 "_law_rule" (1) ["_law_thing_here", "_law_book_here"] spRule) (F_law_kids : Cal P w K mg CX0 "_law_kids" (1) ["_law_thing_here"] spKids) : Cal P w K mg CX0 "_law_rows" (2) ["_law_thing_here", "_law_book_here"] spRows := by
  refine D.ok sc_law_rows (fun vs H Q E h => ?_) (fun base f cdv A outer s H vs Q E hr h => ?_)
  · obtain ⟨d, v, b, kvs, rfl, _⟩ := h
    rfl
  obtain ⟨d, v, b, kvs, rfl, r, wf, hdp, hkn, hb, q⟩ := h
  refine ⟨_, (pss_cons (ps_set (i := 2) sc_law_rows.nd rfl (by first | exact Or.inl rfl | exact Or.inr rfl) (pe_lst pa_nil))
      (pss_cons (ps_set (i := 3) sc_law_rows.nd rfl (by first | exact Or.inl rfl | exact Or.inr rfl) (pe_lst (pa_cons (pe_tup (pa_cons (pe_tup pa_nil) (pa_cons (pv 0) pa_nil))) pa_nil)))
      (pss_cons (ps_while PassesOwn.never (pt_cmpR op_gt (pe_callB call_len_seq rfl M.n_len bt_len (pa_cons (pv 3) pa_nil)) pe_int (nomark _)) (pss_cons (ps_asg (pe_bm0 PySem.F.plainAttrs_list PySem.F.slot_list_pop PySem.F.type_list_pop mt_pop (pv 3)) (pg_tup (n := 2) rfl (pgs_cons (pg_name (i := 4) sc_law_rows.nd rfl (by first | exact Or.inl rfl | exact Or.inr rfl)) (pgs_cons (pg_name (i := 5) sc_law_rows.nd rfl (by first | exact Or.inl rfl | exact Or.inr rfl)) pgs_nil))))
      (pss_cons (ps_expr (pe_bm PySem.F.plainAttrs_list PySem.F.slot_list_append PySem.F.type_list_append mt_append (pv 2) (pa_cons (pe_tup (pa_cons (pv 4) (pa_cons (pv 5) (pa_cons (pe_fn F_law_rule (hr.mono (by omega)) rfl pass0 (pa_cons (pv 5) (pa_cons (pv 1) pa_nil))) pa_nil)))) pa_nil)))
      (pss_cons (ps_set (i := 6) sc_law_rows.nd rfl (by first | exact Or.inl rfl | exact Or.inr rfl) (pe_fn F_law_kids (hr.mono (by omega)) rfl pass0 (pa_cons (pv 5) pa_nil)))
      (pss_one (ps_for PassesOwn.never rfl (pi_range1 rfl M.n_range (pa_cons (pe_callB call_len_seq rfl M.n_len bt_len (pa_cons (pv 6) pa_nil)) pa_nil)) (pg_name (i := 7) sc_law_rows.nd rfl (by first | exact Or.inl rfl | exact Or.inr rfl)) (pss_cons (ps_set (i := 8) sc_law_rows.nd rfl (by first | exact Or.inl rfl | exact Or.inr rfl) (pe_op op_sub (pe_op op_sub (pe_callB call_len_seq rfl M.n_len bt_len (pa_cons (pv 6) pa_nil)) pe_int) (pv 7)))
      (pss_one (ps_expr (pe_bm PySem.F.plainAttrs_list PySem.F.slot_list_append PySem.F.type_list_append mt_append (pv 3) (pa_cons (pe_tup (pa_cons (pe_op op_catU (pv 4) (pe_tup (pa_cons (pv 8) pa_nil))) (pa_cons (pe_ix ix_list (pv 6) (pv 8) (fun _ _ => rfl)) pa_nil))) pa_nil)))))))))))
      (pss_one (ps_ret (pv 2)))))), ?_⟩
  try dsimp only [cxK, cxK2]
  refine let4 ?_
  intro _ _ _ _
  refine ⟨(by show 0 ≤ sizeLine; decide), fun pf hpf => ?_⟩
  have t1 := same_new hpf (.lst [])
  refine ⟨(by show 0 ≤ sizeLine; decide), fun q0 e0 => ⟨_, rfl, (by show 2 ≤ sizeLine; decide), fun q1 e1 => ⟨(by show 1 ≤ sizeLine; decide), fun pw hpw => ?_⟩⟩⟩
  have t2 := same_new e0 (.tup [])
  have t3 := same_new e1 (.tup [V.ref q0, v])
  have t4 := same_new hpw (.lst [V.ref q1])
  have npf : pf ≠ pw := ne_of_none (t3 _ _ (t2 _ _ (show (upd H pf (.lst [])) pf = some (.lst []) from upd_same))) hpw
  have hpw0 : H pw = none := t1.free (t2.free (t3.free hpw))
  have hq0 : (upd (upd (upd (upd H pf (.lst [])) q0 (.tup [])) q1 (.tup [V.ref q0, v])) pw (.lst [V.ref q1])) q0 = some (.tup []) := t4 _ _ (t3 _ _ upd_same)
  have hq1 : (upd (upd (upd (upd H pf (.lst [])) q0 (.tup [])) q1 (.tup [V.ref q0, v])) pw (.lst [V.ref q1])) q1 = some (.tup [V.ref q0, v]) := t4 _ _ upd_same
  have hf0 : (upd (upd (upd (upd H pf (.lst [])) q0 (.tup [])) q1 (.tup [V.ref q0, v])) pw (.lst [V.ref q1])) pf = some (.lst []) := t4 _ _ (t3 _ _ (t2 _ _ upd_same))
  have hw0 : (upd (upd (upd (upd H pf (.lst [])) q0 (.tup [])) q1 (.tup [V.ref q0, v])) pw (.lst [V.ref q1])) pw = some (.lst [V.ref q1]) := upd_same
  have sm0 := t1.trans (t2.trans (t3.trans t4))
  generalize upd (upd (upd (upd H pf (.lst [])) q0 (.tup [])) q1 (.tup [V.ref q0, v])) pw (.lst [V.ref q1]) = H0 at hq0 hq1 hf0 hw0 sm0 ⊢
  clear t1 t2 t3 t4 e0 e1 hpw
  let Iw : Nat → L2.St → Hp → Prop := fun n σ' H' => ∃ (st fo : List Rp) (ws fs : List V) (o4 o5 o6 o7 o8 : Option V), σ' = [some v, some (.ref b), some (.ref pf), some (.ref pw), o4, o5, o6, o7, o8] ∧ n = (st.map fun r => knots r.2).sum ∧ Wk H H' d b pf pw (inB kvs) st fo ws fs
  refine ⟨Iw, ⟨_, [([], d)], [], [V.ref q1], [], none, none, none, none, none, rfl, rfl, ?_⟩, ?_⟩
  · refine ⟨hw0, hf0, ⟨_, _, rfl, ⟨q1, _, rfl, hq1, ⟨_, _, rfl, ⟨q0, [], rfl, hq0, rfl⟩, ⟨_, _, rfl, r.mono sm0, rfl⟩⟩⟩, rfl⟩, rfl, by simp, fun x hx => ?_, by simpa using hkn, sm0⟩
    rw [List.mem_singleton.mp hx]
    exact ⟨wf, by simpa using hdp⟩
  rintro n σ' H1 ⟨st, fo, ws, fs, o4, o5, o6, o7, o8, rfl, rfl, W⟩
  have lws := W.rw_.length
  rw [List.length_map] at lws
  refine ⟨_, rfl, pw, _, rfl, .inl (SqL.of W.hw), _, _, rfl, rfl, _, rfl, ?_⟩
  refine ite2 (fun c => ?_) (fun c => ?_)
  · have c : (0 : Int) < ((ws.length : Nat) : Int) := of_decide_eq_true c
    have hne : st ≠ [] := fun z => by subst z; have h0 : ws.length = 0 := lws; omega
    obtain ⟨st', ⟨pl, e⟩, rfl⟩ : ∃ st' x, st = st' ++ [x] := ⟨st.dropLast, st.getLast hne, (List.dropLast_concat_getLast hne).symm⟩
    have rws := W.rw_
    rw [List.map_append, List.map_singleton] at rws
    obtain ⟨ws', y, rfl, rws', ry⟩ := reps_snoc rws
    obtain ⟨wfe, dpe⟩ := W.ok (pl, e) (by simp)
    have wfe : Wf e := wfe
    have dpe : pl.length + depth e ≤ 60 := dpe
    obtain ⟨qy, _, rfl, hqy, ⟨plv, _, rfl, rpl, ⟨ev, _, rfl, re, rnil⟩⟩⟩ := ry
    cases (show _ = [] from rnil)
    have hkn' := W.kn
    rw [List.map_append, List.sum_append] at hkn'
    have hke : (List.map (fun r : Rp => knots r.2) [(pl, e)]).sum = knots e := by simp
    rw [hke] at hkn'
    have hall := W.all
    rw [List.reverse_append, List.reverse_singleton, List.singleton_append, List.flatMap_cons] at hall
    obtain ⟨x, ps, k, rfl, wfk, hps⟩ := wf_ps wfe
    have hkk := knots_kids wfk
    rw [hkk.1] at hkn'
    let Nw : L2.St → Hp → Prop := fun σ' H' => ∃ (st fo : List Rp) (ws fs : List V) (o4 o5 o6 o7 o8 : Option V), σ' = [some v, some (.ref b), some (.ref pf), some (.ref pw), o4, o5, o6, o7, o8] ∧ (st.map fun r => knots r.2).sum + 1 = ((st' ++ [(pl, KM.D.tup (.str x :: ps))]).map fun r => knots r.2).sum ∧ Wk H H' d b pf pw (inB kvs) st fo ws fs
    refine ⟨Nw, ?_, ?_⟩
    · rintro σ' H' ⟨st, fo, ws, fs, o4, o5, o6, o7, o8, rfl, hm, W'⟩
      exact ⟨_, by omega, st, fo, ws, fs, o4, o5, o6, o7, o8, rfl, rfl, W'⟩
    refine let4 ?_
    intro _ _ _ _
    -- pop
    have sm1 : Same H (upd H1 pw (.lst ws')) := same_upd W.sm hpw0
    refine ⟨_, rfl, .inl ⟨rfl, _, SqL.of W.hw⟩, pw, _, .ref qy, rfl, rfl, W.hw, (by simp), ?_⟩
    rw [List.dropLast_concat]
    have nqy : qy ≠ pw := fun z => by rw [z, W.hw] at hqy; cases hqy
    have hw2 : (upd H1 pw (.lst ws')) pw = some (.lst ws') := upd_same
    have hf2 : (upd H1 pw (.lst ws')) pf = some (.lst fs) := by rw [upd_ne npf]; exact W.hf
    have hqy2 : (upd H1 pw (.lst ws')) qy = some (.tup [plv, ev]) := by rw [upd_ne nqy]; exact hqy
    have rws2 := rws'.updL (o := .lst ws') W.hw
    have rf2 := W.rf.updL (o := .lst ws') W.hw
    have rpl2 := rpl.updL (o := .lst ws') W.hw
    have re2 := re.updL (o := .lst ws') W.hw
    generalize upd H1 pw (.lst ws') = H2 at sm1 hw2 hf2 hqy2 rws2 rf2 rpl2 re2 ⊢
    refine ⟨qy, _, rfl, SqT.of hqy2, rfl, _, _, rfl, _, _, rfl, rfl, ?_⟩
    -- append to what was found
    refine ⟨_, rfl, .inl ⟨rfl, _, SqL.of hf2⟩, _, rfl, _, rfl, _, rfl, _, rfl, _, ev, b, kvs, rfl, re2, wfe, sm1 _ _ hb, fun H3 s3 => ⟨(by show 3 ≤ sizeLine; decide), fun q3 e3 => ?_⟩⟩
    have t3 := same_new e3 (.tup [plv, ev, ruleD (inB kvs) (.tup (.str x :: ps))])
    have s23 := s3.trans t3
    have lf := rf2.length
    rw [List.length_map] at lf
    have lfo : fs.length < 16777216 := by
      have h1 := congrArg List.length hall
      rw [List.length_append] at h1
      have h2 := rowsD_len [] d
      omega
    refine ⟨pf, _, _, rfl, rfl, s23 _ _ hf2, (by rw [sizeLine_eq]; exact lfo), ?_⟩
    have hq3 : (upd H3 q3 (.tup [plv, ev, ruleD (inB kvs) (.tup (.str x :: ps))])) q3 = some (.tup [plv, ev, ruleD (inB kvs) (.tup (.str x :: ps))]) := upd_same
    have hf3 := s23 _ _ hf2
    have hw3 := s23 _ _ hw2
    have sm3 := sm1.trans s23
    have rws3 := rws2.mono s23
    have rf3 := rf2.mono s23
    have rpl3 := rpl2.mono s23
    have re3 := re2.mono s23
    generalize upd H3 q3 (.tup [plv, ev, ruleD (inB kvs) (.tup (.str x :: ps))]) = H4 at hq3 hf3 hw3 sm3 rws3 rf3 rpl3 re3 ⊢
    clear s23 t3 e3 s3
    have rrow : Rep H4 (rowD (inB kvs) (pl, .tup (.str x :: ps))) (.ref q3) := ⟨q3, _, rfl, hq3, ⟨_, _, rfl, rpl3, ⟨_, _, rfl, re3, ⟨_, _, rfl, rule_rep wfe, rfl⟩⟩⟩⟩
    have sm4 : Same H (upd H4 pf (.lst (fs ++ [V.ref q3]))) := same_upd sm3 hpf
    have hf4 : (upd H4 pf (.lst (fs ++ [V.ref q3]))) pf = some (.lst (fs ++ [V.ref q3])) := upd_same
    have hw4 : (upd H4 pf (.lst (fs ++ [V.ref q3]))) pw = some (.lst ws') := by rw [upd_ne npf.symm]; exact hw3
    have rws4 := rws3.updL (o := .lst (fs ++ [V.ref q3])) hf3
    have rf4 := (rf3.append (Reps.one rrow)).updL (o := .lst (fs ++ [V.ref q3])) hf3
    have rpl4 := rpl3.updL (o := .lst (fs ++ [V.ref q3])) hf3
    have re4 := re3.updL (o := .lst (fs ++ [V.ref q3])) hf3
    generalize upd H4 pf (.lst (fs ++ [V.ref q3])) = H5 at sm4 hf4 hw4 rws4 rf4 rpl4 re4 ⊢
    -- the children
    refine ⟨_, rfl, x, ps, ev, rfl, re4, hps, fun pk us H6 hpk s6 h6 r6 => ?_⟩
    have l6 := r6.length
    have hk4 := kids4 wfk
    have npk : pk ≠ pw := fun z => by rw [z, hw4] at hpk; cases hpk
    refine ⟨_, rfl, pk, _, rfl, .inl (SqL.of h6), _, rfl, (by show -(2 ^ 62) ≤ ((us.length : Nat) : Int); omega), (by show ((us.length : Nat) : Int) < 2 ^ 62; omega), ?_⟩
    obtain ⟨pa, pvs, rfl, hpa, rpa⟩ := id rpl4
    have lpa := rpa.length
    rw [List.length_map] at lpa
    have nk : us.length = (kidsD x ps).length := l6
    have hw6 := s6 _ _ hw4
    have hf6 := s6 _ _ hf4
    have hpa6 := s6 _ _ hpa
    have rws6 := rws4.mono s6
    have rf6 := rf4.mono s6
    have re6 := re4.mono s6
    have sm6 := sm4.trans s6
    let Ifr : Nat → L2.St → Hp → Prop := (fun j σ' H' => ∃ (ws2 : List V) (sv nv : Option V), σ' = [some v, some (.ref b), some (.ref pf), some (.ref pw), some (.ref pa), some ev, some (.ref pk), sv, nv] ∧ H' pw = some (.lst ws2) ∧ Reps H' ((st' ++ (List.range j).map fun t => ((pl ++ [us.length - 1 - t], ((kidsD x ps)[us.length - 1 - t]?).getD .non) : Rp)).map stD) ws2 ∧ SameX pw H6 H')
    refine for_by us.length Ifr ?_ ?_ ?_
    · exact ⟨ws', o7, o8, rfl, hw6, by simpa using rws6, fun _ _ _ h => h⟩
    · rintro j σ' H7 hj ⟨ws2, sv, nv, rfl, hw7, rws7, x7⟩
      refine ⟨hj, ?_⟩
      rintro x' H7' ⟨rfl, rfl⟩
      have e0 : (0 : Int) + (j : Int) = ((j : Nat) : Int) := by omega
      rw [e0]
      have h67 := x7 _ _ npk h6
      have hpa7 := x7 _ _ (fun z => by rw [z, hw6] at hpa6; cases hpa6) hpa6
      obtain ⟨di, hdi⟩ : ∃ di, (kidsD x ps)[us.length - 1 - j]? = some di := ⟨_, List.getElem?_eq_getElem (by omega)⟩
      obtain ⟨ui, hui, rui⟩ := r6.get hdi
      have rui7 := rui.monoX x7 (not_tup_list hw6)
      have rpa7 : Reps _ (pl.map fun i => KM.D.int (i : Nat)) pvs := (rpa.mono s6).monoX x7 (not_tup_list hw6)
      refine ⟨_, rfl, pk, _, rfl, .inl (SqL.of h67), _, _, rfl, rfl, _, rfl, _, _, rfl, rfl, ?_⟩
      have en : ((us.length : Nat) : Int) - 1 - ((j : Nat) : Int) = ((us.length - 1 - j : Nat) : Int) := by omega
      show gName 8 (V.int (((us.length : Nat) : Int) - 1 - ((j : Nat) : Int))) _ _ _
      rw [en]
      refine ⟨_, rfl, .inl ⟨rfl, _, SqL.of hw7⟩, _, rfl, _, rfl, (by show 1 ≤ sizeLine; decide), fun q5 e5 => ?_⟩
      have t5 := same_new e5 (.tup [V.int ((us.length - 1 - j : Nat) : Int)])
      refine ⟨pa, q5, _, _, rfl, rfl, t5 _ _ hpa7, upd_same, ?_, fun q6 H8 s8 h8 => ?_⟩
      · rw [List.length_singleton, sizeLine_eq]; omega
      have t58 := t5.trans s8
      refine ⟨_, rfl, _, rfl, pk, _, _, ui, rfl, rfl, SqL.of (t58 _ _ h67), atI_nat hui, (by show 2 ≤ sizeLine; decide), fun q7 e7 => ?_⟩
      have t9 := same_new e7 (.tup [V.ref q6, ui])
      have t79 := t58.trans t9
      have lw7 := rws7.length
      rw [List.length_map, List.length_append, List.length_map, List.length_range] at lw7
      have lst' : st'.length ≤ 1000000 := by
        have h1 : ∀ l : List Rp, (∀ x ∈ l, Wf x.2) → l.length ≤ (l.map fun r => knots r.2).sum := fun l => by
          induction l with
          | nil => intro _; exact Nat.zero_le _
          | cons a l ih =>
            intro h
            have h2 := ih fun x hx => h x (List.mem_cons_of_mem _ hx)
            obtain ⟨k', hk'⟩ := h a List.mem_cons_self
            obtain ⟨x', ps', e'⟩ := wf_form hk'
            have h3 : 1 ≤ knots a.2 := by rw [e']; simp only [knots]; omega
            rw [List.map_cons, List.sum_cons, List.length_cons]
            omega
        have := h1 st' fun x hx => (W.ok x (List.mem_append_left _ hx)).1
        omega
      refine ⟨pw, ws2, _, rfl, rfl, t79 _ _ hw7, (by rw [sizeLine_eq]; omega), ?_⟩
      have hq7 : (upd H8 q7 (.tup [V.ref q6, ui])) q7 = some (.tup [V.ref q6, ui]) := upd_same
      have h89 := t9 _ _ h8
      have rplc : Rep (upd H8 q7 (.tup [V.ref q6, ui])) (plD (pl ++ [us.length - 1 - j])) (.ref q6) := by
        refine ⟨q6, _, rfl, h89, ?_⟩
        rw [List.map_append]
        exact (rpa7.mono t79).append ⟨_, _, rfl, rfl, rfl⟩
      have rnew : Rep (upd H8 q7 (.tup [V.ref q6, ui])) (stD (pl ++ [us.length - 1 - j], di)) (.ref q7) := ⟨q7, _, rfl, hq7, ⟨_, _, rfl, rplc, ⟨_, _, rfl, rui7.mono t79, rfl⟩⟩⟩
      have rall := (rws7.mono t79).append (Reps.one rnew)
      refine ⟨ws2 ++ [V.ref q7], _, _, rfl, upd_same, ?_, x7.trans (t79.x.trans (SameX.upd _))⟩
      have el : (st' ++ (List.range (j + 1)).map fun t => ((pl ++ [us.length - 1 - t], ((kidsD x ps)[us.length - 1 - t]?).getD .non) : Rp)).map stD = (st' ++ (List.range j).map fun t => ((pl ++ [us.length - 1 - t], ((kidsD x ps)[us.length - 1 - t]?).getD .non) : Rp)).map stD ++ [stD (pl ++ [us.length - 1 - j], di)] := by
        rw [List.range_succ]
        simp [hdi]
      rw [el]
      exact rall.updL (t79 _ _ hw7)
    · rintro σ' H7 ⟨ws2, sv, nv, rfl, hw7, rws7, x7⟩
      refine ⟨Nat.le_refl _, ?_⟩
      have hrev : ((List.range us.length).map fun t => ((pl ++ [us.length - 1 - t], ((kidsD x ps)[us.length - 1 - t]?).getD .non) : Rp)).reverse = (List.range us.length).map fun i => ((pl ++ [i], ((kidsD x ps)[i]?).getD .non) : Rp) := rev_map (fun i => ((pl ++ [i], ((kidsD x ps)[i]?).getD .non) : Rp)) us.length
      have hsum : (((List.range us.length).map fun t => ((pl ++ [us.length - 1 - t], ((kidsD x ps)[us.length - 1 - t]?).getD .non) : Rp)).map (fun r => knots r.2)).sum = ((kidsD x ps).map knots).sum := by
        rw [← List.sum_reverse, ← List.map_reverse, hrev, List.map_map, nk]
        exact congrArg List.sum (range_map knots .non (kidsD x ps))
      refine ⟨st' ++ (List.range us.length).map fun t => ((pl ++ [us.length - 1 - t], ((kidsD x ps)[us.length - 1 - t]?).getD .non) : Rp), fo ++ [(pl, .tup (.str x :: ps))], ws2, fs ++ [V.ref q3], _, _, _, _, _, rfl, ?_, ⟨hw7, x7 _ _ npf hf6, rws7, ?_, ?_, ?_, ?_, ?_⟩⟩
      · rw [List.map_append, List.sum_append, hsum, List.map_append, List.sum_append]
        have e1 : (List.map (fun r : Rp => knots r.2) [(pl, KM.D.tup (.str x :: ps))]).sum = knots (.tup (.str x :: ps)) := by simp
        rw [e1, hkk.1]
        omega
      · rw [List.map_append, List.map_singleton]
        exact rf6.monoX x7 (not_tup_list hw6)
      · rw [← hall, List.reverse_append, List.flatMap_append, hrev, rowsD_eq, rowsL_range, nk]
        simp
      · intro x' hx'
        rcases List.mem_append.mp hx' with h | h
        · exact W.ok x' (List.mem_append_left _ h)
        · obtain ⟨i, hi, rfl⟩ := List.mem_map.mp h
          have hi := List.mem_range.mp hi
          obtain ⟨di, hdi⟩ : ∃ di, (kidsD x ps)[us.length - 1 - i]? = some di := ⟨_, List.getElem?_eq_getElem (by omega)⟩
          obtain ⟨w1, w2⟩ := wf_kid wfk hdi
          rw [hdi]
          refine ⟨w1, ?_⟩
          rw [List.length_append, List.length_singleton]
          show pl.length + 1 + depth di ≤ 60
          omega
      · rw [List.map_append, List.sum_append, hsum]
        omega
      · exact fun b' o' h' => x7 _ _ (ne_of_none h' hpw0) (sm6 _ _ h')
  · have c : ¬ (0 : Int) < ((ws.length : Nat) : Int) := of_decide_eq_false (Bool.eq_false_iff.mpr c)
    have hst : st = [] := List.length_eq_zero_iff.mp (by omega)
    subst hst
    have hall := W.all
    rw [List.reverse_nil, List.flatMap_nil, List.append_nil] at hall
    have rf := W.rf
    rw [hall] at rf
    exact ⟨_, rfl, q pf fs H1 hpf W.sm W.hf rf⟩
end K22
end
section
set_option maxHeartbeats 2000000
namespace K22
open PySem L2 L3 KM PyProof.Rows
seal L2.PE L2.PS L2.PSs L2.PT L2.PW L2.PA L2.PG L2.PGs L2.PI L2.PC L2.PO L2.PPs L2.PK L3.PIf
variable {P : Program} {w : World} {K : PySem.W.Frag} {mg : Str → Option Value} {base : Heap} {t : Adr}
def Rul (K : PySem.W.Frag) (r : Addr) : Prop := ∃ a1 a2 a3 a4 a5 b1 b2 b3 b4 b5 b6 : Addr, TabK K r [("app", .ref a1), ("rec", .ref a2), ("carry", .ref a3), ("first", .ref a4), ("second", .ref a5)] ∧
  SqK K a1 [.ref b1] ∧ SqK K b1 [.int 1, .str "fun", .str "fun"] ∧ SqK K a2 [.ref b2, .ref b3] ∧ SqK K b2 [.int 4, .str "zero", .str "zero"] ∧ SqK K b3 [.int 4, .str "next", .str "next"] ∧
  SqK K a3 [.ref b4] ∧ SqK K b4 [.int 3, .str "like", .str "like"] ∧ SqK K a4 [.ref b5] ∧ SqK K b5 [.int 1, .str "pair", .str "first"] ∧ SqK K a5 [.ref b6] ∧ SqK K b6 [.int 1, .str "pair", .str "second"]
theorem dat5 (v1 v2 v3 v4 v5 : V) (x : Str) : KTD.datumAt x [(("app" : Str), v1), ("rec", v2), ("carry", v3), ("first", v4), ("second", v5)] = if x = "app" then some v1 else if x = "rec" then some v2 else if x = "carry" then some v3 else if x = "first" then some v4 else if x = "second" then some v5 else none := by
  simp only [KTD.datumAt, decide_eq_true_eq]
abbrev Rw := Nat × Str × Str
def hitB (ps : List D) (r : Rw) : Bool := decide (hdD ((ps[r.1]?).getD .non) = r.2.1)
def firstV (ps : List D) : List Rw → V
  | [] => .non
  | r :: rs => if hitB ps r = true then .str r.2.2 else firstV ps rs
theorem firstV_drop {ps : List D} : ∀ {rows : List Rw} {i : Nat}, (∀ r ∈ rows.take i, hitB ps r = false) → firstV ps rows = firstV ps (rows.drop i)
  | rows, 0, _ => rfl
  | [], i + 1, _ => rfl
  | r :: rs, i + 1, h => by
    have h0 := h r (by simp)
    rw [firstV, if_neg (by rw [h0]; decide), List.drop_succ_cons]
    exact firstV_drop fun r hr => h r (by rw [List.take_succ_cons]; exact List.mem_cons_of_mem _ hr)
theorem sc_rule_of : FnScope ["thing", "book", "part", "word", "rule"] ["thing", "book"] (defScope s_rule_of) := ⟨rfl, rfl, rfl, by decide +kernel, rfl, by decide +kernel, by decide +kernel⟩
theorem c_rule_of (D : Df K mg "rule_of" s_rule_of ["thing", "book"]) (M : Mg mg t) (T : Rul K t.RULES) : Cal P w K mg CX0 "rule_of" (1) ["thing", "book"] spRule := by
  refine D.ok sc_rule_of (fun vs H Q E h => ?_) (fun base f cdv A outer s H vs Q E hr h => ?_)
  · obtain ⟨d, v, b, kvs, rfl, _⟩ := h
    rfl
  obtain ⟨d, v, b, kvs, rfl, r, wf, hb, q⟩ := h
  have hu := hu_of hr
  obtain ⟨x, ps, k, rfl, wfk, hps⟩ := wf_ps wf
  obtain ⟨a, us0, rfl, ha, v0, us, rfl, ⟨rfl, hx⟩, rp⟩ := id r
  have ea : atI (V.str x :: us) 0 = some (.str x) := atI_nat (j := 0) rfl
  obtain ⟨a1, a2, a3, a4, a5, b1, b2, b3, b4, b5, b6, TT, s1, s2, s3, s4, s5, s6, s7, s8, s9, s10, s11⟩ := T
  refine ⟨_, (pss_cons (ps_if (pt_cmpR op_eq (pe_ix ix_tup (pv 0) pe_int (fun _ _ => rfl)) pe_str (nomark _)) (pss_one (ps_ret (pe_ifExp (pt_cmp (pc_din hu (pe_ix ix_tup (pv 0) pe_int (fun _ _ => rfl)) (pv 1))) pe_str pe_non))) pss_nil)
      (pss_cons (ps_for PassesOwn.never rfl (pi_tup (pe_tget2 (pe_gref M.g_RULES rfl) (pe_ix ix_tup (pv 0) pe_int (fun _ _ => rfl)) (pe_tup pa_nil) ⟨rfl, rfl, rfl, rfl⟩)) (pg_tup (n := 3) rfl (pgs_cons (pg_name (i := 2) sc_rule_of.nd rfl (by first | exact Or.inl rfl | exact Or.inr rfl)) (pgs_cons (pg_name (i := 3) sc_rule_of.nd rfl (by first | exact Or.inl rfl | exact Or.inr rfl)) (pgs_cons (pg_name (i := 4) sc_rule_of.nd rfl (by first | exact Or.inl rfl | exact Or.inr rfl)) pgs_nil)))) (pss_one (ps_if (pt_cmpR op_eq (pe_ix ix_tup (pe_ix ix_tup (pv 0) (pv 2) (fun _ _ => rfl)) pe_int (fun _ _ => rfl)) (pv 3) (nomark _)) (pss_one (ps_ret (pv 4))) pss_nil)))
      (pss_one (ps_ret pe_non)))), ?_⟩
  try dsimp only [cxK, cxK2]
  refine let3 ?_
  intro _ _ _
  refine ⟨_, rfl, a, _, _, _, rfl, rfl, SqT.of ha, ea, rfl, _, rfl, ?_⟩
  refine ite2 (fun c => ?_) (fun c => ?_)
  · have c : V.str x = V.str "name" := of_decide_eq_true c
    cases c
    obtain ⟨y, rfl⟩ := name_part wfk
    obtain ⟨u, us', rfl, ⟨rfl, _⟩, ru⟩ := rp
    cases (show us' = [] from ru)
    have eq1 : ruleD (inB kvs) (.tup [.str "name", .str y]) = if inB kvs y = true then .str "name" else .non := rfl
    rw [eq1] at q
    have qq := q H (Same.refl H)
    refine ⟨_, rfl, a, _, _, .str y, rfl, rfl, SqT.of ha, atI_nat (j := 1) rfl, _, rfl, b, _, rfl, DGet.k (k := Sum.inr y) hb, _, rfl, ?_⟩
    show if inB kvs y = true then _ else _
    cases hin : inB kvs y with
    | true =>
      rw [hin] at qq
      exact qq
    | false =>
      rw [hin] at qq
      exact qq
  have nn : x ≠ "name" := fun z => c (by rw [z]; decide +kernel)
  refine ⟨t.RULES, _, rfl, TT, _, rfl, a, _, _, _, rfl, rfl, SqT.of ha, ea, (by show 0 ≤ sizeLine; decide), fun p0 hp0 => ⟨x, rfl, ?_⟩⟩
  have t0 := same_new hp0 (.tup [])
  have h0 : (upd H p0 (.tup [])) p0 = some (.tup []) := upd_same
  have rp0 := rp.mono t0
  have ha0 := t0 _ _ ha
  generalize upd H p0 (.tup []) = H0 at t0 h0 rp0 ha0 ⊢
  rw [dat5]
  have key : ∃ (c : Addr) (rows : List Rw) (bs : List V), (if x = "app" then some (V.ref a1) else if x = "rec" then some (.ref a2) else if x = "carry" then some (.ref a3) else if x = "first" then some (.ref a4) else if x = "second" then some (.ref a5) else none).getD (.ref p0) = .ref c ∧ (∀ H1, Same H0 H1 → SqT K H1 c bs) ∧ bs.length = rows.length ∧
      (∀ (i : Nat) (r : Rw), rows[i]? = some r → ∃ b' : Addr, bs[i]? = some (V.ref b') ∧ SqK K b' [.int ((r.1 + 1 : Nat) : Int), .str r.2.1, .str r.2.2]) ∧ (∀ r ∈ rows, ∃ s', shapeV x = .str s' ∧ s'.cps.toList[r.1]? = some 116) ∧ ruleW (inB kvs) x ps = firstV ps rows := by
    have one : ∀ (r : Rw) (b' : Addr), SqK K b' [.int ((r.1 + 1 : Nat) : Int), .str r.2.1, .str r.2.2] → ∀ (i : Nat) (r' : Rw), [r][i]? = some r' → ∃ b'', [V.ref b'][i]? = some (.ref b'') ∧ SqK K b'' [.int ((r'.1 + 1 : Nat) : Int), .str r'.2.1, .str r'.2.2] := fun r b' h i r' e => by
      match i, e with
      | 0, e => cases e; exact ⟨b', rfl, h⟩
      | i + 1, e => simp at e
    unfold ruleW
    rw [if_neg nn]
    by_cases e1 : x = "app"
    · subst e1
      refine ⟨a1, [(0, "fun", "fun")], [.ref b1], by simp, fun H1 _ => .inr s1, rfl, one _ _ s2, fun r hr => ?_, ?_⟩
      · rw [List.mem_singleton.mp hr]; exact ⟨"tt", by decide +kernel, by decide +kernel⟩
      · simp [firstV, hitB]
    by_cases e2 : x = "rec"
    · subst e2
      refine ⟨a2, [(3, "zero", "zero"), (3, "next", "next")], [.ref b2, .ref b3], by simp [e1], fun H1 _ => .inr s3, rfl, fun i r e => ?_, fun r hr => ?_, ?_⟩
      · match i, e with
        | 0, e => cases e; exact ⟨b2, rfl, s4⟩
        | 1, e => cases e; exact ⟨b3, rfl, s5⟩
        | i + 2, e => simp at e
      · have hr1 : r.1 = 3 := by
          simp only [List.mem_cons, List.not_mem_nil, or_false] at hr
          rcases hr with rfl | rfl <;> rfl
        rw [hr1]
        exact ⟨"kttt", by decide +kernel, by decide +kernel⟩
      · have n1 : (Str.ofString "rec") ≠ Str.ofString "carry" := by decide +kernel
        have n2 : (Str.ofString "rec") ≠ Str.ofString "first" := by decide +kernel
        have n3 : (Str.ofString "rec") ≠ Str.ofString "second" := by decide +kernel
        rw [if_neg e1, if_neg n1, if_neg n2, if_neg n3, if_pos rfl]
        simp [firstV, hitB]
    by_cases e3 : x = "carry"
    · subst e3
      refine ⟨a3, [(2, "like", "like")], [.ref b4], by simp [e1, e2], fun H1 _ => .inr s6, rfl, one _ _ s7, fun r hr => ?_, ?_⟩
      · rw [List.mem_singleton.mp hr]; exact ⟨"ktt", by decide +kernel, by decide +kernel⟩
      · simp [firstV, hitB, e1]
    by_cases e4 : x = "first"
    · subst e4
      refine ⟨a4, [(0, "pair", "first")], [.ref b5], by simp [e1, e2, e3], fun H1 _ => .inr s8, rfl, one _ _ s9, fun r hr => ?_, ?_⟩
      · rw [List.mem_singleton.mp hr]; exact ⟨"t", by decide +kernel, by decide +kernel⟩
      · simp [firstV, hitB, e1, e3]
    by_cases e5 : x = "second"
    · subst e5
      refine ⟨a5, [(0, "pair", "second")], [.ref b6], by simp [e1, e2, e3, e4], fun H1 _ => .inr s10, rfl, one _ _ s11, fun r hr => ?_, ?_⟩
      · rw [List.mem_singleton.mp hr]; exact ⟨"t", by decide +kernel, by decide +kernel⟩
      · simp [firstV, hitB, e1, e3, e4]
    · exact ⟨p0, [], [], by simp [e1, e2, e3, e4, e5], fun H1 hs => SqT.of (hs _ _ h0), rfl, (fun i r e => by simp at e), (fun r hr => absurd hr (by simp)), (by simp [firstV, e1, e2, e3, e4, e5])⟩
  obtain ⟨c, rows, bs, ec, hc, hl, hrow, hshp, hrule⟩ := key
  rw [ec]
  refine ⟨c, rfl, ⟨bs, hc H0 (Same.refl _)⟩, ?_⟩
  let Ifr : Nat → L2.St → Hp → Prop := (fun i σ' H' => ∃ (pv wv rv : Option V), σ' = [some (.ref a), some (.ref b), pv, wv, rv] ∧ (∀ r ∈ rows.take i, hitB ps r = false) ∧ H' = H0)
  refine for_by bs.length Ifr ?_ ?_ ?_
  · exact ⟨none, none, none, rfl, fun r hr => by simp at hr, rfl⟩
  · rintro i σ' H1 hi ⟨pv', wv, rv, rfl, hno, rfl⟩
    obtain ⟨r', hr'⟩ : ∃ r, rows[i]? = some r := ⟨_, List.getElem?_eq_getElem (by omega)⟩
    obtain ⟨b', hb', sb'⟩ := hrow i r' hr'
    refine ⟨⟨bs, _, hc _ (Same.refl _), hb'⟩, ?_⟩
    rintro x' H2 ⟨rfl, hy⟩
    have hy := hy bs (hc _ (Same.refl _))
    rw [hb'] at hy
    cases hy
    obtain ⟨s', ks, ki⟩ := hshp r' (List.mem_of_getElem? hr')
    obtain ⟨c0, ws, hat, hc0⟩ := part_rep wfk rp0 ks ki
    refine ⟨b', _, rfl, .inr sb', rfl, _, _, rfl, _, _, rfl, _, _, rfl, rfl, ?_⟩
    refine ⟨_, rfl, _, rfl, a, _, _, .ref c0, rfl, rfl, SqT.of ha0, hat, c0, _, _, _, rfl, rfl, SqT.of hc0, atI_nat (j := 0) rfl, _, rfl, rfl, _, rfl, ?_⟩
    have hd : rows.drop i = r' :: rows.drop (i + 1) := by
      obtain ⟨h, rfl⟩ := List.getElem?_eq_some_iff.mp hr'
      exact List.drop_eq_getElem_cons h
    refine ite2 (fun ch => ?_) (fun ch => ?_)
    · have ch : V.str (hdD ((ps[r'.1]?).getD .non)) = V.str r'.2.1 := of_decide_eq_true ch
      injection ch with ch
      have hit : hitB ps r' = true := decide_eq_true ch
      refine ⟨_, rfl, ?_⟩
      have er : ruleD (inB kvs) (.tup (.str x :: ps)) = .str r'.2.2 := by
        show ruleW (inB kvs) x ps = _
        rw [hrule, firstV_drop hno, hd, firstV, if_pos hit]
      have qq := q _ t0
      rw [er] at qq
      exact qq
    · have hit : hitB ps r' = false := decide_eq_false fun z => ch (by rw [z]; exact decide_eq_true rfl)
      refine ⟨_, _, _, rfl, fun r hr => ?_, rfl⟩
      rw [List.take_add_one, hr'] at hr
      rcases List.mem_append.mp hr with hr | hr
      · exact hno r hr
      · have : r = r' := by simpa using hr
        rw [this]
        exact hit
  · rintro σ' H1 ⟨pv', wv, rv, rfl, hno, rfl⟩
    refine ⟨⟨bs, hc _ (Same.refl _), Nat.le_refl _⟩, ?_⟩
    have er : ruleD (inB kvs) (.tup (.str x :: ps)) = .non := by
      show ruleW (inB kvs) x ps = _
      rw [hrule, firstV_drop hno, hl, List.drop_length, firstV]
    have qq := q _ t0
    rw [er] at qq
    exact qq
end K22
end
section
namespace L3
open PySem PySem.Spec PyProof.Rows L2 KM
mutual
def pyD : D → PyData
  | .non => .none
  | .bl b => .bool b
  | .int i => .int i
  | .str x => .str x
  | .tup ds => .tuple (pyL ds)
def pyL : List D → List PyData
  | [] => []
  | d :: ds => pyD d :: pyL ds
end
mutual
theorem py_depth : ∀ d : D, (pyD d).depth ≤ depth d
  | .non => Nat.zero_le _
  | .bl _ => Nat.zero_le _
  | .int _ => Nat.zero_le _
  | .str _ => Nat.zero_le _
  | .tup ds => by
    show PyData.depthAll (pyL ds) + 1 ≤ 1 + depthL ds
    have := py_depthL ds
    omega
theorem py_depthL : ∀ ds : List D, PyData.depthAll (pyL ds) ≤ depthL ds
  | [] => Nat.zero_le _
  | d :: ds => by
    show max (pyD d).depth (PyData.depthAll (pyL ds)) ≤ max (depth d) (depthL ds)
    have h1 := py_depth d
    have h2 := py_depthL ds
    omega
end
section
variable {X : Cx} {pins : List (Addr × Obj)} {σ : L2.St} {H : Hp} {s : Shared}
mutual
theorem rep_reads (I : Inv X pins σ H s) : ∀ {d : D} {v : V} {u : Value}, Rep H d v → RelV v u → ∃ as, Reads s.heap u (pyD d) as
  | .non, _, u, r, ru => by
    have r : _ = V.non := r
    subst r
    cases (show u = Value.none from ru)
    exact ⟨_, .none⟩
  | .bl b, _, u, r, ru => by
    have r : _ = V.bl b := r
    subst r
    cases (show u = Value.bool b from ru)
    exact ⟨_, .bool b⟩
  | .int i, _, u, r, ru => by
    have r : _ = V.int i := r
    subst r
    obtain ⟨t, rfl⟩ := (show ∃ t, u = Value.int i t from ru)
    exact ⟨_, .int i t⟩
  | .str x, _, u, r, ru => by
    have r : _ = V.str x := r.1
    subst r
    obtain ⟨t, rfl⟩ := (show ∃ t, u = Value.str x t from ru)
    exact ⟨_, .str x t⟩
  | .tup ds, _, u, r, ru => by
    obtain ⟨a, vs, e, ha, rs⟩ := r
    subst e
    cases (show u = Value.ref a from ru)
    obtain ⟨its, rv, ⟨o, ho, hc, n, hd⟩, _⟩ := I.tuple (SqT.of (K := X.K) ha)
    obtain ⟨as, h⟩ := reps_reads I rs rv
    exact ⟨as, .tuple ho hc hd (by simpa using h)⟩
theorem reps_reads (I : Inv X pins σ H s) : ∀ {ds : List D} {vs : List V} {us : List Value}, Reps H ds vs → Vals vs us → ∃ as, ReadsAll s.heap us (pyL ds) as
  | [], _, us, r, rv => by
    have r : _ = [] := r
    subst r
    cases rv
    exact ⟨_, .nil⟩
  | d :: ds, _, us, ⟨v, r, e, q, t⟩, rv => by
    subst e
    cases rv with
    | cons a b =>
      obtain ⟨as, h1⟩ := rep_reads I q a
      obtain ⟨bs, h2⟩ := reps_reads I t b
      exact ⟨_, .cons h1 h2⟩
end
end
mutual
def cmpD : D → Bool
  | .non => true
  | .bl _ => false
  | .int _ => true
  | .str x => (PyData.str x).canLay0
  | .tup ds => cmpL ds
def cmpL : List D → Bool
  | [] => true
  | d :: ds => cmpD d && cmpL ds
end
mutual
theorem cmp_lay : ∀ d : D, cmpD d = true → (pyD d).canLay0 = true
  | .non, _ => rfl
  | .bl _, h => by cases h
  | .int _, _ => rfl
  | .str x, h => h
  | .tup ds, h => cmp_layL ds h
theorem cmp_layL : ∀ ds : List D, cmpL ds = true → PyData.canLayAll0 (pyL ds) = true
  | [], _ => rfl
  | d :: ds, h => by
    have h : (cmpD d && cmpL ds) = true := h
    rw [Bool.and_eq_true] at h
    show ((pyD d).canLay0 && PyData.canLayAll0 (pyL ds)) = true
    rw [cmp_lay d h.1, cmp_layL ds h.2]
    rfl
end
mutual
theorem eqv_iff : ∀ d e : D, cmpD d = true → cmpD e = true → (PyData.eqv (pyD d) (pyD e) = true ↔ d = e)
  | .bl _, _, h, _ => by cases h
  | .non, e, _, h => by cases e <;> simp [pyD, PyData.eqv, cmpD] at h ⊢
  | .int i, e, _, h => by cases e <;> simp [pyD, PyData.eqv, cmpD] at h ⊢
  | .str x, e, _, h => by cases e <;> simp [pyD, PyData.eqv, cmpD] at h ⊢
  | .tup ds, .tup es, h, h' => by
    show PyData.eqvAll (pyL ds) (pyL es) = true ↔ _
    rw [eqv_iffL ds es h h']
    simp
  | .tup ds, .non, _, _ => by simp [pyD, PyData.eqv]
  | .tup ds, .bl _, _, h => by cases h
  | .tup ds, .int _, _, _ => by simp [pyD, PyData.eqv]
  | .tup ds, .str _, _, _ => by simp [pyD, PyData.eqv]
theorem eqv_iffL : ∀ ds es : List D, cmpL ds = true → cmpL es = true → (PyData.eqvAll (pyL ds) (pyL es) = true ↔ ds = es)
  | [], [], _, _ => by simp [pyL, PyData.eqvAll]
  | [], _ :: _, _, _ => by simp [pyL, PyData.eqvAll]
  | _ :: _, [], _, _ => by simp [pyL, PyData.eqvAll]
  | d :: ds, e :: es, h, h' => by
    have h : (cmpD d && cmpL ds) = true := h
    have h' : (cmpD e && cmpL es) = true := h'
    rw [Bool.and_eq_true] at h h'
    show (PyData.eqv (pyD d) (pyD e) && PyData.eqvAll (pyL ds) (pyL es)) = true ↔ _
    rw [Bool.and_eq_true, eqv_iff d e h.1 h'.1, eqv_iffL ds es h.2 h'.2]
    simp
end
def rEqD (eq : Bool) : R2 := fun x y H Q => ∃ (d e : D) (z : Bool), Rep H d x ∧ Rep H e y ∧ depth d ≤ 60 ∧ depth e ≤ 60 ∧ cmpD d = true ∧ cmpD e = true ∧ (z = true ↔ d = e) ∧ Q (.bl (z == eq)) H
theorem shp {d : D} (h : cmpD d = true) (hd : depth d ≤ 60) : SeqAt.shaped (pyD d) = true := by
  unfold SeqAt.shaped
  rw [cmp_lay d h, Bool.true_and]
  exact decide_eq_true (Nat.le_trans (py_depth d) (by omega))
theorem eqv_z {d e : D} {z : Bool} (h1 : cmpD d = true) (h2 : cmpD e = true) (hz : z = true ↔ d = e) : PyData.eqv (pyD d) (pyD e) = z := by
  have := eqv_iff d e h1 h2
  cases z with
  | true => exact this.mpr (hz.mp rfl)
  | false =>
    cases q : PyData.eqv (pyD d) (pyD e) with
    | false => rfl
    | true => exact absurd (hz.mpr (this.mp q)) (by simp)
theorem op_neD2 {X : Cx} (hu : X.A.units + 64 < cLine) : OpR X (compareOp .NotEq) (rEqD false) := by
  intro pins s σ H x y v u Q I rx ry h
  obtain ⟨d, e, z, r1, r2, hd, he, c1, c2, hz, q⟩ := h
  obtain ⟨as, h1⟩ := rep_reads I r1 rx
  obtain ⟨bs, h2⟩ := rep_reads I r2 ry
  refine SeqAt.compareNe_shaped h1 h2 (shp c1 hd) (shp c2 he) hu ⟨_, H, I, ?_, q⟩
  rw [eqv_z c1 c2 hz]
  show Value.bool _ = Value.bool _
  cases z <;> rfl
theorem comp_optR {J : It} {p : Addr} {H1 : Hp} {g : TG} {tt : TT} {te : TE} {b : L2.St} {C : Hp → Prop} (n : Nat) (f : Nat → Option D) (hp : H1 p = none) (hn : n ≤ sizeLine)
    (hgo : ∀ i H2, i < n → Same H1 H2 → J.go i H2 ∧ ∀ x H3, J.yld i H2 x H3 → ∀ (R : V → Hp → Prop) (R0 : Hp → Prop), (∀ (d : D) (v : V) H6, f i = some d → Same H2 H6 → Rep H6 d v → R v H6) → (∀ H5, f i = none → Same H2 H5 → R0 H5) →
      g x b H3 fun σ4 H4 => tt σ4 H4 fun ok H5 => if ok = true then te σ4 H5 R else R0 H5)
    (hd : ∀ (vs : List V) H2, Same H1 H2 → H2 p = some (.lst vs) → Reps H2 ((List.range n).filterMap f) vs → J.stop n H2 ∧ C H2) :
    ∃ W : Nat → Nat → List V → Hp → Prop, (∃ m, W 0 m [] (upd H1 p (.lst []))) ∧ ∀ i m acc H2, W i m acc H2 → (J.stop i H2 ∧ C H2) ∨ (J.go i H2 ∧ ∀ x H3, J.yld i H2 x H3 → g x b H3 fun σ4 H4 => tt σ4 H4 fun ok H5 =>
      if ok = true then te σ4 H5 fun v H6 => H6 p = some (.lst acc) ∧ acc.length < sizeLine ∧ ∃ m', m' < m ∧ W (i + 1) m' (acc ++ [v]) (upd H6 p (.lst (acc ++ [v]))) else ∃ m', m' < m ∧ W (i + 1) m' acc H5) := by
  refine comp_by (Q := fun _ H => C H) n (fun i acc H2 => Reps H2 ((List.range i).filterMap f) acc ∧ H2 p = some (.lst acc) ∧ Same H1 H2) ⟨rfl, upd_same, same_new hp _⟩ ?_ ?_
  · rintro i acc H2 hi ⟨ra, h2, s2⟩
    obtain ⟨g1, g2⟩ := hgo i H2 hi s2
    have lng : acc.length < sizeLine := by
      have h1 := ra.length
      have := List.length_filterMap_le f (List.range i)
      rw [List.length_range] at this
      omega
    refine ⟨g1, fun x H3 y => g2 x H3 y _ _ (fun d v H6 e s6 r6 => ⟨s6 _ _ h2, lng, nx hi ⟨?_, upd_same, same_upd (s2.trans s6) hp⟩⟩) fun H5 e s5 => nx hi ⟨?_, s5 _ _ h2, s2.trans s5⟩⟩
    · rw [List.range_succ, List.filterMap_append]
      have e1 : List.filterMap f [i] = [d] := by simp [e]
      rw [e1]
      exact ((ra.mono s6).append (Reps.one r6)).updL (s6 _ _ h2)
    · rw [List.range_succ, List.filterMap_append]
      have e1 : List.filterMap f [i] = [] := by simp [e]
      rw [e1, List.append_nil]
      exact ra.mono s5
  · rintro acc H2 ⟨ra, h2, s2⟩
    exact hd acc H2 s2 h2 ra
end L3
end
section
set_option maxHeartbeats 2000000
namespace K22
open PySem L2 L3 KM PyProof.Rows
seal L2.PE L2.PS L2.PSs L2.PT L2.PW L2.PA L2.PG L2.PGs L2.PI L2.PC L2.PO L2.PPs L2.PK L3.PIf
variable {P : Program} {w : World} {K : PySem.W.Frag} {mg : Str → Option Value} {base : Heap} {t : Adr}
abbrev Sp2 := List Nat × Str
def strV : V → Option Str
  | .str y => some y
  | _ => none
def ruleS (inb : Str → Bool) (d : D) : Option Str := strV (ruleD inb d)
theorem ruleS_cases (inb : Str → Bool) (d : D) : (ruleD inb d = .non ∧ ruleS inb d = none) ∨ ∃ y : Str, ruleD inb d = .str y ∧ ruleS inb d = some y ∧ y.length ≤ 1000 ∧ cmpD (.str y) = true := by
  have st : ∀ y : Str, ruleD inb d = .str y → y.length ≤ 1000 → cmpD (.str y) = true → (ruleD inb d = .non ∧ ruleS inb d = none) ∨ ∃ y : Str, ruleD inb d = .str y ∧ ruleS inb d = some y ∧ y.length ≤ 1000 ∧ cmpD (.str y) = true := fun y e h1 h2 => .inr ⟨y, e, by unfold ruleS; rw [e]; rfl, h1, h2⟩
  have nn : ruleD inb d = .non → (ruleD inb d = .non ∧ ruleS inb d = none) ∨ ∃ y : Str, ruleD inb d = .str y ∧ ruleS inb d = some y ∧ y.length ≤ 1000 ∧ cmpD (.str y) = true := fun e => .inl ⟨e, by unfold ruleS; rw [e]; rfl⟩
  have cs : ruleD inb d = .non ∨ ∃ y ∈ (["name", "fun", "like", "first", "second", "zero", "next"] : List Str), ruleD inb d = .str y := by
    unfold ruleD
    split
    · unfold ruleW nameB
      repeat' split
      all_goals first | exact .inl rfl | exact .inr ⟨_, by decide +kernel, rfl⟩
    · exact .inl rfl
  rcases cs with h | ⟨y, hy, h⟩
  · exact nn h
  · have hb : y.length ≤ 1000 ∧ cmpD (.str y) = true := by
      simp only [List.mem_cons, List.not_mem_nil, or_false] at hy
      rcases hy with rfl | rfl | rfl | rfl | rfl | rfl | rfl <;> exact ⟨by decide +kernel, by decide +kernel⟩
    exact st y h hb.1 hb.2
def stR (inb : Str → Bool) (r : Rp) : Option Sp2 := (ruleS inb r.2).map fun y => (r.1, y)
def stp (inb : Str → Bool) (d : D) : List Sp2 := (rowsD [] d).filterMap (stR inb)
def prD (r : Sp2) : D := .tup [plD r.1, .str r.2]
def shR (q : List Nat) (r : Rp) : Rp := (q ++ r.1, r.2)
mutual
theorem rowsD_sh (q : List Nat) : ∀ (pl : List Nat) (d : D), rowsD (q ++ pl) d = (rowsD pl d).map (shR q)
  | pl, .tup (.str x :: ps) => by
    rw [rowsD, rowsD, List.map_cons]
    congr 1
    split
    · rfl
    · exact rowsL_sh q pl 0 ps
  | pl, .tup [] => by simp [rowsD]
  | pl, .tup (.non :: _) => by simp [rowsD]
  | pl, .tup (.bl _ :: _) => by simp [rowsD]
  | pl, .tup (.int _ :: _) => by simp [rowsD]
  | pl, .tup (.tup _ :: _) => by simp [rowsD]
  | pl, .non => by simp [rowsD]
  | pl, .bl _ => by simp [rowsD]
  | pl, .int _ => by simp [rowsD]
  | pl, .str _ => by simp [rowsD]
theorem rowsL_sh (q : List Nat) : ∀ (pl : List Nat) (j : Nat) (ds : List D), rowsL (q ++ pl) j ds = (rowsL pl j ds).map (shR q)
  | pl, j, [] => by simp [rowsL]
  | pl, j, d :: ds => by
    rw [rowsL, rowsL, List.map_append, List.append_assoc, rowsD_sh q (pl ++ [j]) d, rowsL_sh q pl (j + 1) ds]
end
theorem rowsL_snoc (pl : List Nat) : ∀ (ds : List D) (j : Nat) (e : D), rowsL pl j (ds ++ [e]) = rowsL pl j ds ++ rowsD (pl ++ [j + ds.length]) e
  | [], j, e => by simp [rowsL]
  | d :: ds, j, e => by
    rw [List.cons_append, rowsL, rowsL, rowsL_snoc pl ds (j + 1) e, List.append_assoc, List.length_cons, show j + 1 + ds.length = j + (ds.length + 1) by omega]
def consS (i : Nat) (r : Sp2) : Sp2 := (i :: r.1, r.2)
theorem stp_shift (inb : Str → Bool) (i : Nat) (d : D) : (rowsD [i] d).filterMap (stR inb) = (stp inb d).map (consS i) := by
  have h := rowsD_sh [i] [] d
  rw [List.append_nil] at h
  rw [h, stp, List.filterMap_map, List.map_filterMap]
  congr 1
  funext r
  show (ruleS inb r.2).map _ = ((ruleS inb r.2).map _).map _
  cases ruleS inb r.2 <;> rfl
def stpT (inb : Str → Bool) (ds : List D) : List Sp2 := (rowsL [] 0 ds).filterMap (stR inb)
theorem stpT_snoc (inb : Str → Bool) (ds : List D) (e : D) : stpT inb (ds ++ [e]) = stpT inb ds ++ (stp inb e).map (consS ds.length) := by
  unfold stpT
  rw [rowsL_snoc, List.filterMap_append, ← stp_shift]
  simp
theorem stp_eq (inb : Str → Bool) (x : Str) (ps : List D) : stp inb (.tup (.str x :: ps)) = (match ruleS inb (.tup (.str x :: ps)) with | some y => [(([] : List Nat), y)] | none => []) ++ stpT inb (kidsD x ps) := by
  unfold stp
  rw [rowsD_eq, List.filterMap_cons]
  unfold stR stpT stR
  cases ruleS inb (.tup (.str x :: ps)) <;> rfl
theorem stp_len (inb : Str → Bool) (d : D) : (stp inb d).length ≤ knots d := Nat.le_trans (List.length_filterMap_le _ _) (rowsD_len [] d)
mutual
theorem rowsD_dp : ∀ (d : D) (pl : List Nat), ∀ r ∈ rowsD pl d, r.1.length ≤ pl.length + depth d
  | .tup (.str x :: ps), pl, r, hr => by
    rw [rowsD] at hr
    rcases List.mem_cons.mp hr with rfl | hr
    · exact Nat.le_add_right _ _
    · split at hr
      · cases hr
      · have := rowsL_dp ps pl 0 r hr
        simp only [depth, depthL]
        omega
  | .tup [], pl, r, hr => by simp [rowsD] at hr
  | .tup (.non :: _), pl, r, hr => by simp [rowsD] at hr
  | .tup (.bl _ :: _), pl, r, hr => by simp [rowsD] at hr
  | .tup (.int _ :: _), pl, r, hr => by simp [rowsD] at hr
  | .tup (.tup _ :: _), pl, r, hr => by simp [rowsD] at hr
  | .non, pl, r, hr => by simp [rowsD] at hr
  | .bl _, pl, r, hr => by simp [rowsD] at hr
  | .int _, pl, r, hr => by simp [rowsD] at hr
  | .str _, pl, r, hr => by simp [rowsD] at hr
theorem rowsL_dp : ∀ (ds : List D) (pl : List Nat) (j : Nat), ∀ r ∈ rowsL pl j ds, r.1.length ≤ pl.length + 1 + depthL ds
  | [], pl, j, r, hr => by rw [rowsL] at hr; cases hr
  | d :: ds, pl, j, r, hr => by
    rw [rowsL] at hr
    simp only [depthL]
    rcases List.mem_append.mp hr with hr | hr
    · have := rowsD_dp d (pl ++ [j]) r hr
      simp only [List.length_append, List.length_singleton] at this
      omega
    · have := rowsL_dp ds pl (j + 1) r hr
      omega
end
theorem stp_mem {inb : Str → Bool} {d : D} {r : Sp2} (h : r ∈ stp inb d) : r.1.length ≤ depth d ∧ r.2.length ≤ 1000 ∧ cmpD (.str r.2) = true := by
  obtain ⟨r', h1, h2⟩ := List.mem_filterMap.mp h
  have h3 := rowsD_dp d [] r' h1
  unfold stR at h2
  rcases ruleS_cases inb r'.2 with ⟨_, e⟩ | ⟨y, _, e, hy, hc⟩
  · rw [e] at h2
    cases h2
  · rw [e] at h2
    cases h2
    exact ⟨by simpa using h3, hy, hc⟩
theorem stpT_len (inb : Str → Bool) (ds : List D) : (stpT inb ds).length ≤ knotsL ds := Nat.le_trans (List.length_filterMap_le _ _) (rowsL_len [] 0 ds)
theorem rep_cons {H : Hp} {i : Nat} {pl : List Nat} {a : Addr} {vs : List V} (h : H a = some (.tup (V.int i :: vs))) (r : Reps H (pl.map fun i => D.int (i : Nat)) vs) : Rep H (plD (i :: pl)) (.ref a) := ⟨a, _, rfl, h, _, _, rfl, rfl, r⟩
def spSteps (n : Nat) : Sp := fun vs H Q _ => ∃ (d : D) (v : V) (b : Addr) (kvs : List (Key × V)), vs = [v, .ref b] ∧ Rep H d v ∧ Rz d n ∧ n ≤ 100 ∧ H b = some (.dK kvs) ∧ ∀ (a : Addr) (us : List V) (H' : Hp), H a = none → Same H H' → H' a = some (.lst us) → Reps H' ((stp (inB kvs) d).map prD) us → Q (.ref a) H'
theorem sc_steps_of : FnScope ["thing", "book", "own", "steps", "number", "kid"] ["thing", "book"] (defScope s_steps_of) := ⟨rfl, rfl, rfl, by decide +kernel, rfl, by decide +kernel, by decide +kernel⟩
theorem st_steps_of {n : Nat} (D : Df K mg "steps_of" s_steps_of ["thing", "book"]) (M : Mg mg t) (F_rule_of : Cal P w K mg CX0 "rule_of" (1) ["thing", "book"] spRule) (F_kids_of : Cal P w K mg CX0 "kids_of" (1) ["thing"] spKids) (F_steps_of : Cal P w K mg CX0 "steps_of" (n + 3) ["thing", "book"] (spSteps n)) : Cal P w K mg CX0 "steps_of" (n + 4) ["thing", "book"] (spSteps (n + 1)) := by
  refine D.ok sc_steps_of (fun vs H Q E h => ?_) (fun base f cdv A outer s H vs Q E hr h => ?_)
  · obtain ⟨d, v, b, kvs, rfl, _⟩ := h
    rfl
  obtain ⟨d, v, b, kvs, rfl, r, rz, hn, hb, q⟩ := h
  obtain ⟨x, ps, k, rfl, wf, hps⟩ := wf_ps rz.wf
  have hk4 := kids4 wf
  refine ⟨_, (pss_cons (ps_set (i := 2) sc_steps_of.nd rfl (by first | exact Or.inl rfl | exact Or.inr rfl) (pe_fn F_rule_of (hr.mono (by omega)) rfl pass0 (pa_cons (pv 0) (pa_cons (pv 1) pa_nil))))
      (pss_cons (ps_set (i := 3) sc_steps_of.nd rfl (by first | exact Or.inl rfl | exact Or.inr rfl) (pe_ifExp (pt_cmpR op_isN (pv 2) pe_non (nomark _)) (pe_lst pa_nil) (pe_lst (pa_cons (pe_tup (pa_cons (pe_tup pa_nil) (pa_cons (pv 2) pa_nil))) pa_nil))))
      (pss_cons (ps_for PassesOwn.never rfl (pi_enumL rfl M.n_enumerate (pa_cons (pe_fn F_kids_of (hr.mono (by omega)) rfl pass0 (pa_cons (pv 0) pa_nil)) pa_nil)) (pg_tup (n := 2) rfl (pgs_cons (pg_name (i := 4) sc_steps_of.nd rfl (by first | exact Or.inl rfl | exact Or.inr rfl)) (pgs_cons (pg_name (i := 5) sc_steps_of.nd rfl (by first | exact Or.inl rfl | exact Or.inr rfl)) pgs_nil))) (pss_one (ps_expr (pe_bm PySem.F.plainAttrs_list PySem.F.slot_list_extend PySem.F.type_list_extend mt_extend (pv 3) (pa_cons (pe_comp (N' := ["place", "rule", "number"]) (own := 2) (fr := [4]) rfl (blk_of (N := ["thing", "book", "own", "steps", "number", "kid"]) (sc := defScope s_steps_of) rfl rfl rfl (by decide +kernel)) (pi_list (pe_fn F_steps_of (hr.mono (by omega)) rfl pass0 (pa_cons (pv 5) (pa_cons (pv 1) pa_nil)))) (own_pair (n := 2) (by decide) (by decide)) (fun _ _ _ => (pg_tup (n := 2) rfl (pgs_cons (pg_name (i := 0) (show List.Nodup (["place", "rule", "number"] : List Str) by decide +kernel) rfl (Or.inl rfl)) (pgs_cons (pg_name (i := 1) (show List.Nodup (["place", "rule", "number"] : List Str) by decide +kernel) rfl (Or.inl rfl)) pgs_nil)))) (fun _ _ _ => pif_nil) (fun _ _ _ => (pe_tup (pa_cons (pe_op (op_catTK (K := K)) (pe_tup (pa_cons (pv 2) pa_nil)) (pv 0)) (pa_cons (pv 1) pa_nil))))) pa_nil)))))
      (pss_one (ps_ret (pv 3)))))), ?_⟩
  try dsimp only [cxK, cxK2]
  refine let4 ?_
  intro _ _ _ _
  refine ⟨_, rfl, _, rfl, _, v, b, kvs, rfl, r, rz.wf, hb, fun H1 s1 => ?_⟩
  have key : ∀ R : VK, (∀ (p2 : Addr) (ws0 : List V) (H2 : Hp), H p2 = none → Same H H2 → H2 p2 = some (.lst ws0) → Reps H2 ((match ruleS (inB kvs) (KM.D.tup (.str x :: ps)) with | some y => [(([] : List Nat), y)] | none => []).map prD) ws0 → R (.ref p2) H2) →
      (tIf (tTest (tOp (fun x y H Q => y = V.non ∧ Q (V.bl (decide (x = V.non))) H) (tVar 2) (tC V.non))) (tLst tNil) (tLst (tCons (tTup (tCons (tTup tNil) (tCons (tVar 2) tNil))) tNil))) [some v, some (V.ref b), some (ruleD (inB kvs) (.tup (.str x :: ps))), none, none, none] H1 R := fun R hR => by
    rcases ruleS_cases (inB kvs) (.tup (.str x :: ps)) with ⟨e1, e2⟩ | ⟨y, e1, e2, hy, _⟩
    · rw [e1]
      rw [e2] at hR
      refine ⟨_, rfl, rfl, _, rfl, ite2 (fun _ => ⟨(by show 0 ≤ sizeLine; decide), fun p2 hp2 => ?_⟩) (fun c => absurd (decide_eq_true rfl) c)⟩
      exact hR p2 [] _ (s1.free hp2) (s1.trans (same_new hp2 _)) upd_same rfl
    · rw [e1]
      rw [e2] at hR
      refine ⟨_, rfl, rfl, _, rfl, ite2 (fun c => absurd (of_decide_eq_true c) (by simp)) (fun _ => ⟨(by show 0 ≤ sizeLine; decide), fun p0 hp0 => ⟨_, rfl, (by show 2 ≤ sizeLine; decide), fun p1 hp1 => ⟨(by show 1 ≤ sizeLine; decide), fun p2 hp2 => ?_⟩⟩⟩)⟩
      have t0 := same_new hp0 (.tup [])
      have t1 := same_new hp1 (.tup [V.ref p0, .str y])
      have t2 := same_new hp2 (.lst [V.ref p1])
      refine hR p2 [.ref p1] _ (s1.free (t0.free (t1.free hp2))) (s1.trans (t0.trans (t1.trans t2))) upd_same ?_
      exact ⟨_, _, rfl, ⟨p1, _, rfl, t2 _ _ upd_same, ⟨_, _, rfl, ⟨p0, [], rfl, t2 _ _ (t1 _ _ upd_same), rfl⟩, ⟨_, _, rfl, ⟨rfl, hy⟩, rfl⟩⟩⟩, rfl⟩
  refine key _ fun p2 ws0 H2 hp2 s2 h2 r2 => ?_
  clear key
  refine ⟨_, rfl, x, ps, v, rfl, r.mono s2, hps, fun p3 us H3 hp3 s3 h3 r3 => ?_⟩
  have l3 := r3.length
  have hkn := rz.kn
  have hkk := (knots_kids wf).1
  have n23 : p3 ≠ p2 := fun z => by
    rw [z, h2] at hp3
    cases hp3
  refine ⟨p3, us, rfl, SqL.of h3, ?_⟩
  generalize hpre : (match ruleS (inB kvs) (KM.D.tup (.str x :: ps)) with | some y => [(([] : List Nat), y)] | none => []) = pre at r2
  have lpre : pre.length ≤ 1 := by
    rw [← hpre]
    split <;> simp
  let Ifr : Nat → L2.St → Hp → Prop := (fun i σ' H' => ∃ (ws : List V) (nv kv : Option V), σ' = [some v, some (.ref b), some (ruleD (inB kvs) (.tup (.str x :: ps))), some (.ref p2), nv, kv] ∧ H' p2 = some (.lst ws) ∧ Reps H' ((pre ++ stpT (inB kvs) ((kidsD x ps).take i)).map prD) ws ∧ SameX p2 H3 H')
  refine for_by us.length Ifr ?_ ?_ ?_
  · refine ⟨ws0, none, none, rfl, s3 _ _ h2, ?_, fun _ _ _ h => h⟩
    rw [List.take_zero]
    have : stpT (inB kvs) [] = [] := by simp [stpT, rowsL]
    rw [this, List.append_nil]
    exact r2.mono s3
  · rintro i σ' H4 hi ⟨ws, nv, kv, rfl, h4, r4, s4⟩
    have h34 : H4 p3 = some (.lst us) := s4 _ _ n23 h3
    have ntl := not_tup_list (s3 _ _ h2)
    obtain ⟨di, hdi⟩ : ∃ di, (kidsD x ps)[i]? = some di := ⟨_, List.getElem?_eq_getElem (by omega)⟩
    obtain ⟨ui, hui, rui⟩ := r3.get hdi
    have rui := rui.monoX s4 ntl
    have hb4 : H4 b = some (.dK kvs) := s4 _ _ (fun z => by rw [z, hp2] at hb; cases hb) (s3 _ _ (s2 _ _ hb))
    refine ⟨⟨us, ui, SqL.of h34, hui⟩, ?_⟩
    rintro x' H4' ⟨p5, y, rfl, hp5, rfl, hy⟩
    have hy := hy us (SqL.of h34)
    rw [hui] at hy
    cases hy
    have s5 := same_new hp5 (.tup [V.int (i : Nat), ui])
    have rzi := rz.kid hdi
    have hsum : (stpT (inB kvs) ((kidsD x ps).take i)).length + (stp (inB kvs) di).length ≤ 8000000 := by
      have a1 := stpT_len (inB kvs) ((kidsD x ps).take (i + 1))
      rw [take_snoc hdi, stpT_snoc, List.length_append, List.length_map, ← take_snoc hdi] at a1
      have a2 : ∀ (l : List KM.D) (m : Nat), knotsL (l.take m) ≤ (l.map knots).sum := fun l => by
        induction l with
        | nil => intro m; simp [knotsL]
        | cons a l ih =>
          intro m
          cases m with
          | zero => simp [knotsL]
          | succ m =>
            have := ih m
            rw [List.take_succ_cons]
            simp only [knotsL, List.map_cons, List.sum_cons]
            omega
      have a3 := a2 (kidsD x ps) (i + 1)
      omega
    refine ⟨p5, _, rfl, SqT.of upd_same, rfl, _, _, rfl, _, _, rfl, rfl, ?_⟩
    refine ⟨_, rfl, .inl ⟨rfl, _, SqL.of (s5 _ _ h4)⟩, _, rfl, _, rfl, di, ui, b, kvs, rfl, rui.mono s5, rzi, (by omega), s5 _ _ hb4, fun p6 ws6 H6 hp6 s6 h6 r6 => ⟨p6, rfl, ⟨ws6, SqL.of h6⟩, fun p7 hp7 => ?_⟩⟩
    have l6 := r6.length
    rw [List.length_map] at l6
    refine comp_reps (stp (inB kvs) di).length (fun j => prD (consS i (((stp (inB kvs) di)[j]?).getD ([], "")))) hp7 (by rw [sizeLine_eq]; omega) (fun j H7 hj s7 => ⟨?_, ?_⟩) fun acc H7 s7 h7 r7 => ⟨?_, ?_⟩
    · obtain ⟨wj, hwj⟩ : ∃ wj, ws6[j]? = some wj := ⟨_, List.getElem?_eq_getElem (by omega)⟩
      exact ⟨_, wj, SqL.of (s7 _ _ h6), hwj⟩
    · rintro y H8 ⟨rfl, hy⟩ R hR
      obtain ⟨pj, hpj⟩ : ∃ pj, (stp (inB kvs) di)[j]? = some pj := ⟨_, List.getElem?_eq_getElem hj⟩
      obtain ⟨wj, hwj, rwj⟩ := r6.get (i := j) (d := prD pj) (by rw [List.getElem?_map, hpj]; rfl)
      have hx := hy ws6 (SqL.of (s7 _ _ h6))
      rw [hwj] at hx
      cases hx
      have rwj := rwj.mono s7
      obtain ⟨bq, _, rfl, hbq, ⟨v1, _, rfl, r1, ⟨v2, _, rfl, ⟨rfl, hy2⟩, rn⟩⟩⟩ := rwj
      cases (show _ = [] from rn)
      obtain ⟨bb, vs, rfl, hbb, rb⟩ := r1
      have lb := rb.length
      rw [List.length_map] at lb
      have hpl := (stp_mem (List.mem_of_getElem? hpj)).1
      have hdd := rzi.dp
      rw [hpj] at hR
      refine ⟨bq, _, rfl, SqT.of hbq, rfl, _, _, rfl, _, _, rfl, rfl, ?_⟩
      refine ⟨_, rfl, (by show 1 ≤ sizeLine; decide), fun p9 hp9 => ?_⟩
      have s9 := same_new hp9 (.tup [V.int (i : Nat)])
      refine ⟨_, rfl, p9, bb, _, _, rfl, rfl, SqT.of upd_same, SqT.of (s9 _ _ hbb), by simp, ?_, fun e => ?_, fun e p8 hp8 => ?_⟩
      · rw [sizeLine_eq, List.length_singleton]; omega
      · subst e
        refine ⟨_, rfl, (by show 2 ≤ sizeLine; decide), fun p10 hp10 => ?_⟩
        have s10 := same_new hp10 (.tup [V.ref p9, .str pj.2])
        exact hR _ _ (s9.trans s10) ⟨p10, _, rfl, upd_same, ⟨_, _, rfl, rep_cons (s10 _ _ upd_same) (rb.mono (s9.trans s10)), ⟨_, _, rfl, ⟨rfl, hy2⟩, rfl⟩⟩⟩
      · have s8 := s9.trans (same_new hp8 (.tup ([V.int (i : Nat)] ++ vs)))
        refine ⟨_, rfl, (by show 2 ≤ sizeLine; decide), fun p10 hp10 => ?_⟩
        have s10 := same_new hp10 (.tup [V.ref p8, .str pj.2])
        exact hR _ _ (s8.trans s10) ⟨p10, _, rfl, upd_same, ⟨_, _, rfl, rep_cons (s10 _ _ upd_same) (rb.mono (s8.trans s10)), ⟨_, _, rfl, ⟨rfl, hy2⟩, rfl⟩⟩⟩
    · exact ⟨_, SqL.of (s7 _ _ h6), by omega⟩
    · rw [range_map (fun l => prD (consS i l)) ([], "") (stp (inB kvs) di)] at r7
      have l4 := r4.length
      have l7 := r7.length
      rw [List.length_map, List.length_append] at l4
      rw [List.length_map] at l7
      have sh : Same H4 H7 := s5.trans (s6.trans s7)
      have h2' := sh _ _ h4
      refine ⟨p2, p7, _, _, rfl, rfl, h2', h7, ?_, ws ++ acc, _, _, rfl, upd_same, ?_, s4.trans (sh.x.trans (SameX.upd _))⟩
      · rw [sizeLine_eq]; omega
      · rw [take_snoc hdi, stpT_snoc, List.length_take]
        have e1 : min i (kidsD x ps).length = i := by omega
        rw [e1, ← List.append_assoc, List.map_append, List.map_map]
        exact ((r4.mono sh).append r7).updL h2'
  · rintro σ' H4 ⟨ws, nv, kv, rfl, h4, r4, s4⟩
    refine ⟨⟨us, SqL.of (s4 _ _ n23 h3), rfl⟩, _, rfl, ?_⟩
    rw [l3, List.take_length, ← hpre, ← stp_eq] at r4
    exact q p2 ws H4 hp2 (fun b' o' hb' => s4 b' o' (ne_of_none hb' hp2) (s3 _ _ (s2 _ _ hb'))) h4 r4
theorem c_steps_of (D : Df K mg "steps_of" s_steps_of ["thing", "book"]) (M : Mg mg t) (F_rule_of : Cal P w K mg CX0 "rule_of" (1) ["thing", "book"] spRule) (F_kids_of : Cal P w K mg CX0 "kids_of" (1) ["thing"] spKids) : ∀ n : Nat, Cal P w K mg CX0 "steps_of" (n + 3) ["thing", "book"] (spSteps n)
  | 0 => Cal.never D fun vs H Q E ⟨d, v, b, kvs, _, _, h, _⟩ => absurd h.dp (Nat.not_lt_zero _)
  | n + 1 => st_steps_of D M F_rule_of F_kids_of (c_steps_of D M F_rule_of F_kids_of n)
end K22
end
section
namespace L3
open PySem PySem.Spec PyProof.Rows L2 KM
def Mk (σ : L2.St) (H0 : Hp) (te : TE) (d : D) : Prop := ∀ H, Same H0 H → ∀ R : V → Hp → Prop, (∀ v H', Same H H' → Rep H' d v → R v H') → te σ H R
def Mks (σ : L2.St) (H0 : Hp) (ta : TA) (ds : List D) : Prop := ∀ H, Same H0 H → ∀ R : List V → Hp → Prop, (∀ vs H', Same H H' → Reps H' ds vs → R vs H') → ta σ H R
theorem mk_var {σ : L2.St} {H0 : Hp} {i : Nat} {v : V} {d : D} (h : σ[i]? = some (some v)) (r : Rep H0 d v) : Mk σ H0 (tVar i) d := fun H s R hR => ⟨v, h, hR v H (Same.refl H) (r.mono s)⟩
theorem mk_str {σ : L2.St} {H0 : Hp} {x : Str} (h : x.length ≤ 1000 := by decide +kernel) : Mk σ H0 (tC (.str x)) (.str x) := fun H _ R hR => hR _ H (Same.refl H) ⟨rfl, h⟩
theorem mks_nil {σ : L2.St} {H0 : Hp} : Mks σ H0 tNil [] := fun H _ R hR => hR [] H (Same.refl H) rfl
theorem mks_cons {σ : L2.St} {H0 : Hp} {te : TE} {ta : TA} {d : D} {ds : List D} (h1 : Mk σ H0 te d) (h2 : Mks σ H0 ta ds) : Mks σ H0 (tCons te ta) (d :: ds) := fun H s R hR =>
  h1 H s _ fun v H1 s1 r1 => h2 H1 (s.trans s1) _ fun vs H2 s2 r2 => hR _ H2 (s1.trans s2) ⟨v, vs, rfl, r1.mono s2, r2⟩
theorem mk_tup {σ : L2.St} {H0 : Hp} {ta : TA} {ds : List D} (h : Mks σ H0 ta ds) (hl : ds.length ≤ sizeLine := by decide) : Mk σ H0 (tTup ta) (.tup ds) := fun H s R hR =>
  h H s _ fun vs H1 s1 r1 => ⟨by rw [r1.length]; exact hl, fun p hp => hR _ _ (s1.trans (same_new hp _)) ⟨p, vs, rfl, upd_same, r1.mono (same_new hp _)⟩⟩
theorem mk_pick {σ : L2.St} {H0 : Hp} {K : PySem.W.Frag} {ta : TA} {ti : TE} {ds : List D} {j : Nat} {d : D} (h : Mks σ H0 ta ds) (hi : ∀ H (R : V → Hp → Prop), R (.int (j : Nat)) H → ti σ H R) (hd : ds[j]? = some d) (hl : ds.length ≤ sizeLine := by decide) : Mk σ H0 (tOp (rIxL K) (tLst ta) ti) d := fun H s R hR =>
  h H s _ fun vs H1 s1 r1 => ⟨by rw [r1.length]; exact hl, fun p hp => hi _ _ (by
    have t := same_new hp (.lst vs)
    obtain ⟨u, hu, ru⟩ := r1.get hd
    exact ⟨p, vs, _, u, rfl, rfl, SqL.of upd_same, atI_nat hu, hR u _ (s1.trans t) (ru.mono t)⟩)⟩
theorem mk_take {σ : L2.St} {H0 : Hp} {K : PySem.W.Frag} {ta : TA} {ti : TE} {R : V → Hp → Prop} (ds : List D) (j : Nat) (d : D) (h : Mks σ H0 ta ds) (hi : ∀ H (R : V → Hp → Prop), R (.int (j : Nat)) H → ti σ H R) (hd : ds[j]? = some d) (hl : ds.length ≤ sizeLine) (hR : ∀ v H', Same H0 H' → Rep H' d v → R v H') : tOp (rIxL K) (tLst ta) ti σ H0 R :=
  mk_pick h hi hd hl H0 (Same.refl _) R hR
end L3
end
section
set_option maxHeartbeats 2000000
namespace K22
open PySem L2 L3 KM PyProof.Rows
seal L2.PE L2.PS L2.PSs L2.PT L2.PW L2.PA L2.PG L2.PGs L2.PI L2.PC L2.PO L2.PPs L2.PK L3.PIf
variable {P : Program} {w : World} {K : PySem.W.Frag} {mg : Str → Option Value} {base : Heap} {t : Adr}
def spWrap (K : PySem.W.Frag) : Sp := fun vs H Q _ => ∃ (a p c : Addr) (ns : List Int) (i : Int) (k : Bool) (d : D) (v : V), vs = [.ref a, .ref p, v] ∧ Sg K a p c ns H i ∧ i < 2 ^ 50 ∧ Rep H d v ∧ wfG isStrD k d = true ∧
  ∀ (d' : D) (v' : V) (H' : Hp) (i' : Int), Ou K a p c ns H i k (depth d + 1) (knots d + 4) 1 d' v' H' i' → Q v' H'
theorem sc_law_wrapped : FnScope ["_law_script", "_law_tape", "_law_thing_here", "_law_way"] ["_law_script", "_law_tape", "_law_thing_here"] (defScope s_law_wrapped) := ⟨rfl, rfl, rfl, by decide +kernel, rfl, by decide +kernel, by decide +kernel⟩
theorem c_law_wrapped (D : Df K mg "_law_wrapped" s_law_wrapped ["_law_script", "_law_tape", "_law_thing_here"]) (M : Mg mg t) (F_law_draw : Cal P w K mg CX0 "_law_draw" (1) ["_law_script", "_law_tape", "_law_many"] (spDraw K)) : Cal P w K mg CX0 "_law_wrapped" (2) ["_law_script", "_law_tape", "_law_thing_here"] (spWrap K) := by
  refine D.ok sc_law_wrapped (fun vs H Q E h => ?_) (fun base f cdv A outer s H vs Q E hr h => ?_)
  · obtain ⟨a, p, c, ns, i, k, d, v, rfl, _⟩ := h
    rfl
  obtain ⟨a, p, c, ns, i, k, d, v, rfl, g, hi, r, wf, q⟩ := h
  have i0 := g.T.i0
  obtain ⟨x, ps, rfl⟩ := wf_form wf
  refine ⟨_, (pss_cons (ps_set (i := 3) sc_law_wrapped.nd rfl (by first | exact Or.inl rfl | exact Or.inr rfl) (pe_fn F_law_draw (hr.mono (by omega)) rfl pass0 (pa_cons (pv 0) (pa_cons (pv 1) (pa_cons pe_int pa_nil)))))
      (pss_cons (ps_if (pt_cmpR op_in_seq (pe_ix ix_tup (pv 2) pe_int (fun _ _ => rfl)) (pe_tup (pa_cons pe_str (pa_cons pe_str (pa_cons pe_str (pa_cons pe_str (pa_cons pe_str pa_nil)))))) rfl) (pss_one (ps_ret (pe_ix ix_list (pe_lst (pa_cons (pe_tup (pa_cons pe_str (pa_cons (pe_tup (pa_cons pe_str pa_nil)) (pa_cons (pv 2) pa_nil)))) (pa_cons (pe_tup (pa_cons pe_str (pa_cons (pv 2) (pa_cons (pe_tup (pa_cons pe_str pa_nil)) pa_nil)))) (pa_cons (pe_tup (pa_cons pe_str (pa_cons (pv 2) (pa_cons (pe_tup (pa_cons pe_str pa_nil)) pa_nil)))) pa_nil)))) (pe_op op_mod (pv 3) pe_int) (fun _ _ => rfl)))) pss_nil)
      (pss_cons (ps_if (pt_cmpR op_lt (pv 3) pe_int (nomark _)) (pss_one (ps_ret (pe_ix ix_list (pe_lst (pa_cons (pe_tup (pa_cons pe_str (pa_cons (pv 2) pa_nil))) (pa_cons (pe_tup (pa_cons pe_str (pa_cons (pv 2) pa_nil))) pa_nil))) (pv 3) (fun _ _ => rfl)))) pss_nil)
      (pss_cons (ps_if (pt_cmpR op_lt (pv 3) pe_int (nomark _)) (pss_one (ps_ret (pe_ix ix_list (pe_lst (pa_cons (pe_tup (pa_cons pe_str (pa_cons (pv 2) (pa_cons (pe_tup (pa_cons pe_str pa_nil)) pa_nil)))) (pa_cons (pe_tup (pa_cons pe_str (pa_cons (pe_tup (pa_cons pe_str pa_nil)) (pa_cons (pv 2) pa_nil)))) pa_nil))) (pe_op op_sub (pv 3) pe_int) (fun _ _ => rfl)))) pss_nil)
      (pss_cons (ps_if (pt_cmpR op_lt (pv 3) pe_int (nomark _)) (pss_one (ps_ret (pe_ix ix_list (pe_lst (pa_cons (pe_tup (pa_cons pe_str (pa_cons (pe_tup (pa_cons pe_str pa_nil)) (pa_cons (pe_tup (pa_cons pe_str pa_nil)) (pa_cons (pv 2) pa_nil))))) (pa_cons (pe_tup (pa_cons pe_str (pa_cons (pe_tup (pa_cons pe_str pa_nil)) (pa_cons (pv 2) pa_nil)))) pa_nil))) (pe_op op_sub (pv 3) pe_int) (fun _ _ => rfl)))) pss_nil)
      (pss_one (ps_ret (pe_ix ix_list (pe_lst (pa_cons (pe_tup (pa_cons pe_str (pa_cons (pe_tup (pa_cons pe_str pa_nil)) (pa_cons (pv 2) pa_nil)))) (pa_cons (pe_tup (pa_cons pe_str (pa_cons (pe_tup (pa_cons pe_str pa_nil)) (pa_cons (pv 2) (pa_cons (pe_tup (pa_cons pe_str pa_nil)) (pa_cons (pe_tup (pa_cons pe_str pa_nil)) pa_nil)))))) pa_nil))) (pe_op op_sub (pv 3) pe_int) (fun _ _ => rfl))))))))), ?_⟩
  try dsimp only [cxK, cxK2]
  refine let6 ?_
  intro _ _ _ _ _ _
  refine ⟨_, rfl, _, rfl, a, p, ns, i, 8, rfl, g.T, (by omega), (by decide), fun way H1 w0 w1 x1 h1 => ?_⟩
  have g1 := g.next x1 h1 (by omega)
  have r1 := g.rep x1 r
  obtain ⟨aa, us0, rfl, ha, v0, us, rfl, ⟨rfl, hx⟩, rp⟩ := id r1
  have ea : atI (V.str x :: us) 0 = some (.str x) := atI_nat (j := 0) rfl
  refine ⟨_, rfl, aa, _, _, _, rfl, rfl, SqT.of ha, ea, ?_⟩
  obtain ⟨_, _, hkw, _⟩ := wf_shape wf
  refine ⟨(by show 5 ≤ sizeLine; decide), fun p1 hp1 => ⟨p1, (["nat", "none", "all", "some", "same"] : List Str).map V.str, rfl, .inr (SqT.of upd_same), rfl, rfl, _, rfl, ?_⟩⟩
  have s1 := same_new hp1 (.tup [V.str "nat", .str "none", .str "all", .str "some", .str "same"])
  show if kindW x = true then _ else _
  rw [hkw]
  have r2 := r1.mono s1
  have g2 := g1.mono s1
  have x2 := x1.trans s1.x
  generalize upd H1 p1 (.tup [V.str "nat", .str "none", .str "all", .str "some", .str "same"]) = H2 at s1 r2 g2 x2 ⊢
  have d1 : 1 ≤ depth (.tup (.str x :: ps)) := by simp only [depth, depthL]; omega
  generalize KM.D.tup (.str x :: ps) = d at wf q r2 d1
  clear hkw r1 rp r
  have fin : ∀ (d' : KM.D), wfG isStrD k d' = true → depth d' ≤ depth d + 1 → knots d' ≤ knots d + 4 → ∀ (v' : V) (H' : Hp), Same H2 H' → Rep H' d' v' → Q v' H' := fun d' hw hd hk v' H' sh rh =>
    q d' v' H' (i + 1) ⟨rh, hw, hd, hk, x2.trans sh.x, g2.mono sh, by omega, by omega⟩
  have nat1 : wfG isStrD true (.tup [.str "nat"]) = true := wf_nat
  have zero1 : wfG isStrD false (.tup [.str "zero"]) = true := wf_zero
  cases k with
  | true =>
    refine iteT ?_
    have cs : way % 3 = ((0 : Nat) : Int) ∨ way % 3 = ((1 : Nat) : Int) ∨ way % 3 = ((2 : Nat) : Int) := by omega
    rcases cs with cw | cw | cw
    · refine mk_take [.tup [.str "all", .tup [.str "nat"], d], .tup [.str "some", d, .tup [.str "nat"]], .tup [.str "all", d, .tup [.str "nat"]]] 0 (.tup [.str "all", .tup [.str "nat"], d]) ?_ (fun H R h => ⟨_, rfl, _, _, rfl, rfl, (by show (0 : Int) < 3; decide), by show R (V.int (way % 3)) H; rw [cw]; exact h⟩) rfl (by simp only [List.length_cons, List.length_nil]; decide) (fin _ (wf_all nat1 wf) ?_ ?_)
      · repeat' first | exact mk_str | exact mks_nil | apply mks_cons | apply mk_tup | exact mk_var rfl (by assumption) | (simp only [List.length_cons, List.length_nil]; decide)
      · apply KM.d0; with_reducible repeat' first | apply KM.q0i | apply KM.q0s | apply KM.q0 | apply KM.q4 | apply KM.q3 | apply KM.q2 | apply KM.q1 | omega
      · simp only [knots, knotsL]; omega
    · refine mk_take [.tup [.str "all", .tup [.str "nat"], d], .tup [.str "some", d, .tup [.str "nat"]], .tup [.str "all", d, .tup [.str "nat"]]] 1 (.tup [.str "some", d, .tup [.str "nat"]]) ?_ (fun H R h => ⟨_, rfl, _, _, rfl, rfl, (by show (0 : Int) < 3; decide), by show R (V.int (way % 3)) H; rw [cw]; exact h⟩) rfl (by simp only [List.length_cons, List.length_nil]; decide) (fin _ (wf_some wf nat1) ?_ ?_)
      · repeat' first | exact mk_str | exact mks_nil | apply mks_cons | apply mk_tup | exact mk_var rfl (by assumption) | (simp only [List.length_cons, List.length_nil]; decide)
      · apply KM.d0; with_reducible repeat' first | apply KM.q0i | apply KM.q0s | apply KM.q0 | apply KM.q4 | apply KM.q3 | apply KM.q2 | apply KM.q1 | omega
      · simp only [knots, knotsL]; omega
    · refine mk_take [.tup [.str "all", .tup [.str "nat"], d], .tup [.str "some", d, .tup [.str "nat"]], .tup [.str "all", d, .tup [.str "nat"]]] 2 (.tup [.str "all", d, .tup [.str "nat"]]) ?_ (fun H R h => ⟨_, rfl, _, _, rfl, rfl, (by show (0 : Int) < 3; decide), by show R (V.int (way % 3)) H; rw [cw]; exact h⟩) rfl (by simp only [List.length_cons, List.length_nil]; decide) (fin _ (wf_all wf nat1) ?_ ?_)
      · repeat' first | exact mk_str | exact mks_nil | apply mks_cons | apply mk_tup | exact mk_var rfl (by assumption) | (simp only [List.length_cons, List.length_nil]; decide)
      · apply KM.d0; with_reducible repeat' first | apply KM.q0i | apply KM.q0s | apply KM.q0 | apply KM.q4 | apply KM.q3 | apply KM.q2 | apply KM.q1 | omega
      · simp only [knots, knotsL]; omega
  | false =>
    refine iteF ?_
    refine ⟨_, rfl, _, _, rfl, rfl, _, rfl, ite2 (fun c1 => ?_) (fun c1 => ?_)⟩
    · have c1 : way < 2 := of_decide_eq_true c1
      have cs : way = ((0 : Nat) : Int) ∨ way = ((1 : Nat) : Int) := by omega
      rcases cs with cw | cw
      · refine mk_take [.tup [.str "next", d], .tup [.str "second", d]] 0 (.tup [.str "next", d]) ?_ (fun H R h => ⟨_, rfl, cw ▸ h⟩) rfl (by simp only [List.length_cons, List.length_nil]; decide) (fin _ (wf_next wf) ?_ ?_)
        · repeat' first | exact mk_str | exact mks_nil | apply mks_cons | apply mk_tup | exact mk_var rfl (by assumption) | (simp only [List.length_cons, List.length_nil]; decide)
        · apply KM.d0; with_reducible repeat' first | apply KM.q0i | apply KM.q0s | apply KM.q0 | apply KM.q4 | apply KM.q3 | apply KM.q2 | apply KM.q1 | omega
        · simp only [knots, knotsL]; omega
      · refine mk_take [.tup [.str "next", d], .tup [.str "second", d]] 1 (.tup [.str "second", d]) ?_ (fun H R h => ⟨_, rfl, cw ▸ h⟩) rfl (by simp only [List.length_cons, List.length_nil]; decide) (fin _ (wf_second wf) ?_ ?_)
        · repeat' first | exact mk_str | exact mks_nil | apply mks_cons | apply mk_tup | exact mk_var rfl (by assumption) | (simp only [List.length_cons, List.length_nil]; decide)
        · apply KM.d0; with_reducible repeat' first | apply KM.q0i | apply KM.q0s | apply KM.q0 | apply KM.q4 | apply KM.q3 | apply KM.q2 | apply KM.q1 | omega
        · simp only [knots, knotsL]; omega
    have c1 : ¬ way < 2 := of_decide_eq_false (Bool.eq_false_iff.mpr c1)
    refine ⟨_, rfl, _, _, rfl, rfl, _, rfl, ite2 (fun c2 => ?_) (fun c2 => ?_)⟩
    · have c2 : way < 4 := of_decide_eq_true c2
      have cs : way - 2 = ((0 : Nat) : Int) ∨ way - 2 = ((1 : Nat) : Int) := by omega
      rcases cs with cw | cw
      · refine mk_take [.tup [.str "app", d, .tup [.str "zero"]], .tup [.str "app", .tup [.str "zero"], d]] 0 (.tup [.str "app", d, .tup [.str "zero"]]) ?_ (fun H R h => ⟨_, rfl, _, _, rfl, rfl, by show R (V.int (way - 2)) H; rw [cw]; exact h⟩) rfl (by simp only [List.length_cons, List.length_nil]; decide) (fin _ (wf_app wf zero1) ?_ ?_)
        · repeat' first | exact mk_str | exact mks_nil | apply mks_cons | apply mk_tup | exact mk_var rfl (by assumption) | (simp only [List.length_cons, List.length_nil]; decide)
        · apply KM.d0; with_reducible repeat' first | apply KM.q0i | apply KM.q0s | apply KM.q0 | apply KM.q4 | apply KM.q3 | apply KM.q2 | apply KM.q1 | omega
        · simp only [knots, knotsL]; omega
      · refine mk_take [.tup [.str "app", d, .tup [.str "zero"]], .tup [.str "app", .tup [.str "zero"], d]] 1 (.tup [.str "app", .tup [.str "zero"], d]) ?_ (fun H R h => ⟨_, rfl, _, _, rfl, rfl, by show R (V.int (way - 2)) H; rw [cw]; exact h⟩) rfl (by simp only [List.length_cons, List.length_nil]; decide) (fin _ (wf_app zero1 wf) ?_ ?_)
        · repeat' first | exact mk_str | exact mks_nil | apply mks_cons | apply mk_tup | exact mk_var rfl (by assumption) | (simp only [List.length_cons, List.length_nil]; decide)
        · apply KM.d0; with_reducible repeat' first | apply KM.q0i | apply KM.q0s | apply KM.q0 | apply KM.q4 | apply KM.q3 | apply KM.q2 | apply KM.q1 | omega
        · simp only [knots, knotsL]; omega
    have c2 : ¬ way < 4 := of_decide_eq_false (Bool.eq_false_iff.mpr c2)
    refine ⟨_, rfl, _, _, rfl, rfl, _, rfl, ite2 (fun c3 => ?_) (fun c3 => ?_)⟩
    · have c3 : way < 6 := of_decide_eq_true c3
      have cs : way - 4 = ((0 : Nat) : Int) ∨ way - 4 = ((1 : Nat) : Int) := by omega
      rcases cs with cw | cw
      · refine mk_take [.tup [.str "pair", .tup [.str "nat"], .tup [.str "zero"], d], .tup [.str "fun", .tup [.str "nat"], d]] 0 (.tup [.str "pair", .tup [.str "nat"], .tup [.str "zero"], d]) ?_ (fun H R h => ⟨_, rfl, _, _, rfl, rfl, by show R (V.int (way - 4)) H; rw [cw]; exact h⟩) rfl (by simp only [List.length_cons, List.length_nil]; decide) (fin _ (wf_pair nat1 zero1 wf) ?_ ?_)
        · repeat' first | exact mk_str | exact mks_nil | apply mks_cons | apply mk_tup | exact mk_var rfl (by assumption) | (simp only [List.length_cons, List.length_nil]; decide)
        · apply KM.d0; with_reducible repeat' first | apply KM.q0i | apply KM.q0s | apply KM.q0 | apply KM.q4 | apply KM.q3 | apply KM.q2 | apply KM.q1 | omega
        · simp only [knots, knotsL]; omega
      · refine mk_take [.tup [.str "pair", .tup [.str "nat"], .tup [.str "zero"], d], .tup [.str "fun", .tup [.str "nat"], d]] 1 (.tup [.str "fun", .tup [.str "nat"], d]) ?_ (fun H R h => ⟨_, rfl, _, _, rfl, rfl, by show R (V.int (way - 4)) H; rw [cw]; exact h⟩) rfl (by simp only [List.length_cons, List.length_nil]; decide) (fin _ (wf_fun nat1 wf) ?_ ?_)
        · repeat' first | exact mk_str | exact mks_nil | apply mks_cons | apply mk_tup | exact mk_var rfl (by assumption) | (simp only [List.length_cons, List.length_nil]; decide)
        · apply KM.d0; with_reducible repeat' first | apply KM.q0i | apply KM.q0s | apply KM.q0 | apply KM.q4 | apply KM.q3 | apply KM.q2 | apply KM.q1 | omega
        · simp only [knots, knotsL]; omega
    have c3 : ¬ way < 6 := of_decide_eq_false (Bool.eq_false_iff.mpr c3)
    simp only [tNext]
    have cs : way - 6 = ((0 : Nat) : Int) ∨ way - 6 = ((1 : Nat) : Int) := by omega
    rcases cs with cw | cw
    · refine mk_take [.tup [.str "like", .tup [.str "nat"], d], .tup [.str "rec", .tup [.str "nat"], d, .tup [.str "zero"], .tup [.str "zero"]]] 0 (.tup [.str "like", .tup [.str "nat"], d]) ?_ (fun H R h => ⟨_, rfl, _, _, rfl, rfl, by show R (V.int (way - 6)) H; rw [cw]; exact h⟩) rfl (by simp only [List.length_cons, List.length_nil]; decide) (fin _ (wf_like nat1 wf) ?_ ?_)
      · repeat' first | exact mk_str | exact mks_nil | apply mks_cons | apply mk_tup | exact mk_var rfl (by assumption) | (simp only [List.length_cons, List.length_nil]; decide)
      · apply KM.d0; with_reducible repeat' first | apply KM.q0i | apply KM.q0s | apply KM.q0 | apply KM.q4 | apply KM.q3 | apply KM.q2 | apply KM.q1 | omega
      · simp only [knots, knotsL]; omega
    · refine mk_take [.tup [.str "like", .tup [.str "nat"], d], .tup [.str "rec", .tup [.str "nat"], d, .tup [.str "zero"], .tup [.str "zero"]]] 1 (.tup [.str "rec", .tup [.str "nat"], d, .tup [.str "zero"], .tup [.str "zero"]]) ?_ (fun H R h => ⟨_, rfl, _, _, rfl, rfl, by show R (V.int (way - 6)) H; rw [cw]; exact h⟩) rfl (by simp only [List.length_cons, List.length_nil]; decide) (fin _ (wf_rec nat1 wf zero1 zero1) ?_ ?_)
      · repeat' first | exact mk_str | exact mks_nil | apply mks_cons | apply mk_tup | exact mk_var rfl (by assumption) | (simp only [List.length_cons, List.length_nil]; decide)
      · apply KM.d0; with_reducible repeat' first | apply KM.q0i | apply KM.q0s | apply KM.q0 | apply KM.q4 | apply KM.q3 | apply KM.q2 | apply KM.q1 | omega
      · simp only [knots, knotsL]; omega
def spUnder (K : PySem.W.Frag) : Sp := fun vs H Q _ => ∃ (a p c : Addr) (ns : List Int) (i : Int) (k : Bool) (d : D) (v : V), vs = [.ref a, .ref p, v] ∧ Sg K a p c ns H i ∧ i < 2 ^ 48 ∧ Rep H d v ∧ wfG isStrD k d = true ∧ depth d ≤ 16 ∧ knots d ≤ 300000 ∧
  ∀ (k' : Bool) (d' : D) (v' : V) (H' : Hp) (i' : Int), Ou K a p c ns H i k' 40 300000 100 d' v' H' i' → Q v' H'
theorem sc_law_under : FnScope ["_law_script", "_law_tape", "_law_thing_here", "_law_many", "_law_k"] ["_law_script", "_law_tape", "_law_thing_here"] (defScope s_law_under) := ⟨rfl, rfl, rfl, by decide +kernel, rfl, by decide +kernel, by decide +kernel⟩
theorem c_law_under (D : Df K mg "_law_under" s_law_under ["_law_script", "_law_tape", "_law_thing_here"]) (M : Mg mg t) (F_law_draw : Cal P w K mg CX0 "_law_draw" (1) ["_law_script", "_law_tape", "_law_many"] (spDraw K)) (F_law_wrapped : Cal P w K mg CX0 "_law_wrapped" (2) ["_law_script", "_law_tape", "_law_thing_here"] (spWrap K)) (F_law_measured : Cal P w K mg CX0 "_law_measured" (172) ["_law_thing_here"] (spMeas 41)) (F_law_great : Cal P w K mg CX0 "_law_great" (173) ["_law_thing_here"] (spGreat 41)) : Cal P w K mg CX0 "_law_under" (174) ["_law_script", "_law_tape", "_law_thing_here"] (spUnder K) := by
  refine D.ok sc_law_under (fun vs H Q E h => ?_) (fun base f cdv A outer s H vs Q E hr h => ?_)
  · obtain ⟨a, p, c, ns, i, k, d, v, rfl, _⟩ := h
    rfl
  obtain ⟨a, p, c, ns, i, k, d, v, rfl, g, hi, r, wf, hdp, hkn, q⟩ := h
  have i0 := g.T.i0
  refine ⟨_, (pss_cons (ps_if (pt_cmpR op_gt (pe_fn F_law_draw (hr.mono (by omega)) rfl pass0 (pa_cons (pv 0) (pa_cons (pv 1) (pa_cons pe_int pa_nil)))) pe_int (nomark _)) (pss_one (ps_ret (pv 2))) pss_nil)
      (pss_cons (ps_set (i := 3) sc_law_under.nd rfl (by first | exact Or.inl rfl | exact Or.inr rfl) (pe_fn F_law_draw (hr.mono (by omega)) rfl pass0 (pa_cons (pv 0) (pa_cons (pv 1) (pa_cons pe_int pa_nil)))))
      (pss_cons (ps_for PassesOwn.never rfl (pi_range1 rfl M.n_range (pa_cons (pe_op op_sub (pv 3) (pe_ix ix_tup (pe_fn F_law_measured (hr.mono (by omega)) rfl pass0 (pa_cons (pv 2) pa_nil)) pe_int (fun _ _ => rfl))) pa_nil)) (pg_name (i := 4) sc_law_under.nd rfl (by first | exact Or.inl rfl | exact Or.inr rfl)) (pss_one (ps_set (i := 2) sc_law_under.nd rfl (by first | exact Or.inl rfl | exact Or.inr rfl) (pe_fn F_law_wrapped (hr.mono (by omega)) rfl pass0 (pa_cons (pv 0) (pa_cons (pv 1) (pa_cons (pv 2) pa_nil)))))))
      (pss_cons (ps_if (pt_val (pe_fn F_law_great (hr.mono (by omega)) rfl pass0 (pa_cons (pv 2) pa_nil))) (pss_one (ps_ret (pe_tup (pa_cons pe_str pa_nil)))) pss_nil)
      (pss_one (ps_ret (pv 2))))))), ?_⟩
  try dsimp only [cxK, cxK2]
  refine let5 ?_
  intro _ _ _ _ _
  refine ⟨_, rfl, _, rfl, a, p, ns, i, 5, rfl, g.T, (by omega), (by decide), fun z1 H1 _ _ x1 h1 => ?_⟩
  have g1 := g.next x1 h1 (by omega)
  have r1 := g.rep x1 r
  refine ⟨_, _, rfl, rfl, _, rfl, ite2 (fun _ => ?_) (fun _ => ?_)⟩
  · exact ⟨_, rfl, q k d v H1 (i + 1) ⟨r1, wf, by omega, hkn, x1, g1, by omega, by omega⟩⟩
  refine ⟨_, rfl, _, rfl, a, p, ns, i + 1, 40, rfl, g1.T, (by omega), (by decide), fun many H2 m0 m1 x2 h2 => ?_⟩
  have g2 := g1.next x2 h2 (by omega)
  have r2 := g1.rep x2 r1
  have d1 : 1 ≤ depth d := by
    obtain ⟨x, ps, rfl⟩ := wf_form wf
    simp only [depth, depthL]; omega
  refine ⟨_, rfl, _, rfl, d, v, rfl, r2, ⟨⟨k, wf⟩, by omega, by omega⟩, fun q3 c3 H3 s3 _ _ h3 => ?_⟩
  have g3 := g2.mono s3
  have r3 := r2.mono s3
  have x3 := x1.trans (x2.trans s3.x)
  refine ⟨q3, _, _, _, rfl, rfl, SqT.of h3, atI_nat (j := 1) rfl, _, _, rfl, rfl, _, rfl, (by show -(2 ^ 62) ≤ many - ((depth d : Nat) : Int); omega), (by show many - ((depth d : Nat) : Int) < 2 ^ 62; omega), ?_⟩
  show ∃ W : Nat → Nat → L2.St → Hp → Prop, _
  let Ifr : Nat → L2.St → Hp → Prop := (fun j σ' H' => ∃ (d' : KM.D) (v' : V) (i' : Int) (kv : Option V), σ' = [some (.ref a), some (.ref p), some v', some (.int many), kv] ∧ Rep H' d' v' ∧ wfG isStrD k d' = true ∧ depth d' ≤ depth d + j ∧ knots d' ≤ knots d + 4 * j ∧ SameX p H H' ∧ Sg K a p c ns H' i' ∧ i + 2 ≤ i' ∧ i' ≤ i + 2 + j)
  refine for_by (many - ((depth d : Nat) : Int)).toNat Ifr ?_ ?_ ?_
  · exact ⟨d, v, i + 1 + 1, none, rfl, r3, wf, by omega, by omega, x3, g3, by omega, by omega⟩
  · rintro j σ' H4 hj ⟨d', v', i', kv, rfl, r4, w4, dp4, kn4, x4, g4, lo4, hi4⟩
    refine ⟨hj, ?_⟩
    rintro x' H4' ⟨rfl, rfl⟩
    refine ⟨_, rfl, _, rfl, _, rfl, a, p, c, ns, i', k, d', v', rfl, g4, (by omega), r4, w4, fun d5 v5 H5 i5 o => ?_⟩
    have a1 := o.dp
    have a2 := o.kn
    have a3 := o.lo
    have a4 := o.hi
    exact ⟨d5, v5, i5, _, rfl, o.r, o.wf, by omega, by omega, x4.trans o.sx, o.g, by omega, by omega⟩
  · rintro σ' H4 ⟨d', v', i', kv, rfl, r4, w4, dp4, kn4, x4, g4, lo4, hi4⟩
    refine ⟨Nat.le_refl _, ?_⟩
    refine ⟨_, rfl, d', v', rfl, r4, ⟨⟨k, w4⟩, by omega, by omega⟩, fun H5 s5 => ⟨_, rfl, ?_⟩⟩
    refine ite2 (fun _ => ?_) (fun cv => ?_)
    · refine ⟨(by show 1 ≤ sizeLine; decide), fun q1 e1 => ?_⟩
      exact q false _ _ _ _ (made (x4.trans s5.x) (g4.mono s5) e1 (rs rw_ r0) wf_zero (by apply KM.d0; with_reducible repeat' first | apply KM.q0i | apply KM.q0s | apply KM.q0 | apply KM.q4 | apply KM.q3 | apply KM.q2 | apply KM.q1 | omega) (by simp only [knots, knotsL]; omega) (by omega) (by omega))
    · have cv : vastD d' = false := Bool.eq_false_iff.mpr cv
      have hv : ¬ (knots d' > 600 ∨ depth d' > 40) := by
        intro z
        unfold vastD at cv
        simp at cv
        omega
      exact ⟨_, rfl, q k d' v' H5 i' ⟨r4.mono s5, w4, by omega, by omega, x4.trans s5.x, g4.mono s5, by omega, by omega⟩⟩
end K22
end
section
set_option maxHeartbeats 2000000
namespace K22
open PySem L2 L3 KM PyProof.Rows
seal L2.PE L2.PS L2.PSs L2.PT L2.PW L2.PA L2.PG L2.PGs L2.PI L2.PC L2.PO L2.PPs L2.PK L3.PIf
variable {P : Program} {w : World} {K : PySem.W.Frag} {mg : Str → Option Value} {base : Heap} {t : Adr}
def spSized (n : Nat) : Sp := fun vs H Q _ => ∃ m : Int, vs = [.int m] ∧ 1 ≤ m ∧ m < 2 ^ n ∧ ∀ (d : D) (v : V) (H' : Hp), Same H H' → Rep H' d v → wfG isStrD false d = true → depth d ≤ n → ((knots d : Nat) : Int) ≤ m → Q v H'
theorem sc_law_sized : FnScope ["_law_many"] ["_law_many"] (defScope s_law_sized) := ⟨rfl, rfl, rfl, by decide +kernel, rfl, by decide +kernel, by decide +kernel⟩
theorem st_law_sized {n : Nat} (D : Df K mg "_law_sized" s_law_sized ["_law_many"]) (M : Mg mg t) (F_law_sized : Cal P w K mg CX0 "_law_sized" (n + 1) ["_law_many"] (spSized n)) : Cal P w K mg CX0 "_law_sized" (n + 2) ["_law_many"] (spSized (n + 1)) := by
  refine D.ok sc_law_sized (fun vs H Q E h => ?_) (fun base f cdv A outer s H vs Q E hr h => ?_)
  · obtain ⟨m, rfl, _⟩ := h
    rfl
  obtain ⟨m, rfl, m1, m2, q⟩ := h
  rw [Int.pow_succ] at m2
  have one : 1 ≤ sizeLine := by decide
  refine ⟨_, (pss_cons (ps_if (pt_cmpR op_eq (pv 0) pe_int (nomark _)) (pss_one (ps_ret (pe_tup (pa_cons pe_str pa_nil)))) pss_nil)
      (pss_cons (ps_if (pt_cmpR op_eq (pv 0) pe_int (nomark _)) (pss_one (ps_ret (pe_tup (pa_cons pe_str (pa_cons (pe_tup (pa_cons pe_str pa_nil)) pa_nil))))) pss_nil)
      (pss_one (ps_ret (pe_tup (pa_cons pe_str (pa_cons (pe_fn F_law_sized (hr.mono (by omega)) rfl pass0 (pa_cons (pe_op op_fdiv (pe_op op_sub (pv 0) pe_int) pe_int) pa_nil)) (pa_cons (pe_fn F_law_sized (hr.mono (by omega)) rfl pass0 (pa_cons (pe_op op_sub (pe_op op_sub (pv 0) pe_int) (pe_op op_fdiv (pe_op op_sub (pv 0) pe_int) pe_int)) pa_nil)) pa_nil)))))))), ?_⟩
  try dsimp only [cxK, cxK2]
  refine let3 ?_
  intro _ _ _
  refine ⟨_, rfl, rfl, _, rfl, ite2 (fun c => ?_) (fun c => ?_)⟩
  · have c : V.int m = V.int 1 := of_decide_eq_true c
    injection c with c
    subst c
    exact ⟨one, fun p1 hp1 => q _ _ _ (same_new hp1 _) (rep_new hp1 (rs rw_ r0)) wf_zero (by apply KM.d0; with_reducible repeat' first | apply KM.q0i | apply KM.q0s | apply KM.q0 | apply KM.q4 | apply KM.q3 | apply KM.q2 | apply KM.q1 | omega) (by simp only [knots, knotsL]; omega)⟩
  have c : m ≠ 1 := fun z => c (by rw [z]; exact decide_eq_true rfl)
  refine ⟨_, rfl, rfl, _, rfl, ite2 (fun c2 => ?_) (fun c2 => ?_)⟩
  · have c2 : V.int m = V.int 2 := of_decide_eq_true c2
    injection c2 with c2
    subst c2
    refine ⟨one, fun p1 hp1 => ⟨(by show 2 ≤ sizeLine; decide), fun p2 hp2 => ?_⟩⟩
    have s1 := same_new hp1 (.tup [V.str "zero"])
    refine q _ _ _ (s1.trans (same_new hp2 _)) (rep_new hp2 (rs rw_ (rs (rep_new hp1 (rs rw_ r0)) r0))) (wf_next wf_zero) ?_ (by simp only [knots, knotsL]; omega)
    cases n with
    | zero => simp at m2
    | succ n => simp only [depth, depthL]; omega
  have c2 : m ≠ 2 := fun z => c2 (by rw [z]; exact decide_eq_true rfl)
  refine ⟨_, rfl, _, _, rfl, rfl, _, _, rfl, rfl, ⟨by decide, by decide⟩, (m - 1) / 2, rfl, (by omega), (by omega), fun d1 v1 H1 s1 r1 w1 a1 b1 => ?_⟩
  refine ⟨_, rfl, _, _, rfl, rfl, _, rfl, _, _, rfl, rfl, _, _, rfl, rfl, ⟨by decide, by decide⟩, _, _, rfl, rfl, m - 1 - (m - 1) / 2, rfl, (by omega), (by omega), fun d2 v2 H2 s2 r2 w2 a2 b2 => ?_⟩
  refine ⟨(by show 3 ≤ sizeLine; decide), fun p1 hp1 => ?_⟩
  refine q _ _ _ (s1.trans (s2.trans (same_new hp1 _))) (rep_new hp1 (rs rw_ (rs (r1.mono s2) (rs r2 r0)))) (wf_app w1 w2) ?_ ?_
  · apply KM.d0; with_reducible repeat' first | apply KM.q0i | apply KM.q0s | apply KM.q0 | apply KM.q4 | apply KM.q3 | apply KM.q2 | apply KM.q1 | omega
  · simp only [knots, knotsL]; omega
theorem c_law_sized (D : Df K mg "_law_sized" s_law_sized ["_law_many"]) (M : Mg mg t) : ∀ n : Nat, Cal P w K mg CX0 "_law_sized" (n + 1) ["_law_many"] (spSized n)
  | 0 => Cal.never D fun vs H Q E ⟨m, _, h1, h2, _⟩ => by
    have : m < 1 := h2
    omega
  | n + 1 => st_law_sized D M (c_law_sized D M n)
end K22
end
section
set_option maxHeartbeats 2000000
namespace K22
open PySem L2 L3 KM PyProof.Rows
seal L2.PE L2.PS L2.PSs L2.PT L2.PW L2.PA L2.PG L2.PGs L2.PI L2.PC L2.PO L2.PPs L2.PK L3.PIf
variable {P : Program} {w : World} {K : PySem.W.Frag} {mg : Str → Option Value} {base : Heap} {t : Adr}
def isNumD (d : D) : Bool := isIntD d && !isBlD d
def spNumber : Sp := fun vs H Q _ => ∃ d v, vs = [v] ∧ Rep H d v ∧ Q (.bl (isNumD d)) H
theorem sc_is_number : FnScope ["value"] ["value"] (defScope s_is_number) := ⟨rfl, rfl, rfl, by decide +kernel, rfl, by decide +kernel, by decide +kernel⟩
theorem c_is_number (D : Df K mg "is_number" s_is_number ["value"]) (M : Mg mg t) : Cal P w K mg CX0 "is_number" (1) ["value"] spNumber := by
  refine D.ok sc_is_number (fun vs H Q E h => ?_) (fun base f cdv A outer s H vs Q E hr h => ?_)
  · obtain ⟨d, v, rfl, _⟩ := h
    rfl
  obtain ⟨d, v, rfl, r, q⟩ := h
  refine ⟨_, (pss_one (ps_ret (pe_and (pe_callB call_isinst rfl M.n_isinstance bt_isinstance (pa_cons (pv 0) (pa_cons (pe_ty M.n_int bt_int rfl) pa_nil))) (pe_one (pe_not (pe_callB call_isinst rfl M.n_isinstance bt_isinstance (pa_cons (pv 0) (pa_cons (pe_ty M.n_bool bt_bool rfl) pa_nil)))))))), ?_⟩
  try dsimp only [cxK, cxK2]
  refine ⟨_, rfl, _, _, _, _, rfl, r.ty, kit_int _ d, _, rfl, ?_⟩
  refine ite2 (fun c => ?_) (fun c => ?_)
  · refine ⟨_, rfl, _, _, _, _, rfl, r.ty, kit_bl _ d, _, rfl, ?_⟩
    have e : isNumD d = !isBlD d := by unfold isNumD; rw [c]; rfl
    rw [e] at q
    exact q
  · have e : isNumD d = false := by unfold isNumD; rw [Bool.eq_false_iff.mpr c]; rfl
    rw [e] at q
    exact q
def abc : Str := "abcdefghijklmnopqrstuvwxyz"
def letB (c : Nat) : Bool := !(Builtin.Str.occurrences abc ⟨#[c]⟩ 0 abc.length 1).isEmpty
def nameD : D → Bool
  | .str x => decide ((1 : Int) ≤ x.length) && (decide ((x.length : Int) ≤ 12) && ((rows18.lookup x).isNone && x.cps.toList.all letB))
  | _ => false
def spIsName : Sp := fun vs H Q _ => ∃ d v, vs = [v] ∧ Rep H d v ∧ ∀ H', Same H H' → Q (.bl (nameD d)) H'
theorem range_letB (x : Str) : ((List.range x.cps.size).map fun i => V.bl (letB ((x.cps[i]?).getD 0))) = (x.cps.toList.map letB).map V.bl := by
  apply List.ext_getElem?
  intro i
  by_cases h : i < x.cps.size
  · simp [h]
  · simp [h]
theorem sc_is_name : FnScope ["value"] ["value"] (defScope s_is_name) := ⟨rfl, rfl, rfl, by decide +kernel, rfl, by decide +kernel, by decide +kernel⟩
theorem c_is_name (D : Df K mg "is_name" s_is_name ["value"]) (M : Mg mg t) {as : List Addr} (T : KD K t.KIDS_DUE rows18 as) : Cal P w K mg CX0 "is_name" (1) ["value"] spIsName := by
  refine D.ok sc_is_name (fun vs H Q E h => ?_) (fun base f cdv A outer s H vs Q E hr h => ?_)
  · obtain ⟨d, v, rfl, _⟩ := h
    rfl
  obtain ⟨d, v, rfl, r, q⟩ := h
  refine ⟨_, (pss_cons (ps_if (L2.PW.pt (pw_or (pt_not (pt_val (pe_callB call_isinst rfl M.n_isinstance bt_isinstance (pa_cons (pv 0) (pa_cons (pe_ty M.n_str bt_str rfl) pa_nil))))) (pw_or1 (pt_not (pt_chain op_le op_le pe_int (pe_callB call_len_str rfl M.n_len bt_len (pa_cons (pv 0) pa_nil)) (pe_gint M.g_MOST_LETTERS rfl)))))) (pss_one (ps_ret pe_bl)) pss_nil)
      (pss_one (ps_ret (pe_and (pe_cmpR op_notin_tab (pv 0) (pe_gref M.g_KIDS_DUE rfl) rfl) (pe_one (pe_callB (call_all_bls rfl) rfl M.n_all bt_all (pa_cons (pe_comp (N' := ["sign"]) (own := 1) (fr := []) rfl (blk_of (N := ["value"]) (sc := defScope s_is_name) rfl rfl rfl (by decide +kernel)) (pi_str (pv 0)) (own_name (by decide)) (fun _ _ _ => (pg_name (i := 0) (show List.Nodup (["sign"] : List Str) by decide +kernel) rfl (Or.inl rfl))) (fun _ _ _ => pif_nil) (fun _ _ _ => (pe_cmpR op_in_str (pv 0) (pe_gstr M.g_LETTERS rfl) rfl))) pa_nil))))))), ?_⟩
  try dsimp only [cxK, cxK2]
  refine let2 ?_
  intro _ _
  refine ⟨_, rfl, _, _, _, _, rfl, r.ty, kit_str _ d, _, rfl, ?_⟩
  refine ite2 (fun c => iteT ?_) (fun c => ?_)
  · have e : nameD d = false := by
      cases d <;> first | rfl | (simp [isStrD] at c)
    rw [e] at q
    exact q H (Same.refl H)
  · obtain ⟨x, rfl⟩ : ∃ x, d = .str x := by
      cases d <;> first | exact ⟨_, rfl⟩ | (simp [isStrD] at c)
    obtain ⟨rfl, hx⟩ := r
    have e0 : nameD (.str x) = (decide ((1 : Int) ≤ x.length) && (decide ((x.length : Int) ≤ 12) && ((rows18.lookup x).isNone && x.cps.toList.all letB))) := rfl
    rw [e0] at q
    have hsz : x.length ≤ sizeLine := Nat.le_trans hx (by decide)
    refine ⟨_, rfl, x, rfl, hsz, _, _, rfl, rfl, _, rfl, ?_⟩
    refine ite2 (fun c1 => ?_) (fun c1 => ⟨_, rfl, iteT ?_⟩)
    · refine ⟨_, _, rfl, rfl, _, rfl, ?_⟩
      refine ite2 (fun c2 => ?_) (fun c2 => ?_)
      · have c2 : decide ((x.length : Int) ≤ 12) = false := by simpa using c2
        rw [c2, Bool.false_and, Bool.and_false] at q
        exact q H (Same.refl H)
      · have c2 : decide ((x.length : Int) ≤ 12) = true := by simpa using c2
        rw [c1, c2, Bool.true_and, Bool.true_and] at q
        refine ⟨_, rfl, x, _, _, rfl, rfl, T.tab, _, rfl, ?_⟩
        rw [T.inT]
        refine ite2 (fun c3 => ?_) (fun c3 => ?_)
        · have c3 : (rows18.lookup x).isNone = true := by
            cases e : rows18.lookup x <;> simp [e] at c3 ⊢
          rw [c3, Bool.true_and] at q
          refine ⟨_, rfl, x, rfl, fun p hp => comp_vals x.cps.size (fun i => V.bl (letB ((x.cps[i]?).getD 0))) hp hsz (fun i H2 hi s2 => ⟨hi, ?_⟩) fun H2 s2 h2 => ⟨Nat.le_refl _, p, x.cps.toList.map letB, rfl, SqL.of (by rw [← range_letB]; exact h2), ?_⟩⟩
          · rintro x' H3 ⟨rfl, c, hc, rfl⟩ R hR
            refine ⟨_, rfl, _, _, rfl, rfl, ?_⟩
            have := hR H3 (Same.refl _)
            rw [hc] at this
            exact this
          · have e : (x.cps.toList.map letB).all id = x.cps.toList.all letB := by rw [List.all_map]; rfl
            rw [e]
            exact q H2 s2
        · have c3 : (rows18.lookup x).isNone = false := by
            cases e : rows18.lookup x <;> simp [e] at c3 ⊢
          rw [c3, Bool.false_and] at q
          exact q H (Same.refl H)
    · have c1 : decide ((1 : Int) ≤ x.length) = false := Bool.eq_false_iff.mpr c1
      rw [c1, Bool.false_and] at q
      exact q H (Same.refl H)
def dueS (k : Bool) : Str := if k then "kind" else "term"
def beginsD (k : Bool) : D → Bool
  | .tup (.str x :: _) => (rows18.lookup x).isSome && (kindW x == k)
  | _ => false
def spBegins : Sp := fun vs H Q _ => ∃ d v k, vs = [v, .str (dueS k)] ∧ Rep H d v ∧ okD d ∧ Q (.bl (beginsD k d)) H
def KWs : List V := [.str "nat", .str "none", .str "all", .str "some", .str "same"]
theorem due_kind (k : Bool) : decide (V.str (dueS k) = V.str "kind") = k := by cases k <;> decide +kernel
theorem sc_begins_due : FnScope ["value", "due"] ["value", "due"] (defScope s_begins_due) := ⟨rfl, rfl, rfl, by decide +kernel, rfl, by decide +kernel, by decide +kernel⟩
theorem c_begins_due (D : Df K mg "begins_due" s_begins_due ["value", "due"]) (M : Mg mg t) {as : List Addr} (T : KD K t.KIDS_DUE rows18 as) (W : SqK K t.KIND_WORDS KWs) : Cal P w K mg CX0 "begins_due" (1) ["value", "due"] spBegins := by
  refine D.ok sc_begins_due (fun vs H Q E h => ?_) (fun base f cdv A outer s H vs Q E hr h => ?_)
  · obtain ⟨d, v, k, rfl, _⟩ := h
    rfl
  obtain ⟨d, v, k, rfl, r, ok, q⟩ := h
  have hu := hu_of hr
  refine ⟨_, (pss_cons (ps_if (L2.PW.pt (pw_or (pt_not (pt_val (pe_callB call_isinst rfl M.n_isinstance bt_isinstance (pa_cons (pv 0) (pa_cons (pe_ty M.n_tuple bt_tuple rfl) pa_nil))))) (pw_or (pt_cmpR op_eq (pe_callB call_len_seq rfl M.n_len bt_len (pa_cons (pv 0) pa_nil)) pe_int (nomark _)) (pw_or1 (pt_cmpR (op_notin_key hu) (pe_ix ix_tup (pv 0) pe_int (fun _ _ => rfl)) (pe_gref M.g_KIDS_DUE rfl) rfl))))) (pss_one (ps_ret pe_bl)) pss_nil)
      (pss_one (ps_ret (pe_cmpR op_eq (pe_cmpR op_in_seq (pe_ix ix_tup (pv 0) pe_int (fun _ _ => rfl)) (pe_gref M.g_KIND_WORDS rfl) rfl) (pe_cmpR op_eq (pv 1) pe_str (nomark _)) (nomark _))))), ?_⟩
  try dsimp only [cxK, cxK2]
  refine let2 ?_
  intro _ _
  refine ⟨_, rfl, _, _, _, _, rfl, r.ty, kit_tup _ d, _, rfl, ?_⟩
  refine ite2 (fun c => iteT ?_) (fun c => ?_)
  · have e : beginsD k d = false := by
      cases d <;> first | rfl | (simp [isTup] at c)
    rw [e] at q
    exact q
  · obtain ⟨ds, rfl⟩ : ∃ ds, d = .tup ds := by
      cases d <;> first | exact ⟨_, rfl⟩ | (simp [isTup] at c)
    obtain ⟨a, us, rfl, ha, rs⟩ := r
    have hS : SqT K H a us := SqT.of ha
    refine ⟨_, rfl, a, us, rfl, .inr hS, rfl, _, rfl, ?_⟩
    cases ds with
    | nil =>
      have e : us = [] := rs
      subst e
      refine ite2 (fun c => iteT q) (fun c => absurd (by decide) c)
    | cons h ps =>
      obtain ⟨v, ur, rfl, rh, rr⟩ := rs
      refine ite2 (fun c => absurd (of_decide_eq_true c) (by simp; omega)) (fun c => ?_)
      have at0 : atI (v :: ur) 0 = some v := atI_nat (j := 0) rfl
      refine ⟨_, rfl, a, _, _, _, rfl, rfl, hS, at0, ?_⟩
      rcases ok.1 with rfl | rfl | ⟨x, rfl⟩
      · exact .inr ⟨_, _, rfl, T.tab, .inl rh, _, rfl, iteT q⟩
      · obtain ⟨b, vs, e1, e2, e3⟩ := rh
        have e3 : vs = [] := e3
        subst e3
        exact .inr ⟨_, _, rfl, T.tab, .inr ⟨b, e1, e2⟩, _, rfl, iteT q⟩
      · obtain ⟨rfl, hx⟩ := rh
        refine .inl ⟨x, _, _, rfl, rfl, T.tab, _, rfl, ?_⟩
        rw [T.inT]
        have e0 : beginsD k (.tup (.str x :: ps)) = ((rows18.lookup x).isSome && (kindW x == k)) := rfl
        rw [e0] at q
        refine ite2 (fun c => ?_) (fun c => ?_)
        · have c : (rows18.lookup x).isSome = false := by simpa using c
          rw [c, Bool.false_and] at q
          exact q
        · have c : (rows18.lookup x).isSome = true := by simpa using c
          rw [c, Bool.true_and] at q
          refine ⟨_, rfl, a, _, _, _, rfl, rfl, hS, at0, _, _, rfl, .inr (.inr W), rfl, rfl, _, rfl, rfl, rfl, ?_⟩
          have e : decide (V.bl (inV (.str x) KWs) = V.bl (decide (V.str (dueS k) = V.str "kind"))) = (kindW x == k) := by
            rw [due_kind]
            show decide (V.bl (kindW x) = V.bl k) = _
            cases kindW x <;> cases k <;> decide
          show Q (.bl (decide (V.bl (inV (.str x) KWs) = V.bl (decide (V.str (dueS k) = V.str "kind"))))) H
          rw [e]
          exact q
def spShaped (n : Nat) : Sp := fun vs H Q _ => ∃ d v k, vs = [v, .str (dueS k)] ∧ Rep H d v ∧ okD d ∧ depth d < n ∧ ∀ H', Same H H' → Q (.bl (wfG nameD k d)) H'
theorem wfL_all {nm : D → Bool} : ∀ {cs : List Nat} {ps : List D}, cs.length = ps.length → wfL nm cs ps = (List.range ps.length).all fun i => dueB nm ((cs[i]?).getD 0) ((ps[i]?).getD .non)
  | [], [], _ => rfl
  | [], _ :: _, h => by simp at h
  | _ :: _, [], h => by simp at h
  | c :: cs, p :: ps, h => by
    rw [wfL_cons, wfL_all (cs := cs) (ps := ps) (by simpa using h), List.length_cons, List.range_succ_eq_map, List.all_cons, List.all_map]
    rfl
theorem depth_mem : ∀ {ps : List D} {i : Nat} {p : D}, ps[i]? = some p → depth p ≤ depthL ps
  | [], _, _, e => by simp at e
  | q :: ps, 0, _, e => by simp at e; subst e; simp only [depthL]; omega
  | q :: ps, i + 1, _, e => by
    have := depth_mem (ps := ps) (i := i) (by simpa using e)
    simp only [depthL]; omega
theorem wfG_str (nm : D → Bool) (k : Bool) (x s : Str) (ps : List D) (h : shapeV x = .str s) : wfG nm k (.tup (.str x :: ps)) = ((kindW x == k) && wfL nm s.cps.toList ps) := by rw [wfG, h]
theorem wfG_non (nm : D → Bool) (k : Bool) (x : Str) (ps : List D) (h : shapeV x = .non) : wfG nm k (.tup (.str x :: ps)) = false := by rw [wfG, h]
def one (f : D → Bool) : List D → Bool
  | [p] => f p
  | _ => false
theorem one_ne {f : D → Bool} {ps : List D} (h : ps.length ≠ 1) : one f ps = false := by
  cases ps with
  | nil => rfl
  | cons p r => cases r with
    | nil => exact absurd rfl h
    | cons _ _ => rfl
theorem one_of {ps : List D} (h : ps.length = 1) : ∃ p, ps = [p] := by
  cases ps with
  | nil => cases h
  | cons p r => cases r with
    | nil => exact ⟨p, rfl⟩
    | cons _ _ => simp at h
theorem wf_var_eq {nm : D → Bool} {ps : List D} : wfL nm [110] ps = one numD ps := by
  cases ps with
  | nil => rfl
  | cons p r =>
    rw [wfL_cons]
    cases r with
    | nil => simp [dueB, wfL, one]
    | cons q r => simp [wfL, one]
theorem wf_name_eq {nm : D → Bool} {ps : List D} : wfL nm [119] ps = one nm ps := by
  cases ps with
  | nil => rfl
  | cons p r =>
    rw [wfL_cons]
    cases r with
    | nil => simp [dueB, wfL, one]
    | cons q r => simp [wfL, one]
theorem wfG_not_begins {k : Bool} {d : D} (h : beginsD k d = false) : wfG nameD k d = false := by
  cases d with
  | tup ds =>
    cases ds with
    | nil => simp [wfG]
    | cons hd ps =>
      cases hd with
      | str x =>
        have h : ((rows18.lookup x).isSome && (kindW x == k)) = false := h
        cases shp x with
        | non h1 h2 => exact wfG_non _ _ _ _ h2
        | var h1 h2 => rw [h1] at h; rw [wfG_str _ _ _ _ _ (by rw [h2]; exact shape_var)]; simp at h; simp [h]
        | name h1 h2 => rw [h1] at h; rw [wfG_str _ _ _ _ _ (by rw [h2]; exact shape_name)]; simp at h; simp [h]
        | form s h1 h2 _ _ _ _ => rw [h1] at h; rw [wfG_str _ _ _ _ _ h2]; simp at h; simp [h]
      | _ => simp [wfG]
  | _ => simp [wfG]
theorem sc_is_shaped : FnScope ["value", "due", "dues"] ["value", "due"] (defScope s_is_shaped) := ⟨rfl, rfl, rfl, by decide +kernel, rfl, by decide +kernel, by decide +kernel⟩
theorem st_is_shaped {n : Nat} (D : Df K mg "is_shaped" s_is_shaped ["value", "due"]) (M : Mg mg t) {as : List Addr} (T : KD K t.KIDS_DUE rows18 as) (F_begins_due : Cal P w K mg CX0 "begins_due" (1) ["value", "due"] spBegins) (F_is_number : Cal P w K mg CX0 "is_number" (1) ["value"] spNumber) (F_is_name : Cal P w K mg CX0 "is_name" (1) ["value"] spIsName)
    (F_is_shaped : Cal P w K mg CX0 "is_shaped" (n + 2) ["value", "due"] (spShaped n)) : Cal P w K mg CX0 "is_shaped" (n + 3) ["value", "due"] (spShaped (n + 1)) := by
  refine D.ok sc_is_shaped (fun vs H Q E h => ?_) (fun base f cdv A outer s H vs Q E hr h => ?_)
  · obtain ⟨d, v, k, rfl, _⟩ := h
    rfl
  obtain ⟨d, v, k, rfl, r, ok, hdep, q⟩ := h
  refine ⟨_, (pss_cons (ps_if (pt_not (pt_val (pe_fn F_begins_due (hr.mono (by omega)) rfl pass0 (pa_cons (pv 0) (pa_cons (pv 1) pa_nil))))) (pss_one (ps_ret pe_bl)) pss_nil)
      (pss_cons (ps_if (pt_cmpR op_eq (pe_ix ix_tup (pv 0) pe_int (fun _ _ => rfl)) pe_str (nomark _)) (pss_one (ps_ret (pe_and (pe_cmpR op_eq (pe_callB call_len_seq rfl M.n_len bt_len (pa_cons (pv 0) pa_nil)) pe_int (nomark _)) (pe_and (pe_fn F_is_number (hr.mono (by omega)) rfl pass0 (pa_cons (pe_ix ix_tup (pv 0) pe_int (fun _ _ => rfl)) pa_nil)) (pe_one (pe_chain op_le op_le pe_int (pe_ix ix_tup (pv 0) pe_int (fun _ _ => rfl)) (pe_gint M.g_MOST_VARIABLE rfl))))))) pss_nil)
      (pss_cons (ps_if (pt_cmpR op_eq (pe_ix ix_tup (pv 0) pe_int (fun _ _ => rfl)) pe_str (nomark _)) (pss_one (ps_ret (pe_and (pe_cmpR op_eq (pe_callB call_len_seq rfl M.n_len bt_len (pa_cons (pv 0) pa_nil)) pe_int (nomark _)) (pe_one (pe_fn F_is_name (hr.mono (by omega)) rfl pass0 (pa_cons (pe_ix ix_tup (pv 0) pe_int (fun _ _ => rfl)) pa_nil)))))) pss_nil)
      (pss_cons (ps_set (i := 2) sc_is_shaped.nd rfl (by first | exact Or.inl rfl | exact Or.inr rfl) (pe_tab (pe_gref M.g_KIDS_DUE rfl) (pe_ix ix_tup (pv 0) pe_int (fun _ _ => rfl)) (fun _ _ => rfl)))
      (pss_cons (ps_if (pt_cmpR op_ne (pe_callB call_len_seq rfl M.n_len bt_len (pa_cons (pv 0) pa_nil)) (pe_op op_add pe_int (pe_callB call_len_seq rfl M.n_len bt_len (pa_cons (pv 2) pa_nil))) (nomark _)) (pss_one (ps_ret pe_bl)) pss_nil)
      (pss_one (ps_ret (pe_callB (call_all_bls rfl) rfl M.n_all bt_all (pa_cons (pe_comp (N' := ["kid", "kid_due"]) (own := 2) (fr := []) rfl (blk_of (N := ["value", "due", "dues"]) (sc := defScope s_is_shaped) rfl rfl rfl (by decide +kernel)) (pi_zipT rfl M.n_zip (pa_cons (pe_slice sl_tupW (pv 0) (po_some pe_int) po_none) (pa_cons (pv 2) pa_nil))) (own_pair (n := 2) (by decide) (by decide)) (fun _ _ _ => (pg_tup (n := 2) rfl (pgs_cons (pg_name (i := 0) (show List.Nodup (["kid", "kid_due"] : List Str) by decide +kernel) rfl (Or.inl rfl)) (pgs_cons (pg_name (i := 1) (show List.Nodup (["kid", "kid_due"] : List Str) by decide +kernel) rfl (Or.inl rfl)) pgs_nil)))) (fun _ _ _ => pif_nil) (fun _ _ _ => (pe_fn F_is_shaped (hr.mono (by omega)) rfl pass0 (pa_cons (pv 0) (pa_cons (pv 1) pa_nil))))) pa_nil))))))))), ?_⟩
  try dsimp only [cxK, cxK2]
  refine let6 ?_
  intro _ _ _ _ _ _
  refine ⟨_, rfl, _, rfl, d, v, k, rfl, r, ok, _, rfl, ?_⟩
  refine ite2 (fun c => ?_) (fun c => ?_)
  · have e := wfG_not_begins (k := k) (d := d) (by simpa using c)
    rw [e] at q
    exact q H (Same.refl H)
  have c : beginsD k d = true := by simpa using c
  obtain ⟨x, ps, rfl⟩ : ∃ x ps, d = .tup (.str x :: ps) := by
    cases d with
    | tup ds =>
      cases ds with
      | nil => simp [beginsD] at c
      | cons h ps => cases h <;> first | exact ⟨_, _, rfl⟩ | (simp [beginsD] at c)
    | _ => simp [beginsD] at c
  have c : ((rows18.lookup x).isSome && (kindW x == k)) = true := c
  rw [Bool.and_eq_true] at c
  obtain ⟨c1, c2⟩ := c
  obtain ⟨a, us, rfl, ha, v0, ur, rfl, ⟨rfl, hx⟩, rr⟩ := r
  have hS : SqT K H a (.str x :: ur) := SqT.of ha
  have at0 : atI (.str x :: ur) 0 = some (.str x) := atI_nat (j := 0) rfl
  have lur := rr.length
  refine ⟨_, rfl, a, _, _, _, rfl, rfl, hS, at0, rfl, _, rfl, ?_⟩
  refine ite2 (fun cv => ?_) (fun cv => ?_)
  · -- var
    have cv : V.str x = V.str "var" := of_decide_eq_true cv
    cases cv
    rw [wfG_str _ _ _ _ _ shape_var, c2, Bool.true_and, len_n, wf_var_eq] at q
    refine ⟨_, rfl, a, _, rfl, .inr hS, rfl, _, rfl, ?_⟩
    refine ite2 (fun c3 => ?_) (fun c3 => ?_)
    · have c3 : V.int ((ur.length + 1 : Nat) : Int) = V.int 2 := of_decide_eq_true c3
      have c3 : ((ur.length + 1 : Nat) : Int) = 2 := by injection c3
      obtain ⟨p, rfl⟩ := one_of (ps := ps) (by omega)
      obtain ⟨u, ur', rfl, ru, e⟩ := rr
      have e : ur' = [] := e
      subst e
      have at1 : atI [V.str "var", u] 1 = some u := atI_nat (j := 1) rfl
      refine ⟨_, rfl, a, _, _, _, rfl, rfl, hS, at1, p, u, rfl, ru, _, rfl, ?_⟩
      refine ite2 (fun c4 => ?_) (fun c4 => ?_)
      · obtain ⟨i, rfl⟩ : ∃ i, p = .int i := by
          cases p <;> first | exact ⟨_, rfl⟩ | (simp [isNumD, isIntD, isBlD] at c4)
        have ru : u = .int i := ru
        subst ru
        refine ⟨_, rfl, a, _, _, _, rfl, rfl, hS, at1, _, _, rfl, rfl, _, rfl, ?_⟩
        have q : ∀ H', Same H H' → Q (.bl (decide (0 ≤ i) && decide (i ≤ 99))) H' := q
        refine ite2 (fun c5 => ?_) (fun c5 => ?_)
        · rw [c5, Bool.true_and] at q
          exact ⟨_, _, rfl, rfl, q H (Same.refl H)⟩
        · rw [Bool.eq_false_iff.mpr c5, Bool.false_and] at q
          exact q H (Same.refl H)
      · have e : numD p = false := by
          cases p <;> first | rfl | (simp [isNumD, isIntD, isBlD] at c4)
        have q : ∀ H', Same H H' → Q (.bl (numD p)) H' := q
        rw [e] at q
        exact q H (Same.refl H)
    · rw [one_ne fun z => c3 (by rw [List.length_cons, lur, z]; decide)] at q
      exact q H (Same.refl H)
  have nv : x ≠ "var" := fun z => cv (by rw [z]; decide +kernel)
  refine ⟨_, rfl, a, _, _, _, rfl, rfl, hS, at0, rfl, _, rfl, ?_⟩
  refine ite2 (fun cv => ?_) (fun cv => ?_)
  · -- name
    have cv : V.str x = V.str "name" := of_decide_eq_true cv
    cases cv
    rw [wfG_str _ _ _ _ _ shape_name, c2, Bool.true_and, len_w, wf_name_eq] at q
    refine ⟨_, rfl, a, _, rfl, .inr hS, rfl, _, rfl, ?_⟩
    refine ite2 (fun c3 => ?_) (fun c3 => ?_)
    · have c3 : V.int ((ur.length + 1 : Nat) : Int) = V.int 2 := of_decide_eq_true c3
      have c3 : ((ur.length + 1 : Nat) : Int) = 2 := by injection c3
      obtain ⟨p, rfl⟩ := one_of (ps := ps) (by omega)
      obtain ⟨u, ur', rfl, ru, e⟩ := rr
      have e : ur' = [] := e
      subst e
      have at1 : atI [V.str "name", u] 1 = some u := atI_nat (j := 1) rfl
      exact ⟨_, rfl, a, _, _, _, rfl, rfl, hS, at1, p, u, rfl, ru, q⟩
    · rw [one_ne fun z => c3 (by rw [List.length_cons, lur, z]; decide)] at q
      exact q H (Same.refl H)
  have nn : x ≠ "name" := fun z => cv (by rw [z]; decide +kernel)
  obtain ⟨sh, l1, l2, l5, l6⟩ : ∃ s, rows18.lookup x = some (s.cps.toList.map cDue) ∧ shapeV x = .str s ∧ (∀ c ∈ s.cps.toList, c = 107 ∨ c = 116) ∧ s.cps.size ≤ 4 := by
    cases shp x with
    | non h1 h2 => rw [h1] at c1; cases c1
    | var h1 h2 => exact absurd h2 nv
    | name h1 h2 => exact absurd h2 nn
    | form s h1 h2 h3 h4 h5 h6 => exact ⟨s, h1, h2, h5, h6⟩
  rw [wfG_str _ _ _ _ _ l2, c2, Bool.true_and] at q
  obtain ⟨b, hb1, hb2⟩ := T.some l1
  refine ⟨_, rfl, a, _, _, _, rfl, rfl, hS, at0, _, _, x, _, rfl, rfl, T.tab, hb1, ?_⟩
  refine ⟨_, rfl, a, _, rfl, .inr hS, _, rfl, b, _, rfl, .inr (hb2 H), _, _, rfl, rfl, rfl, _, rfl, ?_⟩
  have ls : (sh.cps.toList.map cDue).length = sh.cps.toList.length := List.length_map _
  refine ite2 (fun c3 => ?_) (fun c3 => ?_)
  · have c3 : ¬ V.int ((ur.length + 1 : Nat) : Int) = V.int (1 + ((sh.cps.toList.map cDue).length : Int)) := by simpa using c3
    have e : wfL nameD sh.cps.toList ps = false := by
      rw [Bool.eq_false_iff]
      intro z
      have := wfL_len z
      refine c3 (congrArg V.int ?_)
      rw [ls, lur, this]
      omega
    rw [e] at q
    exact q H (Same.refl H)
  have c3 : V.int ((ur.length + 1 : Nat) : Int) = V.int (1 + ((sh.cps.toList.map cDue).length : Int)) := by simpa using c3
  have lps : sh.cps.toList.length = ps.length := by
    injection c3 with c3
    rw [ls] at c3
    omega
  rw [wfL_all lps] at q
  refine ⟨_, rfl, _, rfl, a, _, rfl, hS, fun p1 hp1 => ?_, fun z => absurd (congrArg List.length z) (by rw [show (some (1 : Int)) = some ((1 : Nat) : Int) from rfl, cutV_from]; simp)⟩
  rw [show (some (1 : Int)) = some ((1 : Nat) : Int) from rfl, cutV_from]
  have h1 : (upd H p1 (.tup ur)) p1 = some (.tup ur) := upd_same
  have s1 : Same H (upd H p1 (.tup ur)) := same_new hp1 _
  refine ⟨_, rfl, p1, b, ur, _, rfl, SqT.of h1, hb2 _, fun p2 hp2 => comp_vals ps.length (fun i => V.bl (dueB nameD ((sh.cps.toList[i]?).getD 0) ((ps[i]?).getD .non))) hp2 ?_ (fun i H2 hi s2 => ?_) fun H2 s2 h2 => ?_⟩
  · rw [← lps]
    exact Nat.le_trans (show sh.cps.toList.length ≤ 4 by simpa using l6) (by decide)
  · have hcs : i < sh.cps.toList.length := by omega
    obtain ⟨pi, hpi⟩ : ∃ p, ps[i]? = some p := ⟨_, List.getElem?_eq_getElem hi⟩
    obtain ⟨ci, hci⟩ : ∃ c, sh.cps.toList[i]? = some c := ⟨_, List.getElem?_eq_getElem hcs⟩
    obtain ⟨ui, hui, rui⟩ := rr.get hpi
    have hdi : (sh.cps.toList.map cDue)[i]? = some (cDue ci) := by rw [List.getElem?_map, hci]; rfl
    have hq1 : SqT K H2 p1 ur := SqT.of (s2 _ _ h1)
    refine ⟨⟨ur, _, ui, cDue ci, hq1, hb2 H2, hui, hdi⟩, ?_⟩
    rintro x' H3 ⟨p3, y1, y2, rfl, hp3, rfl, hy⟩ R hR
    obtain ⟨e1, e2⟩ := hy ur _ hq1 (hb2 H2)
    rw [hui] at e1
    rw [hdi] at e2
    cases e1
    cases e2
    refine ⟨p3, _, rfl, SqT.of upd_same, rfl, _, _, rfl, _, _, rfl, rfl, ?_⟩
    have hcm : ci = 107 ∨ ci = 116 := l5 ci (List.mem_of_getElem? hci)
    obtain ⟨kk, ekk, edu⟩ : ∃ kk : Bool, cDue ci = .str (dueS kk) ∧ dueB nameD ci pi = wfG nameD kk pi := by
      rcases hcm with rfl | rfl
      · exact ⟨true, rfl, rfl⟩
      · exact ⟨false, rfl, rfl⟩
    have s3 : Same H (upd H2 p3 (.tup [ui, cDue ci])) := (s1.trans s2).trans (same_new hp3 _)
    refine ⟨_, rfl, _, rfl, pi, ui, kk, congrArg (fun z => [ui, z]) ekk, Rep.mono s3 rui, okL_get ok.2.1 hpi, ?_, fun H' s' => ?_⟩
    · have := depth_mem hpi
      simp only [depth, depthL] at hdep
      omega
    · have := hR H' ((same_new hp3 _).trans s')
      rw [hpi, hci] at this
      simp only [Option.getD_some] at this
      rw [edu] at this
      exact this
  · refine ⟨⟨ur, _, SqT.of (s2 _ _ h1), hb2 H2, lur⟩, p2, (List.range ps.length).map (fun i => dueB nameD ((sh.cps.toList[i]?).getD 0) ((ps[i]?).getD .non)), rfl, SqL.of (by rw [List.map_map]; exact h2), ?_⟩
    rw [List.all_map]
    exact q H2 (s1.trans s2)
theorem c_is_shaped (D : Df K mg "is_shaped" s_is_shaped ["value", "due"]) (M : Mg mg t) {as : List Addr} (T : KD K t.KIDS_DUE rows18 as) (F_begins_due : Cal P w K mg CX0 "begins_due" (1) ["value", "due"] spBegins) (F_is_number : Cal P w K mg CX0 "is_number" (1) ["value"] spNumber) (F_is_name : Cal P w K mg CX0 "is_name" (1) ["value"] spIsName) :
    ∀ n : Nat, Cal P w K mg CX0 "is_shaped" (n + 2) ["value", "due"] (spShaped n)
  | 0 => Cal.never D fun vs H Q E ⟨d, v, k, _, _, _, h, _⟩ => absurd h (Nat.not_lt_zero _)
  | n + 1 => st_is_shaped D M T F_begins_due F_is_number F_is_name (c_is_shaped D M T F_begins_due F_is_number F_is_name n)
def thingD (k : Bool) (d : D) : Bool := isTup d && (!vastD d && wfG nameD k d)
def spIsThg : Sp := fun vs H Q _ => ∃ d v k, vs = [v, .str (dueS k)] ∧ Rep H d v ∧ okD d ∧ depth d < 60 ∧ knots d ≤ 8000000 ∧ ∀ H', Same H H' → Q (.bl (thingD k d)) H'
theorem sc_is_thing : FnScope ["value", "due"] ["value", "due"] (defScope s_is_thing) := ⟨rfl, rfl, rfl, by decide +kernel, rfl, by decide +kernel, by decide +kernel⟩
theorem c_is_thing (D : Df K mg "is_thing" s_is_thing ["value", "due"]) (M : Mg mg t) (F_is_vast : Cal P w K mg CX0 "is_vast" (1) ["value"] spVast) (F_is_shaped : Cal P w K mg CX0 "is_shaped" (62) ["value", "due"] (spShaped 60)) : Cal P w K mg CX0 "is_thing" (63) ["value", "due"] spIsThg := by
  refine D.ok sc_is_thing (fun vs H Q E h => ?_) (fun base f cdv A outer s H vs Q E hr h => ?_)
  · obtain ⟨d, v, k, rfl, _⟩ := h
    rfl
  obtain ⟨d, v, k, rfl, r, ok, hd, hk, q⟩ := h
  refine ⟨_, (pss_one (ps_ret (pe_and (pe_callB call_isinst rfl M.n_isinstance bt_isinstance (pa_cons (pv 0) (pa_cons (pe_ty M.n_tuple bt_tuple rfl) pa_nil))) (pe_and (pe_not (pe_fn F_is_vast (hr.mono (by omega)) rfl pass0 (pa_cons (pv 0) pa_nil))) (pe_one (pe_fn F_is_shaped (hr.mono (by omega)) rfl pass0 (pa_cons (pv 0) (pa_cons (pv 1) pa_nil)))))))), ?_⟩
  try dsimp only [cxK, cxK2]
  refine ⟨_, rfl, _, _, _, _, rfl, r.ty, kit_tup _ d, _, rfl, ?_⟩
  unfold thingD at q
  refine ite2 (fun c => ?_) (fun c => ?_)
  · obtain ⟨ds, rfl⟩ : ∃ ds, d = .tup ds := by
      cases d <;> first | exact ⟨_, rfl⟩ | cases c
    rw [c, Bool.true_and] at q
    refine ⟨_, rfl, ds, v, rfl, r, ok, hk, fun H1 s1 => ⟨_, rfl, _, rfl, ?_⟩⟩
    refine ite2 (fun c2 => ?_) (fun c2 => ?_)
    · rw [c2, Bool.true_and] at q
      exact ⟨_, rfl, _, rfl, .tup ds, v, k, rfl, r.mono s1, ok, hd, fun H2 s2 => q H2 (s1.trans s2)⟩
    · rw [Bool.eq_false_iff.mpr c2, Bool.false_and] at q
      exact q H1 s1
  · rw [Bool.eq_false_iff.mpr c, Bool.false_and] at q
    exact q H (Same.refl H)
def spIsK (k : Bool) : Sp := fun vs H Q _ => ∃ d v, vs = [v] ∧ Rep H d v ∧ okD d ∧ depth d < 60 ∧ knots d ≤ 8000000 ∧ ∀ H', Same H H' → Q (.bl (thingD k d)) H'
theorem sc_is_term : FnScope ["thing"] ["thing"] (defScope s_is_term) := ⟨rfl, rfl, rfl, by decide +kernel, rfl, by decide +kernel, by decide +kernel⟩
theorem c_is_term (D : Df K mg "is_term" s_is_term ["thing"]) (F_is_thing : Cal P w K mg CX0 "is_thing" (63) ["value", "due"] spIsThg) : Cal P w K mg CX0 "is_term" (64) ["thing"] (spIsK false) := by
  refine D.ok sc_is_term (fun vs H Q E h => ?_) (fun base f cdv A outer s H vs Q E hr h => ?_)
  · obtain ⟨d, v, rfl, _⟩ := h
    rfl
  obtain ⟨d, v, rfl, r, ok, hd, hk, q⟩ := h
  exact ⟨_, (pss_one (ps_ret (pe_fn F_is_thing (hr.mono (by omega)) rfl pass0 (pa_cons (pv 0) (pa_cons pe_str pa_nil))))), _, rfl, d, v, false, rfl, r, ok, hd, hk, q⟩
end K22
end
section
namespace L3
open PySem PySem.Spec PyProof.Rows L2 KM
section
variable {P : Program} {w : World}
def EqIn (P : Program) (w : World) (A : Around) (s : Shared) (y x : Value) : Prop := ∀ (E : Value → Shared → Prop) (Q : Bool → Shared → Prop), Q true s → wpAny (model P w) A (eqBool y x) Q E s
open SeqAt MeetsSeq3 in
theorem lqLoop {l b : Addr} {xs ys : Array Value} {n m : Nat} (hs : xs.size = ys.size) : ∀ (k i : Nat), xs.size - i = k → MeetsIn P w (Builtin.«list.__eq__.loop» ⟨[.ref l, .ref b, rawInt i, rawInt 2], []⟩) (fun A R s =>
    s.heap.get? l = some { cls := .type "list", data := .seq xs n } ∧ s.heap.get? b = some { cls := .type "list", data := .seq ys m } ∧ (∀ j (h1 : j < xs.size) (h2 : j < ys.size), EqIn P w A.in1 s xs[j] ys[j]) ∧ R (.ok (.ret (.bool true))) s)
  | 0, i, hk => by
    intro A R s h
    obtain ⟨hp, g, d, tk, os⟩ := s
    obtain ⟨q1, q2, he, hR⟩ := h
    wp_walk using wpAny_loadPart' q1, wpAny_loadPart' q2
    rw [show xs[((i : Nat) : Int).toNat]? = none by simp; omega, show ys[((i : Nat) : Int).toNat]? = none by simp; omega]
    wp_walk using wpAny_loadPart' q1, wpAny_loadPart' q2
    show R (.ok (.ret (.bool (xs.size == ys.size)))) _
    rw [hs, beq_self_eq_true]
    exact hR
  | k + 1, i, hk => by
    intro A R s h
    obtain ⟨hp, g, d, tk, os⟩ := s
    obtain ⟨q1, q2, he, hR⟩ := h
    have hi : i < xs.size := by omega
    have hj : i < ys.size := by omega
    wp_walk using wpAny_loadPart' q1, wpAny_loadPart' q2
    rw [show xs[((i : Nat) : Int).toNat]? = some xs[i] by simp [hi], show ys[((i : Nat) : Int).toNat]? = some ys[i] by simp [hj]]
    refine wpAny_bind (he i hi hj _ _ ?_)
    wp_walk
    rw [show ((i : Int) + 1) = ((i + 1 : Nat) : Int) by omega]
    refine ⟨plainId_quiet plain_eq_loop _, codeAny_builtin entry_eq_loop ?_⟩
    rw [Around.under_plainId plain_eq_loop _]
    exact lqLoop hs k (i + 1) (by omega) A R _ ⟨q1, q2, he, hR⟩
open SeqAt MeetsSeq3 in
theorem lqAll {l b : Addr} {xs ys : Array Value} {n m : Nat} (hs : xs.size = ys.size) : MeetsIn P w (Builtin.«list.__eq__» ⟨[.ref l, .ref b], []⟩) (fun A R s =>
    s.heap.get? l = some { cls := .type "list", data := .seq xs n } ∧ s.heap.get? b = some { cls := .type "list", data := .seq ys m } ∧ (∀ j (h1 : j < xs.size) (h2 : j < ys.size), EqIn P w A.in1 s xs[j] ys[j]) ∧ R (.ok (.ret (.bool true))) s) := by
  intro A R s h
  obtain ⟨hp, g, d, tk, os⟩ := s
  obtain ⟨q1, q2, he, hR⟩ := h
  have sub := AutoSeq1.sub_list_list
  have nn : ¬ (xs.size != ys.size) = true := by simp [hs]
  wp_walk using wpAny_loadPart' q1, wpAny_loadPart' q2
  refine ⟨plainId_quiet plain_eq_loop _, codeAny_builtin entry_eq_loop ?_⟩
  rw [Around.under_plainId plain_eq_loop _]
  exact lqLoop hs _ 0 rfl A R _ ⟨q1, q2, he, hR⟩
end
section
variable {X : Cx}
def rEqLD : R2 := fun x y H Q => ∃ (p q : Addr) (xs ys : List V), x = .ref p ∧ y = .ref q ∧ H p = some (.lst xs) ∧ H q = some (.lst ys) ∧ xs.length = ys.length ∧
  (∀ (i : Nat) (x' y' : V), xs[i]? = some x' → ys[i]? = some y' → ∃ (a b : Addr) (kvs : List (Key × V)), x' = .ref a ∧ y' = .ref b ∧ a ≠ b ∧ H a = some (.dK kvs) ∧ H b = some (.dK kvs) ∧ (∀ k v, (k, v) ∈ kvs → ∃ c, v = V.ref c)) ∧ Q (.bl true) H
theorem op_eqLD (hu : X.A.units + 64 < cLine) : OpR X (compareOp .Eq) rEqLD := by
  intro pins s σ H x y v u Q I rx ry h
  obtain ⟨p, q, xs, ys, rfl, rfl, hx, hy, hl, hd, qq⟩ := h
  cases rx
  cases ry
  obtain ⟨_, its, n, r1, l1, e1⟩ := I.lstM hx
  obtain ⟨_, jts, m, r2, l2, e2⟩ := I.lstM hy
  have hs : its.toArray.size = jts.toArray.size := by simp; omega
  refine wpAny_richCompare_same_room (op := .Eq) (T := "list") ⟨_, e1, rfl⟩ ⟨_, e2, rfl⟩ F.slot_list_eq (call_meetsIn F.slot_list_eq ⟨_, e1, rfl⟩ F.entry_list_eq (F.args_list_eq_2 _ _) (lqAll (n := n) (m := m) hs) ⟨e1, e2, ?_, (fun z => nomatch z), .bl true, H, I, rfl, qq⟩) (by omega)
  intro j h1 h2 E' Q' hq
  have j1 : j < xs.length := by simpa [l1] using h1
  have j2 : j < ys.length := by simpa [l2] using h2
  obtain ⟨u1, g1, k1⟩ := r1.get (i := j) (x := xs[j]) (by simp [j1])
  obtain ⟨u2, g2, k2⟩ := r2.get (i := j) (x := ys[j]) (by simp [j2])
  obtain ⟨a, b, kvs, ea, eb, nab, ha, hb, hr⟩ := hd j xs[j] ys[j] (by simp [j1]) (by simp [j2])
  rw [ea] at k1
  rw [eb] at k2
  have m1 : its.toArray[j] = u1 := by
    have : its[j]? = some its.toArray[j] := by simp
    rw [g1] at this
    exact (Option.some.inj this).symm
  have m2 : jts.toArray[j] = u2 := by
    have : jts[j]? = some jts.toArray[j] := by simp
    rw [g2] at this
    exact (Option.some.inj this).symm
  rw [m1, m2, show u1 = Value.ref a from k1, show u2 = Value.ref b from k2]
  obtain ⟨z, hd1, vs, rel, dd⟩ := dk_of I.hok ha
  obtain ⟨z', hd2, us, rel', dd'⟩ := dk_of I.hok hb
  have e := kv_eq rel rel' hr
  subst e
  have nd : (vs.map (·.1)).Nodup := let ⟨_, _, _, _, _, _, _, _, hn⟩ := dd; hn
  unfold eqBool
  refine wpAny_holding (wpAny_ite_split (fun hab => absurd (by have := eq_of_beq hab; injection this) nab) fun _ => ?_)
  refine wpAny_bind (PySem.W.keq_eq (knd := mixKind X.prog X.w) hd1 hd2 dd dd' (by show X.A.units + 1 < cLine; omega) (r := true) (fun _ => key_hit _ _ vs (value_at nd)) ?_)
  refine wpAny_truthy_bool ?_
  simpa using hq
end
theorem comp_byC {J : It} {p : Addr} {H1 : Hp} {g : TG} {tt : TT} {te : TE} {b : L2.St} {C : Hp → Prop} (n : Nat) (Pv : Nat → List V → Hp → Prop) (h0 : Pv 0 [] (upd H1 p (.lst [])))
    (hgo : ∀ i acc H2, i < n → Pv i acc H2 → J.go i H2 ∧ ∀ x H3, J.yld i H2 x H3 → g x b H3 fun σ4 H4 => tt σ4 H4 fun ok H5 =>
      if ok = true then te σ4 H5 fun v H6 => H6 p = some (.lst acc) ∧ acc.length < sizeLine ∧ Nx n i (Pv (i + 1) (acc ++ [v]) (upd H6 p (.lst (acc ++ [v])))) else Nx n i (Pv (i + 1) acc H5))
    (hd : ∀ acc H2, Pv n acc H2 → J.stop n H2 ∧ C H2) :
    ∃ W : Nat → Nat → List V → Hp → Prop, (∃ m, W 0 m [] (upd H1 p (.lst []))) ∧ ∀ i m acc H2, W i m acc H2 → (J.stop i H2 ∧ C H2) ∨ (J.go i H2 ∧ ∀ x H3, J.yld i H2 x H3 → g x b H3 fun σ4 H4 => tt σ4 H4 fun ok H5 =>
      if ok = true then te σ4 H5 fun v H6 => H6 p = some (.lst acc) ∧ acc.length < sizeLine ∧ ∃ m', m' < m ∧ W (i + 1) m' (acc ++ [v]) (upd H6 p (.lst (acc ++ [v]))) else ∃ m', m' < m ∧ W (i + 1) m' acc H5) := comp_by (Q := fun _ H => C H) n Pv h0 hgo hd
end L3
end
section
set_option maxHeartbeats 4000000
namespace K22
open PySem L2 L3 KM PyProof.Rows
seal L2.PE L2.PS L2.PSs L2.PT L2.PW L2.PA L2.PG L2.PGs L2.PI L2.PC L2.PO L2.PPs L2.PK L3.PIf
variable {P : Program} {w : World} {K : PySem.W.Frag} {mg : Str → Option Value} {base : Heap} {t : Adr}
def OkS (r : Sp2) : Prop := r.1.length ≤ 1000 ∧ cmpD (.str r.2) = true
theorem cmp_pl : ∀ pl : List Nat, cmpL (pl.map fun i => D.int (i : Nat)) = true
  | [] => rfl
  | i :: pl => by
    show (cmpD (.int (i : Nat)) && cmpL (pl.map fun i => D.int (i : Nat))) = true
    rw [cmp_pl pl]
    rfl
theorem cmp_pr {r : Sp2} (h : OkS r) : cmpD (prD r) = true := by
  show (cmpL (r.1.map fun i => D.int (i : Nat)) && (cmpD (.str r.2) && true)) = true
  rw [cmp_pl, h.2]
  rfl
theorem dep_ints : ∀ pl : List Nat, depthL (pl.map fun i => D.int (i : Nat)) = 0
  | [] => rfl
  | i :: pl => by
    show max 0 (depthL (pl.map fun i => D.int (i : Nat))) = 0
    rw [dep_ints pl]
    rfl
theorem dep_pr (r : Sp2) : depth (prD r) ≤ 60 := by
  have e : depth (plD r.1) = 1 := by
    show 1 + depthL (r.1.map fun i => D.int (i : Nat)) = 1
    rw [dep_ints]
  simp only [prD, depth, depthL, e]
  omega
def spPairs : Sp := fun vs H Q _ => ∃ (f g : Addr) (fs gs : List V) (rs : List Sp2), vs = [.ref f, .ref g] ∧ H f = some (.lst fs) ∧ H g = some (.lst gs) ∧ Reps H (rs.map prD) fs ∧ Reps H (rs.map prD) gs ∧ (∀ r ∈ rs, OkS r) ∧ rs.length ≤ 16000000 ∧ ∀ H', Same H H' → Q (.bl true) H'
theorem sc_law_pairs : FnScope ["_law_found", "_law_due_here", "_law_k", "_law_pair_here", "_law_number_here"] ["_law_found", "_law_due_here"] (defScope s_law_pairs) := ⟨rfl, rfl, rfl, by decide +kernel, rfl, by decide +kernel, by decide +kernel⟩
theorem c_law_pairs (D : Df K mg "_law_pairs" s_law_pairs ["_law_found", "_law_due_here"]) (M : Mg mg t) : Cal P w K mg CX0 "_law_pairs" (1) ["_law_found", "_law_due_here"] spPairs := by
  refine D.ok sc_law_pairs (fun vs H Q E h => ?_) (fun base f cdv A outer s H vs Q E hr h => ?_)
  · obtain ⟨f, g, fs, gs, rs, rfl, _⟩ := h
    rfl
  obtain ⟨f, g, fs, gs, rs, rfl, hf, hg, rf, rg, hok, hlen, q⟩ := h
  have lf := rf.length
  have lg := rg.length
  rw [List.length_map] at lf lg
  refine ⟨_, (pss_cons (ps_if (L2.PW.pt (pw_or (pt_not (pt_val (pe_callB call_isinst rfl M.n_isinstance bt_isinstance (pa_cons (pv 0) (pa_cons (pe_ty M.n_list bt_list rfl) pa_nil))))) (pw_or1 (pt_cmpR op_ne (pe_callB call_len_seq rfl M.n_len bt_len (pa_cons (pv 0) pa_nil)) (pe_callB call_len_seq rfl M.n_len bt_len (pa_cons (pv 1) pa_nil)) (nomark _))))) (pss_one (ps_ret pe_bl)) pss_nil)
      (pss_cons (ps_for PassesOwn.never rfl (pi_range1 rfl M.n_range (pa_cons (pe_callB call_len_seq rfl M.n_len bt_len (pa_cons (pv 1) pa_nil)) pa_nil)) (pg_name (i := 2) sc_law_pairs.nd rfl (by first | exact Or.inl rfl | exact Or.inr rfl)) (pss_cons (ps_set (i := 3) sc_law_pairs.nd rfl (by first | exact Or.inl rfl | exact Or.inr rfl) (pe_ix ix_list (pv 0) (pv 2) (fun _ _ => rfl)))
      (pss_cons (ps_if (L2.PW.pt (pw_or (pt_not (pt_val (pe_callB call_isinst rfl M.n_isinstance bt_isinstance (pa_cons (pv 3) (pa_cons (pe_ty M.n_tuple bt_tuple rfl) pa_nil))))) (pw_or (pt_cmpR op_ne (pe_callB call_len_seq rfl M.n_len bt_len (pa_cons (pv 3) pa_nil)) pe_int (nomark _)) (pw_or1 (pt_not (pt_val (pe_callB call_isinst rfl M.n_isinstance bt_isinstance (pa_cons (pe_ix ix_tup (pv 3) pe_int (fun _ _ => rfl)) (pa_cons (pe_ty M.n_tuple bt_tuple rfl) pa_nil))))))))) (pss_one (ps_ret pe_bl)) pss_nil)
      (pss_cons (ps_for PassesOwn.never rfl (pi_tup (pe_ix ix_tup (pv 3) pe_int (fun _ _ => rfl))) (pg_name (i := 4) sc_law_pairs.nd rfl (by first | exact Or.inl rfl | exact Or.inr rfl)) (pss_one (ps_if (L2.PW.pt (pw_or (pt_not (pt_val (pe_callB call_isinst rfl M.n_isinstance bt_isinstance (pa_cons (pv 4) (pa_cons (pe_ty M.n_int bt_int rfl) pa_nil))))) (pw_or1 (pt_val (pe_callB call_isinst rfl M.n_isinstance bt_isinstance (pa_cons (pv 4) (pa_cons (pe_ty M.n_bool bt_bool rfl) pa_nil))))))) (pss_one (ps_ret pe_bl)) pss_nil)))
      (pss_one (ps_if (L2.PW.pt (pw_or (pt_not (pt_val (pe_callB call_isinst rfl M.n_isinstance bt_isinstance (pa_cons (pe_ix ix_tup (pv 3) pe_int (fun _ _ => rfl)) (pa_cons (pe_ty M.n_str bt_str rfl) pa_nil))))) (pw_or1 (pt_cmpR (op_neD2 hr.units) (pv 3) (pe_ix ix_list (pv 1) (pv 2) (fun _ _ => rfl)) (nomark _))))) (pss_one (ps_ret pe_bl)) pss_nil))))))
      (pss_one (ps_ret pe_bl)))), ?_⟩
  try dsimp only [cxK, cxK2]
  refine let3 ?_
  intro _ _ _
  refine ⟨_, rfl, _, _, _, _, rfl, TyOf.lst hf, rfl, _, rfl, iteF ?_⟩
  refine ⟨_, rfl, f, _, rfl, .inl (SqL.of hf), _, rfl, g, _, rfl, .inl (SqL.of hg), rfl, _, rfl, ite2 (fun c => absurd c (by simp [lf, lg])) (fun _ => ?_)⟩
  refine ⟨_, rfl, g, _, rfl, .inl (SqL.of hg), _, rfl, (by show -(2 ^ 62) ≤ ((gs.length : Nat) : Int); omega), (by show ((gs.length : Nat) : Int) < 2 ^ 62; omega), ?_⟩
  let Ifr : Nat → L2.St → Hp → Prop := (fun j σ' H' => ∃ (kv pv nv : Option V), σ' = [some (.ref f), some (.ref g), kv, pv, nv] ∧ Same H H')
  refine for_by gs.length Ifr ?_ ?_ ?_
  · exact ⟨none, none, none, rfl, Same.refl _⟩
  · rintro j σ' H1 hj ⟨kv, pv, nv, rfl, s1⟩
    refine ⟨hj, ?_⟩
    rintro x' H2 ⟨rfl, rfl⟩
    have e0 : (0 : Int) + (j : Int) = ((j : Nat) : Int) := by omega
    rw [e0]
    obtain ⟨r', hr'⟩ : ∃ r, rs[j]? = some r := ⟨_, List.getElem?_eq_getElem (by omega)⟩
    have ok := hok r' (List.mem_of_getElem? hr')
    obtain ⟨u, hu, ru⟩ := rf.get (i := j) (d := prD r') (by rw [List.getElem?_map, hr']; rfl)
    obtain ⟨u2, hu2, ru2⟩ := rg.get (i := j) (d := prD r') (by rw [List.getElem?_map, hr']; rfl)
    have ru := ru.mono s1
    have ru2 := ru2.mono s1
    refine ⟨_, rfl, _, rfl, f, _, _, u, rfl, rfl, SqL.of (s1 _ _ hf), atI_nat hu, ?_⟩
    obtain ⟨qa, _, rfl, hqa, ⟨v1, _, rfl, r1, ⟨v2, _, rfl, ⟨rfl, hy2⟩, rn⟩⟩⟩ := id ru
    cases (show _ = [] from rn)
    obtain ⟨qb, ws, rfl, hqb, rw'⟩ := id r1
    refine ⟨_, rfl, _, _, _, _, rfl, ru.ty, kit_tup _ (prD r'), _, rfl, iteF ?_⟩
    refine ⟨_, rfl, qa, _, rfl, .inr (SqT.of hqa), rfl, _, rfl, iteF ?_⟩
    refine ⟨_, rfl, qa, _, _, _, rfl, rfl, SqT.of hqa, atI_nat (j := 0) rfl, _, _, _, _, rfl, r1.ty, kit_tup _ (plD r'.1), _, rfl, iteF ?_⟩
    refine ⟨_, rfl, qa, _, _, _, rfl, rfl, SqT.of hqa, atI_nat (j := 0) rfl, qb, rfl, ⟨_, SqT.of hqb⟩, ?_⟩
    have lw := rw'.length
    rw [List.length_map] at lw
    let Ifr : Nat → L2.St → Hp → Prop := (fun m σ' H' => ∃ (nv : Option V), σ' = [some (.ref f), some (.ref g), some (.int (j : Nat)), some (.ref qa), nv] ∧ H' = H2)
    refine for_by ws.length Ifr ?_ ?_ ?_
    · exact ⟨_, rfl, rfl⟩
    · rintro m σ' H3 hm ⟨nv, rfl, rfl⟩
      obtain ⟨i', hi'⟩ : ∃ i, r'.1[m]? = some i := ⟨_, List.getElem?_eq_getElem (by omega)⟩
      obtain ⟨um, hum, rum⟩ := rw'.get (i := m) (d := .int (i' : Nat)) (by rw [List.getElem?_map, hi']; rfl)
      have rum' : um = V.int (i' : Nat) := rum
      refine ⟨⟨ws, um, SqT.of hqb, hum⟩, ?_⟩
      rintro x'' H4 ⟨rfl, hy⟩
      have hy := hy ws (SqT.of hqb)
      rw [hum] at hy
      cases hy
      refine ⟨_, rfl, _, _, _, _, rfl, rum.ty, kit_int _ (.int (i' : Nat)), _, rfl, iteF ?_⟩
      exact ⟨_, rfl, _, _, _, _, rfl, rum.ty, kit_bl _ (.int (i' : Nat)), _, rfl, iteF ⟨_, rfl, rfl⟩⟩
    · rintro σ' H3 ⟨nv, rfl, rfl⟩
      refine ⟨⟨ws, SqT.of hqb, Nat.le_refl _⟩, ?_⟩
      refine ⟨_, rfl, qa, _, _, _, rfl, rfl, SqT.of hqa, atI_nat (j := 1) rfl, _, _, _, _, rfl, (show Rep _ (.str r'.2) (.str r'.2) from ⟨rfl, hy2⟩).ty, kit_str _ (.str r'.2), _, rfl, iteF ?_⟩
      refine ⟨_, rfl, _, rfl, _, rfl, g, _, _, u2, rfl, rfl, SqL.of (s1 _ _ hg), atI_nat hu2, prD r', prD r', true, ru, ru2, dep_pr _, dep_pr _, cmp_pr ok, cmp_pr ok, by simp, _, rfl, iteF ⟨_, _, _, rfl, s1⟩⟩
  · rintro σ' H1 ⟨kv, pv, nv, rfl, s1⟩
    exact ⟨Nat.le_refl _, q H1 s1⟩
theorem range_fm {α β : Type} (g : α → Option β) : ∀ l : List α, (List.range l.length).filterMap (fun i => (l[i]?).bind g) = l.filterMap g
  | [] => rfl
  | a :: l => by
    rw [List.length_cons, List.range_succ_eq_map, List.filterMap_cons, List.filterMap_cons, List.filterMap_map]
    have e : ((fun i => ((a :: l)[i]?).bind g) ∘ Nat.succ) = fun i => (l[i]?).bind g := by
      funext i
      simp
    rw [e, range_fm g l]
    rfl
def spDue : Sp := fun vs H Q _ => ∃ (d : D) (v : V) (b : Addr) (kvs : List (Key × V)), vs = [v, .ref b] ∧ Rep H d v ∧ Wf d ∧ depth d ≤ 60 ∧ knots d ≤ 1000000 ∧ H b = some (.dK kvs) ∧
  ∀ (f : Addr) (fs : List V) (H' : Hp), H f = none → Same H H' → H' f = some (.lst fs) → Reps H' ((stp (inB kvs) d).map prD) fs → Q (.ref f) H'
theorem sc_law_due : FnScope ["_law_thing_here", "_law_book_here"] ["_law_thing_here", "_law_book_here"] (defScope s_law_due) := ⟨rfl, rfl, rfl, by decide +kernel, rfl, by decide +kernel, by decide +kernel⟩
theorem c_law_due (D : Df K mg "_law_due" s_law_due ["_law_thing_here", "_law_book_here"]) (M : Mg mg t) (F_law_rows : Cal P w K mg CX0 "_law_rows" (2) ["_law_thing_here", "_law_book_here"] spRows) : Cal P w K mg CX0 "_law_due" (3) ["_law_thing_here", "_law_book_here"] spDue := by
  refine D.ok sc_law_due (fun vs H Q E h => ?_) (fun base f cdv A outer s H vs Q E hr h => ?_)
  · obtain ⟨d, v, b, kvs, rfl, _⟩ := h
    rfl
  obtain ⟨d, v, b, kvs, rfl, r, wf, hdp, hkn, hb, q⟩ := h
  refine ⟨_, (pss_one (ps_ret (pe_comp (N' := ["_law_row"]) (own := 1) (fr := []) rfl (blk_of (N := ["_law_thing_here", "_law_book_here"]) (sc := defScope s_law_due) rfl rfl rfl (by decide +kernel)) (pi_list (pe_fn F_law_rows (hr.mono (by omega)) rfl pass0 (pa_cons (pv 0) (pa_cons (pv 1) pa_nil)))) (own_name (by decide)) (fun _ _ _ => (pg_name (i := 0) (show List.Nodup (["_law_row"] : List Str) by decide +kernel) rfl (Or.inl rfl))) (fun _ _ _ => (pif_one (pt_cmpR op_notN (pe_ix (ix_tupK (K := K)) (pv 0) pe_int (fun _ _ => rfl)) pe_non (nomark _)))) (fun _ _ _ => (pe_tup (pa_cons (pe_ix (ix_tupK (K := K)) (pv 0) pe_int (fun _ _ => rfl)) (pa_cons (pe_ix (ix_tupK (K := K)) (pv 0) pe_int (fun _ _ => rfl)) pa_nil))))))), ?_⟩
  try dsimp only [cxK, cxK2]
  refine ⟨_, rfl, _, rfl, d, v, b, kvs, rfl, r, wf, hdp, hkn, hb, fun f fs H1 hf0 s1 hf rf => ⟨f, rfl, ⟨fs, SqL.of hf⟩, fun p hp => ?_⟩⟩
  have lf := rf.length
  rw [List.length_map] at lf
  have hrl := rowsD_len [] d
  refine comp_optR (rowsD [] d).length (fun i => ((rowsD [] d)[i]?).bind fun r => (stR (inB kvs) r).map prD) hp (by rw [sizeLine_eq]; omega) (fun i H2 hi s2 => ⟨?_, ?_⟩) fun vs H2 s2 h2 r2 => ⟨?_, ?_⟩
  · obtain ⟨u, hu⟩ : ∃ u, fs[i]? = some u := ⟨_, List.getElem?_eq_getElem (by omega)⟩
    exact ⟨_, u, SqL.of (s2 _ _ hf), hu⟩
  · rintro x H3 ⟨rfl, hy⟩ R R0 hR hR0
    obtain ⟨r', hr'⟩ : ∃ r, (rowsD [] d)[i]? = some r := ⟨_, List.getElem?_eq_getElem hi⟩
    obtain ⟨u, hu, ru⟩ := rf.get (i := i) (d := rowD (inB kvs) r') (by rw [List.getElem?_map, hr']; rfl)
    have hx := hy fs (SqL.of (s2 _ _ hf))
    rw [hu] at hx
    cases hx
    have ru := ru.mono s2
    obtain ⟨qa, _, rfl, hqa, ⟨v1, _, rfl, r1, ⟨v2, _, rfl, r2, ⟨v3, _, rfl, r3, rn⟩⟩⟩⟩ := ru
    cases (show _ = [] from rn)
    simp only [hr', Option.bind_some, stR] at hR hR0
    refine ⟨_, rfl, qa, _, _, v3, rfl, rfl, SqT.of hqa, atI_nat (j := 2) rfl, rfl, _, rfl, ?_⟩
    rcases ruleS_cases (inB kvs) r'.2 with ⟨e1, e2⟩ | ⟨y, e1, e2, hy', _⟩
    · rw [e1] at r3
      cases (show v3 = V.non from r3)
      rw [e2] at hR0
      exact iteF (hR0 _ rfl (Same.refl _))
    · rw [e1] at r3
      cases (show v3 = V.str y from r3.1)
      rw [e2] at hR
      refine ite2 (fun _ => ?_) (fun c => absurd (by simp) c)
      refine ⟨_, rfl, qa, _, _, v1, rfl, rfl, SqT.of hqa, atI_nat (j := 0) rfl, _, rfl, qa, _, _, .str y, rfl, rfl, SqT.of hqa, atI_nat (j := 2) rfl, (by show 2 ≤ sizeLine; decide), fun p3 hp3 => ?_⟩
      have t3 := same_new hp3 (.tup [v1, V.str y])
      exact hR _ _ _ rfl t3 ⟨p3, _, rfl, upd_same, ⟨_, _, rfl, r1.mono t3, ⟨_, _, rfl, ⟨rfl, hy'⟩, rfl⟩⟩⟩
  · exact ⟨_, SqL.of (s2 _ _ hf), by omega⟩
  · refine q p vs H2 (s1.free hp) (s1.trans s2) h2 ?_
    have e : (List.range (rowsD [] d).length).filterMap (fun i => ((rowsD [] d)[i]?).bind fun r => (stR (inB kvs) r).map prD) = (stp (inB kvs) d).map prD := by
      rw [stp, List.map_filterMap, range_fm]
    rw [← e]
    exact r2
theorem wf_kindW {nm : D → Bool} {k : Bool} {x : Str} {ps : List D} (h : wfG nm k (.tup (.str x :: ps)) = true) : kindW x = k := by
  rw [wfG] at h
  split at h
  · rw [Bool.and_eq_true] at h
    simpa using h.1
  · cases h
structure Bd (H : Hp) (ld h1 h2 lb b1 b2 : Addr) (kvs1 kvs2 : List (Key × V)) (d : D) (v : V) : Prop where
  ld : H ld = some (.lst [V.ref h1, .ref h2])
  h1 : H h1 = some (.dK kvs1)
  h2 : H h2 = some (.dK kvs2)
  lb : H lb = some (.lst [V.ref b1, .ref b2])
  b1 : H b1 = some (.dK kvs1)
  b2 : H b2 = some (.dK kvs2)
  r : Rep H d v
theorem Bd.mono {H H' : Hp} {ld h1 h2 lb b1 b2 : Addr} {kvs1 kvs2 : List (Key × V)} {d : D} {v : V} (B : Bd H ld h1 h2 lb b1 b2 kvs1 kvs2 d v) (s : Same H H') : Bd H' ld h1 h2 lb b1 b2 kvs1 kvs2 d v :=
  ⟨s _ _ B.ld, s _ _ B.h1, s _ _ B.h2, s _ _ B.lb, s _ _ B.b1, s _ _ B.b2, B.r.mono s⟩
theorem Bd.sx {H0 H H' : Hp} {l ld h1 h2 lb b1 b2 : Addr} {kvs1 kvs2 : List (Key × V)} {d : D} {v : V} (B0 : Bd H0 ld h1 h2 lb b1 b2 kvs1 kvs2 d v) (e : H0 l = none) (B : Bd H ld h1 h2 lb b1 b2 kvs1 kvs2 d v) (nt : ∀ vs, H l ≠ some (.tup vs)) (s : SameX l H H') : Bd H' ld h1 h2 lb b1 b2 kvs1 kvs2 d v :=
  have n : ∀ {b : Addr} {o : HO}, H0 b = some o → b ≠ l := fun h z => by rw [z, e] at h; cases h
  ⟨s _ _ (n B0.ld) B.ld, s _ _ (n B0.h1) B.h1, s _ _ (n B0.h2) B.h2, s _ _ (n B0.lb) B.lb, s _ _ (n B0.b1) B.b1, s _ _ (n B0.b2) B.b2, B.r.monoX s nt⟩
def spLaw (K : PySem.W.Frag) : Sp := fun vs H Q _ => ∃ (a : Addr) (ns : List Int), vs = [.ref a] ∧ SqL K H a (ns.map V.int) ∧ ns.length ≤ 63 ∧ ∀ H', Q (.bl true) H'
theorem tape_new {H : Hp} {a p : Addr} {ns : List Int} (hS : SqL K H a (ns.map V.int)) (hl : ns.length ≤ 63) (hp : H p = none) : Tp K a p ns (upd H p (.lst [V.int 0])) 0 := by
  refine ⟨?_, hl, upd_same, Int.le_refl _⟩
  rcases hS with (h | ⟨o, h⟩) | h
  · have n : a ≠ p := ne_of_none h hp
    exact .inl ⟨n, .inl (by rw [upd_ne n]; exact h)⟩
  · have n : a ≠ p := ne_of_none h hp
    exact .inl ⟨n, .inr ⟨o, by rw [upd_ne n]; exact h⟩⟩
  · exact .inr fun H' => .inr h
theorem sc_law : FnScope ["_law_script", "_law_tape", "_law_pool_here", "_law_near", "_law_books", "_law_thing_here", "_law_told", "_law_handed", "_law_first", "_law_second", "_law_kept"] ["_law_script"] (defScope s_law) := ⟨rfl, rfl, rfl, by decide +kernel, rfl, by decide +kernel, by decide +kernel⟩
theorem c_law {f : Addr} {fd : FuncData} (F : Fun K "law" "law" s_law f fd) (M : Mg mg t) (F_law_draw : Cal P w K mg CX0 "_law_draw" (1) ["_law_script", "_law_tape", "_law_many"] (spDraw K)) (F_law_pool : Cal P w K mg CX0 "_law_pool" (2) ["_law_script", "_law_tape"] (spPool K)) (F_law_book : Cal P w K mg CX0 "_law_book" (154) ["_law_script", "_law_tape", "_law_pool_here"] (spBook K)) (F_law_thing : Cal P w K mg CX0 "_law_thing" (154) ["_law_script", "_law_tape", "_law_deep", "_law_near", "_law_pool_here"] (spThing K)) (F_law_under : Cal P w K mg CX0 "_law_under" (174) ["_law_script", "_law_tape", "_law_thing_here"] (spUnder K)) (F_law_measured : Cal P w K mg CX0 "_law_measured" (172) ["_law_thing_here"] (spMeas 41)) (F_law_sized : Cal P w K mg CX0 "_law_sized" (10) ["_law_many"] (spSized 9)) (F_is_term : Cal P w K mg CX0 "is_term" (64) ["thing"] (spIsK false))
    (F_steps_of : Cal P w K mg CX0 "steps_of" (64) ["thing", "book"] (spSteps 61)) (F_law_pairs : Cal P w K mg CX0 "_law_pairs" (1) ["_law_found", "_law_due_here"] spPairs) (F_law_due : Cal P w K mg CX0 "_law_due" (3) ["_law_thing_here", "_law_book_here"] spDue) : FnOk P w K mg base CX0 175 f fd ["_law_script"] (spLaw K) := by
  refine F.ok sc_law (fun vs H Q E h => ?_) (fun cdv A outer s H vs Q E hr h => ?_)
  · obtain ⟨a, ns, rfl, _⟩ := h
    rfl
  obtain ⟨a, ns, rfl, hS, hlen, q⟩ := h
  have hu := hu_of hr
  refine ⟨_, (pss_cons (ps_set (i := 1) sc_law.nd rfl (by first | exact Or.inl rfl | exact Or.inr rfl) (pe_lst (pa_cons pe_int pa_nil)))
      (pss_cons (ps_set (i := 2) sc_law.nd rfl (by first | exact Or.inl rfl | exact Or.inr rfl) (pe_fn F_law_pool (hr.mono (by omega)) rfl pass0 (pa_cons (pv 0) (pa_cons (pv 1) pa_nil))))
      (pss_cons (ps_set (i := 3) sc_law.nd rfl (by first | exact Or.inl rfl | exact Or.inr rfl) (pe_ix ix_list (pe_lst (pa_cons pe_int (pa_cons pe_int (pa_cons pe_int pa_nil)))) (pe_fn F_law_draw (hr.mono (by omega)) rfl pass0 (pa_cons (pv 0) (pa_cons (pv 1) (pa_cons pe_int pa_nil)))) (fun _ _ => rfl)))
      (pss_cons (ps_set (i := 4) sc_law.nd rfl (by first | exact Or.inl rfl | exact Or.inr rfl) (pe_lst (pa_cons (pe_fn F_law_book (hr.mono (by omega)) rfl pass0 (pa_cons (pv 0) (pa_cons (pv 1) (pa_cons (pv 2) pa_nil)))) (pa_cons (pe_fn F_law_book (hr.mono (by omega)) rfl pass0 (pa_cons (pv 0) (pa_cons (pv 1) (pa_cons (pv 2) pa_nil)))) pa_nil))))
      (pss_cons (ps_set (i := 5) sc_law.nd rfl (by first | exact Or.inl rfl | exact Or.inr rfl) (pe_fn F_law_thing (hr.mono (by omega)) rfl pass0 (pa_cons (pv 0) (pa_cons (pv 1) (pa_cons (pe_op op_add pe_int (pe_fn F_law_draw (hr.mono (by omega)) rfl pass0 (pa_cons (pv 0) (pa_cons (pv 1) (pa_cons pe_int pa_nil))))) (pa_cons (pv 3) (pa_cons (pv 2) pa_nil)))))))
      (pss_cons (ps_set (i := 5) sc_law.nd rfl (by first | exact Or.inl rfl | exact Or.inr rfl) (pe_fn F_law_under (hr.mono (by omega)) rfl pass0 (pa_cons (pv 0) (pa_cons (pv 1) (pa_cons (pv 5) pa_nil)))))
      (pss_cons (ps_set (i := 6) sc_law.nd rfl (by first | exact Or.inl rfl | exact Or.inr rfl) (pe_fn F_law_measured (hr.mono (by omega)) rfl pass0 (pa_cons (pv 5) pa_nil)))
      (pss_cut (ps_if (L2.PW.pt (pw_and (pt_cmpR op_eq (pe_fn F_law_draw (hr.mono (by omega)) rfl pass0 (pa_cons (pv 0) (pa_cons (pv 1) (pa_cons pe_int pa_nil)))) pe_int (nomark _)) (pw_and (pt_val (pe_fn F_is_term (hr.mono (by omega)) rfl pass0 (pa_cons (pv 5) pa_nil))) (pw_and (pt_cmpR op_lt (pe_ix ix_tup (pv 6) pe_int (fun _ _ => rfl)) pe_int (nomark _)) (pw_and1 (pt_cmpR op_lt (pe_ix ix_tup (pv 6) pe_int (fun _ _ => rfl)) pe_int (nomark _))))))) (pss_one (ps_set (i := 5) sc_law.nd rfl (by first | exact Or.inl rfl | exact Or.inr rfl) (pe_ix ix_list (pe_lst (pa_cons (pe_tup (pa_cons pe_str (pa_cons (pv 5) (pa_cons (pe_fn F_law_sized (hr.mono (by omega)) rfl pass0 (pa_cons pe_int pa_nil)) pa_nil)))) (pa_cons (pe_tup (pa_cons pe_str (pa_cons (pe_fn F_law_sized (hr.mono (by omega)) rfl pass0 (pa_cons pe_int pa_nil)) (pa_cons (pv 5) pa_nil)))) pa_nil))) (pe_fn F_law_draw (hr.mono (by omega)) rfl pass0 (pa_cons (pv 0) (pa_cons (pv 1) (pa_cons pe_int pa_nil)))) (fun _ _ => rfl)))) pss_nil)
      (pss_cons (ps_setC (ix := 7) (N' := ["_law_book_here"]) (own := 1) (fr := []) sc_law.nd rfl rfl rfl (blk_of (N := ["_law_script", "_law_tape", "_law_pool_here", "_law_near", "_law_books", "_law_thing_here", "_law_told", "_law_handed", "_law_first", "_law_second", "_law_kept"]) (sc := defScope s_law) rfl rfl rfl (by decide +kernel)) (pi_list (pv 4)) (own_name (by decide)) (fun _ _ _ => (pg_name (i := 0) (show List.Nodup (["_law_book_here"] : List Str) by decide +kernel) rfl (Or.inl rfl))) (fun _ _ _ => pif_nil) (fun _ _ _ => (pe_callTy call_dictK rfl M.n_dict bt_dict (pa_cons (pv 0) pa_nil))))
      (pss_cons (ps_set (i := 8) sc_law.nd rfl (by first | exact Or.inl rfl | exact Or.inr rfl) (pe_fn F_steps_of (hr.mono (by omega)) rfl pass0 (pa_cons (pv 5) (pa_cons (pe_ix ix_list (pv 7) pe_int (fun _ _ => rfl)) pa_nil))))
      (pss_cons (ps_if (pt_not (pt_val (pe_fn F_law_pairs (hr.mono (by omega)) rfl pass0 (pa_cons (pv 8) (pa_cons (pe_fn F_law_due (hr.mono (by omega)) rfl pass0 (pa_cons (pv 5) (pa_cons (pe_ix ix_list (pv 4) pe_int (fun _ _ => rfl)) pa_nil))) pa_nil))))) (pss_one (ps_ret pe_bl)) pss_nil)
      (pss_cons (ps_set (i := 9) sc_law.nd rfl (by first | exact Or.inl rfl | exact Or.inr rfl) (pe_fn F_steps_of (hr.mono (by omega)) rfl pass0 (pa_cons (pv 5) (pa_cons (pe_ix ix_list (pv 7) pe_int (fun _ _ => rfl)) pa_nil))))
      (pss_cons (ps_set (i := 10) sc_law.nd rfl (by first | exact Or.inl rfl | exact Or.inr rfl) (pe_callTy call_list_of rfl M.n_list bt_list (pa_cons (pv 9) pa_nil)))
      (pss_cons (ps_if (pt_not (pt_val (pe_fn F_law_pairs (hr.mono (by omega)) rfl pass0 (pa_cons (pv 9) (pa_cons (pe_fn F_law_due (hr.mono (by omega)) rfl pass0 (pa_cons (pv 5) (pa_cons (pe_ix ix_list (pv 4) pe_int (fun _ _ => rfl)) pa_nil))) pa_nil))))) (pss_one (ps_ret pe_bl)) pss_nil)
      (pss_cons (ps_expr (pe_bm PySem.F.plainAttrs_list PySem.F.slot_list_append PySem.F.type_list_append mt_append (pv 8) (pa_cons (pe_tup (pa_cons (pe_tup pa_nil) (pa_cons pe_str pa_nil))) pa_nil)))
      (pss_cons (ps_expr (pe_bm0 PySem.F.plainAttrs_list PySem.F.slot_list_reverse PySem.F.type_list_reverse mt_reverse (pv 8)))
      (pss_cons (ps_if (pt_not (pt_val (pe_fn F_law_pairs (hr.mono (by omega)) rfl pass0 (pa_cons (pe_fn F_steps_of (hr.mono (by omega)) rfl pass0 (pa_cons (pv 5) (pa_cons (pe_ix ix_list (pv 7) pe_int (fun _ _ => rfl)) pa_nil))) (pa_cons (pe_fn F_law_due (hr.mono (by omega)) rfl pass0 (pa_cons (pv 5) (pa_cons (pe_ix ix_list (pv 4) pe_int (fun _ _ => rfl)) pa_nil))) pa_nil))))) (pss_one (ps_ret pe_bl)) pss_nil)
      (pss_one (ps_ret (pe_and (pe_fn F_law_pairs (hr.mono (by omega)) rfl pass0 (pa_cons (pv 9) (pa_cons (pv 10) pa_nil))) (pe_one (pe_cmpR (op_eqLD hr.units) (pv 7) (pv 4) (nomark _))))))))))))))))))))))), ?_⟩
  try dsimp only [cxK, cxK2]
  refine let8 ?_
  intro _ _ _ _ _ _ _ _
  refine ⟨(by show 1 ≤ sizeLine; decide), fun p hp => ?_⟩
  have T0 := tape_new hS hlen hp
  generalize upd H p (.lst [V.int 0]) = H0 at T0 ⊢
  refine ⟨_, rfl, _, rfl, a, p, ns, 0, rfl, T0, (by decide), fun c x y z H1 l1 l2 l3 hc x1 h1 => ?_⟩
  have g1 : Sg K a p c ns H1 (0 + 4) := ⟨T0.next x1 h1 (by decide), x, y, z, l1, l2, l3, hc⟩
  refine ⟨(by show 3 ≤ sizeLine; decide), fun p2 e2 => ?_⟩
  have t2 := same_new e2 (.lst [V.int 0, .int 3, .int 90])
  have g2 := g1.mono t2
  refine ⟨_, rfl, _, rfl, a, p, ns, 0 + 4, 3, rfl, g2.T, (by decide), (by decide), fun wz H3 w0 w1 x3 h3 => ?_⟩
  have g3 := g2.next x3 h3 (by decide)
  have np2 : p2 ≠ p := fun z => by subst z; rw [g1.T.tape] at e2; cases e2
  have hp2 := x3 _ _ np2 (show (upd H1 p2 (.lst [V.int 0, .int 3, .int 90])) p2 = some _ from upd_same)
  obtain ⟨near, hnear, n0, n1⟩ : ∃ near : Int, atI [V.int 0, .int 3, .int 90] wz = some (.int near) ∧ 0 ≤ near ∧ near ≤ 90 := by
    have : wz = 0 ∨ wz = 1 ∨ wz = 2 := by omega
    rcases this with rfl | rfl | rfl
    · exact ⟨0, rfl, by decide, by decide⟩
    · exact ⟨3, rfl, by decide, by decide⟩
    · exact ⟨90, rfl, by decide, by decide⟩
  refine ⟨p2, _, _, _, rfl, rfl, SqL.of hp2, hnear, ?_⟩
  -- two books
  refine ⟨_, rfl, _, rfl, _, rfl, a, p, c, ns, 0 + 4 + 1, rfl, g3, (by decide), fun b1 kvs1 H4 i4 _ hb1 lk1 B1 x4 g4 lo4 hi4 => ?_⟩
  refine ⟨_, rfl, _, rfl, _, rfl, a, p, c, ns, i4, rfl, g4, (by omega), fun b2 kvs2 H5 i5 _ hb2 lk2 B2 x5 g5 lo5 hi5 => ⟨(by show 2 ≤ sizeLine; decide), fun lb elb => ?_⟩⟩
  have nb1 : b1 ≠ p := fun z => by rw [z, g4.T.tape] at hb1; cases hb1
  have nb2 : b2 ≠ p := fun z => by rw [z, g5.T.tape] at hb2; cases hb2
  have t5 := same_new elb (.lst [V.ref b1, .ref b2])
  have hb1 := t5 _ _ (x5 _ _ nb1 hb1)
  have hb2 := t5 _ _ hb2
  have B1 := (B1.sx x5 (not_tup_list g4.T.tape)).mono t5
  have B2 := B2.mono t5
  have g5 := g5.mono t5
  have nlb : lb ≠ p := fun z => by
    have h6 := g5.T.tape
    rw [← z, show (upd H5 lb (.lst [V.ref b1, .ref b2])) lb = some (.lst [V.ref b1, .ref b2]) from upd_same] at h6
    cases h6
  have hlb : (upd H5 lb (.lst [V.ref b1, .ref b2])) lb = some (.lst [V.ref b1, .ref b2]) := upd_same
  generalize upd H5 lb (.lst [V.ref b1, .ref b2]) = H6 at hb1 hb2 B1 B2 g5 hlb t5 ⊢
  -- the thing
  refine ⟨_, rfl, _, rfl, _, rfl, _, rfl, a, p, ns, i5, 5, rfl, g5.T, (by omega), (by decide), fun dz H7 d0 d1 x7 h7 => ⟨_, _, rfl, rfl, ?_⟩⟩
  have g7 := g5.next x7 h7 (by have := g5.T.i0; omega)
  refine ⟨_, rfl, _, rfl, a, p, c, ns, i5 + 1, 1 + dz, near, rfl, g7, (by omega), (by omega), (by omega), n0, n1, fun k d v H8 i8 o => ?_⟩
  have oi := o.hi
  have ol := o.lo
  refine ⟨_, rfl, _, rfl, _, rfl, a, p, c, ns, i8, k, d, v, rfl, o.g, (by omega), o.r, o.wf, o.dp, o.kn, fun k9 d9 v9 H9 i9 o9 => ?_⟩
  have x79 := x7.trans (o.sx.trans o9.sx)
  have nt := not_tup_list g5.T.tape
  have hb1 := x79 _ _ nb1 hb1
  have hb2 := x79 _ _ nb2 hb2
  have hlb := x79 _ _ nlb hlb
  have B1 := B1.sx x79 nt
  have B2 := B2.sx x79 nt
  have oi9 := o9.hi
  have odp := o9.dp
  have okn := o9.kn
  have owf := o9.wf
  have or9 := o9.r
  have g9 := o9.g
  clear o9 o x79 nt
  refine ⟨_, rfl, d9, v9, rfl, or9, ⟨⟨k9, owf⟩, by omega, by omega⟩, fun qt ct H10 s10 _ _ hqt => ?_⟩
  have hb1 := s10 _ _ hb1
  have hb2 := s10 _ _ hb2
  have hlb := s10 _ _ hlb
  have B1 := B1.mono s10
  have B2 := B2.mono s10
  have r10 := or9.mono s10
  have g10 := g9.mono s10
  have hg9 := g9.T.i0
  let Mid : L2.St → Hp → Prop := fun σ' H' => ∃ (k' : Bool) (d' : KM.D) (v' : V), σ' = [some (.ref a), some (.ref p), some (.ref c), some (.int near), some (.ref lb), some v', some (.ref qt), none, none, none, none] ∧ Rep H' d' v' ∧ wfG isStrD k' d' = true ∧ depth d' ≤ 50 ∧ knots d' ≤ 400000 ∧ H' b1 = some (.dK kvs1) ∧ H' b2 = some (.dK kvs2) ∧ H' lb = some (.lst [V.ref b1, .ref b2]) ∧ Bk H' kvs1 ∧ Bk H' kvs2
  refine ⟨Mid, ?_, ?_⟩
  · refine ⟨_, rfl, _, rfl, a, p, ns, i9, 8, rfl, g10.T, (by omega), (by decide), fun z8 H11 _ _ x11 h11 => ?_⟩
    have g11 := g10.next x11 h11 (by omega)
    have nt := not_tup_list g10.T.tape
    have hb1 := x11 _ _ nb1 hb1
    have hb2 := x11 _ _ nb2 hb2
    have hlb := x11 _ _ nlb hlb
    have B1 := B1.sx x11 nt
    have B2 := B2.sx x11 nt
    have r11 := r10.monoX x11 nt
    have nqt : qt ≠ p := fun z => by rw [z, g10.T.tape] at hqt; cases hqt
    have hqt := x11 _ _ nqt hqt
    have stay : ∀ H', Same H11 H' → ∃ (k' : Bool) (d' : KM.D) (v' : V), [some (V.ref a), some (.ref p), some (.ref c), some (.int near), some (.ref lb), some v9, some (.ref qt), none, none, none, none] = [some (V.ref a), some (.ref p), some (.ref c), some (.int near), some (.ref lb), some v', some (.ref qt), none, none, none, none] ∧ Rep H' d' v' ∧ wfG isStrD k' d' = true ∧ depth d' ≤ 50 ∧ knots d' ≤ 400000 ∧ H' b1 = some (.dK kvs1) ∧ H' b2 = some (.dK kvs2) ∧ H' lb = some (.lst [V.ref b1, .ref b2]) ∧ Bk H' kvs1 ∧ Bk H' kvs2 :=
      fun H' s' => ⟨k9, d9, v9, rfl, r11.mono s', owf, by omega, by omega, s' _ _ hb1, s' _ _ hb2, s' _ _ hlb, B1.mono s', B2.mono s'⟩
    refine ⟨rfl, _, rfl, ite2 (fun _ => ?_) (fun _ => iteF (stay _ (Same.refl _)))⟩
    refine ⟨_, rfl, d9, v9, rfl, r11, wf_ok owf, (by omega), (by omega), fun H12 s12 => ⟨_, rfl, ite2 (fun ct' => ?_) (fun _ => iteF (stay _ s12))⟩⟩
    have hqt12 := s12 _ _ hqt
    refine ⟨_, rfl, qt, _, _, _, rfl, rfl, SqT.of hqt12, atI_nat (j := 0) rfl, _, _, rfl, rfl, _, rfl, ite2 (fun _ => ?_) (fun _ => iteF (stay _ s12))⟩
    refine ⟨_, rfl, qt, _, _, _, rfl, rfl, SqT.of hqt12, atI_nat (j := 1) rfl, _, _, rfl, rfl, _, rfl, ite2 (fun _ => ?_) (fun _ => stay _ s12)⟩
    obtain ⟨x9, ps9, e9⟩ := wf_form owf
    have hk9 : k9 = false := by
      subst e9
      have ct' : (isTup _ && (!vastD _ && wfG nameD false _)) = true := ct'
      rw [Bool.and_eq_true, Bool.and_eq_true] at ct'
      have h1 := wf_kindW owf
      have h2 := wf_kindW ct'.2.2
      rw [← h1, h2]
    subst hk9
    have r12 := r11.mono s12
    refine ⟨_, rfl, 300, rfl, (by decide), (by decide), fun dS vS HS sS rS wS aS bS => ⟨(by show 3 ≤ sizeLine; decide), fun q1 e1 => ?_⟩⟩
    have u1 := same_new e1 (.tup [V.str "app", v9, vS])
    have rA : Rep (upd HS q1 (.tup [V.str "app", v9, vS])) (.tup [.str "app", d9, dS]) (.ref q1) := rep_new e1 (rs rw_ (rs (r12.mono sS) (rs rS r0)))
    refine ⟨300, rfl, (by decide), (by decide), fun dT vT HT sT rT wT aT bT => ⟨_, rfl, (by show 3 ≤ sizeLine; decide), fun q2 e2 => ⟨(by show 2 ≤ sizeLine; decide), fun q3 e3 => ?_⟩⟩⟩
    have u2 := same_new e2 (.tup [V.str "app", vT, v9])
    have rB : Rep (upd HT q2 (.tup [V.str "app", vT, v9])) (.tup [.str "app", dT, d9]) (.ref q2) := rep_new e2 (rs rw_ (rs rT (rs (r12.mono (sS.trans (u1.trans sT))) r0)))
    have u3 := same_new e3 (.lst [V.ref q1, .ref q2])
    have sA := sT.trans (u2.trans u3)
    have sAll := s12.trans (sS.trans (u1.trans sA))
    have rA := rA.mono sA
    have rB := rB.mono u3
    have h3 : (upd (upd HT q2 (.tup [V.str "app", vT, v9])) q3 (.lst [V.ref q1, .ref q2])) q3 = some (.lst [V.ref q1, .ref q2]) := upd_same
    generalize upd (upd HT q2 (.tup [V.str "app", vT, v9])) q3 (.lst [V.ref q1, .ref q2]) = H13 at sAll rA rB h3 ⊢
    have g13 := g11.mono sAll
    refine ⟨_, rfl, _, rfl, a, p, ns, i9 + 1, 2, rfl, g13.T, (by omega), (by decide), fun z2 H14 z0 z1 x14 h14 => ?_⟩
    have nt := not_tup_list g13.T.tape
    have n3 : q3 ≠ p := fun z => by rw [z, g13.T.tape] at h3; cases h3
    have h3 := x14 _ _ n3 h3
    have rA := rA.monoX x14 nt
    have rB := rB.monoX x14 nt
    have hb1 := x14 _ _ nb1 (sAll _ _ hb1)
    have hb2 := x14 _ _ nb2 (sAll _ _ hb2)
    have hlb := x14 _ _ nlb (sAll _ _ hlb)
    have B1 := (B1.mono sAll).sx x14 nt
    have B2 := (B2.mono sAll).sx x14 nt
    have bS : knots dS ≤ 300 := by omega
    have bT : knots dT ≤ 300 := by omega
    have cs : z2 = 0 ∨ z2 = 1 := by omega
    rcases cs with rfl | rfl
    · refine ⟨q3, _, _, _, rfl, rfl, SqL.of h3, rfl, false, _, _, rfl, rA, wf_app owf wS, ?_, ?_, hb1, hb2, hlb, B1, B2⟩
      · apply KM.d0; with_reducible repeat' first | apply KM.q0i | apply KM.q0s | apply KM.q0 | apply KM.q4 | apply KM.q3 | apply KM.q2 | apply KM.q1 | omega
      · simp only [knots, knotsL]; omega
    · refine ⟨q3, _, _, _, rfl, rfl, SqL.of h3, rfl, false, _, _, rfl, rB, wf_app wT owf, ?_, ?_, hb1, hb2, hlb, B1, B2⟩
      · apply KM.d0; with_reducible repeat' first | apply KM.q0i | apply KM.q0s | apply KM.q0 | apply KM.q4 | apply KM.q3 | apply KM.q2 | apply KM.q1 | omega
      · simp only [knots, knotsL]; omega
  rintro σ' Hm ⟨k', d', v', rfl, rm, wm, dm, km, hb1, hb2, hlb, B1, B2⟩
  refine let10 ?_
  intro _ _ _ _ _ _ _ _ _ _
  have refs : ∀ kvs : List (Key × V), Bk Hm kvs → ∀ k v, (k, v) ∈ kvs → ∃ c, v = V.ref c := fun kvs B k v hm => by
    obtain ⟨q, _, _, _, _, e, _⟩ := B.each k v hm
    exact ⟨q, e⟩
  have ref1 := refs _ B1
  have ref2 := refs _ B2
  clear refs B1 B2
  -- the copies
  refine ⟨_, rfl, lb, rfl, ⟨_, SqL.of hlb⟩, fun ld eld => ?_⟩
  refine comp_byC 2 (fun i acc H2 => ∃ as : List Addr, acc = as.map V.ref ∧ as.length = i ∧ (∀ (j : Nat) (a' : Addr), as[j]? = some a' → Hm a' = none ∧ a' ≠ ld ∧ H2 a' = some (.dK (if j = 0 then kvs1 else kvs2))) ∧ H2 ld = some (.lst acc) ∧ Same Hm H2) ⟨[], rfl, rfl, fun j a' e => by simp at e, upd_same, same_new eld _⟩ ?_ ?_
  · rintro i acc H2 hi ⟨as, rfl, hl, hB, h2, s2⟩
    obtain ⟨bi, hbi, hbk⟩ : ∃ bi : Addr, [V.ref b1, .ref b2][i]? = some (.ref bi) ∧ Hm bi = some (.dK (if i = 0 then kvs1 else kvs2)) := by
      have : i = 0 ∨ i = 1 := by omega
      rcases this with rfl | rfl
      · exact ⟨b1, rfl, hb1⟩
      · exact ⟨b2, rfl, hb2⟩
    refine ⟨⟨_, _, SqL.of (s2 _ _ hlb), hbi⟩, ?_⟩
    rintro x' H3 ⟨rfl, hy⟩
    have hy := hy _ (SqL.of (s2 _ _ hlb))
    rw [hbi] at hy
    cases hy
    simp only [tYes, if_true]
    refine ⟨_, rfl, bi, _, rfl, s2 _ _ hbk, fun ai eai => ?_⟩
    have ti := same_new eai (.dK (if i = 0 then kvs1 else kvs2))
    have nai : ai ≠ ld := fun z => by rw [z, h2] at eai; cases eai
    refine ⟨ti _ _ h2, (by rw [List.length_map, sizeLine_eq]; omega), nx hi ⟨as ++ [ai], by simp, by simp [hl], fun j a' e => ?_, upd_same, same_upd (s2.trans ti) eld⟩⟩
    by_cases hj : j < as.length
    · rw [List.getElem?_append_left hj] at e
      obtain ⟨q1, q2, q3⟩ := hB j a' e
      exact ⟨q1, q2, by rw [upd_ne q2]; exact ti _ _ q3⟩
    · rw [List.getElem?_append_right (by omega)] at e
      have hj0 : j - as.length = 0 := by
        by_cases q : j - as.length = 0
        · exact q
        · rw [List.getElem?_eq_none (by simp; omega)] at e; cases e
      rw [hj0] at e
      have e : ai = a' := by simpa using e
      subst e
      have ej : j = i := by omega
      subst ej
      exact ⟨s2.free eai, nai, by rw [upd_ne nai]; exact upd_same⟩
  · rintro acc H2 ⟨as, rfl, hl, hB, h2, s2⟩
    refine ⟨⟨_, SqL.of (s2 _ _ hlb), Nat.le_refl _⟩, ?_⟩
    obtain ⟨h1, h2', rfl⟩ : ∃ h1 h2', as = [h1, h2'] := by
      match as, hl with
      | [x1, x2], _ => exact ⟨x1, x2, rfl⟩
    obtain ⟨f1, _, hh1⟩ := hB 0 h1 rfl
    obtain ⟨f2, _, hh2⟩ := hB 1 h2' rfl
    have hh1 : H2 h1 = some (.dK kvs1) := hh1
    have hh2 : H2 h2' = some (.dK kvs2) := hh2
    have h2 : H2 ld = some (.lst [V.ref h1, .ref h2']) := h2
    have n1 : h1 ≠ b1 := fun z => by rw [z, hb1] at f1; cases f1
    have n2 : h2' ≠ b2 := fun z => by rw [z, hb2] at f2; cases f2
    have rm := rm.mono s2
    have hb1 := s2 _ _ hb1
    have hb2 := s2 _ _ hb2
    have hlb := s2 _ _ hlb
    clear hB s2 f1 f2 hl
    have wfd : Wf d' := ⟨k', wm⟩
    have rz : Rz d' 61 := ⟨wfd, by omega, by omega⟩
    have oks : ∀ inb, ∀ r ∈ stp inb d', OkS r := fun inb r hr => ⟨by have := (stp_mem hr).1; omega, (stp_mem hr).2.2⟩
    have lens : ∀ inb, (stp inb d').length ≤ 16000000 := fun inb => by have := stp_len inb d'; omega
    have B : Bd H2 ld h1 h2' lb b1 b2 kvs1 kvs2 d' v' := ⟨h2, hh1, hh2, hlb, hb1, hb2, rm⟩
    clear hh1 hh2 h2 rm hb1 hb2 hlb
    -- the first
    refine ⟨_, rfl, _, rfl, ld, _, _, _, rfl, rfl, SqL.of B.ld, atI_nat (j := 0) rfl, d', v', h1, kvs1, rfl, B.r, rz, (by decide), B.h1, fun l1 us1 H3 e1 s3 hl1 r1 => ?_⟩
    have B3 := B.mono s3
    refine ⟨_, rfl, _, rfl, _, rfl, lb, _, _, _, rfl, rfl, SqL.of B3.lb, atI_nat (j := 0) rfl, d', v', b1, kvs1, rfl, B3.r, wfd, (by omega), (by omega), B3.b1, fun l2 us2 H4 _ s4 hl2 r2 => ⟨l1, l2, us1, us2, _, rfl, s4 _ _ hl1, hl2, r1.mono s4, r2, oks _, lens _, fun H5 s5 => ⟨true, rfl, iteF ?_⟩⟩⟩
    have B5 := B3.mono (s4.trans s5)
    have hl1 := (s4.trans s5) _ _ hl1
    have r1 := r1.mono (s4.trans s5)
    have s5 := s3.trans (s4.trans s5)
    clear s3 s4 B3 r2 hl2
    -- the second
    refine ⟨_, rfl, _, rfl, ld, _, _, _, rfl, rfl, SqL.of B5.ld, atI_nat (j := 1) rfl, d', v', h2', kvs2, rfl, B5.r, rz, (by decide), B5.h2, fun l3 us3 H6 e3 s6 hl3 r3 => ?_⟩
    refine ⟨_, rfl, l3, us3, rfl, .inl (SqL.of hl3), fun l4 e4 => ?_⟩
    have t7 := same_new e4 (.lst us3)
    have hl4 : (upd H6 l4 (.lst us3)) l4 = some (.lst us3) := upd_same
    have hl3 := t7 _ _ hl3
    have r3 := r3.mono t7
    have s7 := s6.trans t7
    have n34 : l3 ≠ l1 := fun z => by rw [z, hl1] at e3; cases e3
    have n41 : l4 ≠ l1 := fun z => by rw [z, s6 _ _ hl1] at e4; cases e4
    generalize upd H6 l4 (.lst us3) = H7 at hl4 hl3 r3 s7 ⊢
    have B7 := B5.mono s7
    refine ⟨_, rfl, _, rfl, _, rfl, lb, _, _, _, rfl, rfl, SqL.of B7.lb, atI_nat (j := 1) rfl, d', v', b2, kvs2, rfl, B7.r, wfd, (by omega), (by omega), B7.b2, fun l5 us5 H8 _ s8 hl5 r5 => ⟨l3, l5, us3, us5, _, rfl, s8 _ _ hl3, hl5, r3.mono s8, r5, oks _, lens _, fun H9 s9 => ⟨true, rfl, iteF ?_⟩⟩⟩
    have s89 := s8.trans s9
    have B9 := B7.mono s89
    have hl3 := s89 _ _ hl3
    have hl4 := s89 _ _ hl4
    have r3 := r3.mono s89
    have hl1 := (s7.trans s89) _ _ hl1
    have l1len := r1.length
    rw [List.length_map] at l1len
    have := lens (inB kvs1)
    clear s89 s8 s9 r5 hl5 B7 s7 t7 s6 e4 e3 B5 r1
    -- the first one changed
    refine ⟨_, rfl, .inl ⟨rfl, _, SqL.of hl1⟩, (by show 0 ≤ sizeLine; decide), fun q1 g1 => ⟨(by show 2 ≤ sizeLine; decide), fun q2 g2 => ?_⟩⟩
    have t10 := (same_new g1 (.tup [])).trans (same_new g2 (.tup [V.ref q1, .str "fun"]))
    have hl1 := t10 _ _ hl1
    have B10 := B9.mono t10
    have hl3 := t10 _ _ hl3
    have hl4 := t10 _ _ hl4
    have r3 := r3.mono t10
    generalize upd (upd H9 q1 (.tup [])) q2 (.tup [V.ref q1, .str "fun"]) = H10 at hl1 B10 hl3 hl4 r3 ⊢
    refine ⟨l1, _, _, rfl, rfl, hl1, (by rw [sizeLine_eq]; omega), ?_⟩
    have x11 : SameX l1 H10 (upd H10 l1 (.lst (us1 ++ [V.ref q2]))) := SameX.upd _
    have hl1' : (upd H10 l1 (.lst (us1 ++ [V.ref q2]))) l1 = some (.lst (us1 ++ [V.ref q2])) := upd_same
    have nt := not_tup_list hl1
    have B11 := B.sx e1 B10 nt x11
    have hl3 := x11 _ _ n34 hl3
    have hl4 := x11 _ _ n41 hl4
    have r3 := r3.monoX x11 nt
    generalize upd H10 l1 (.lst (us1 ++ [V.ref q2])) = H11 at hl1' B11 hl3 hl4 r3 ⊢
    refine ⟨_, rfl, .inl ⟨rfl, _, SqL.of hl1'⟩, l1, _, rfl, rfl, hl1', ?_⟩
    have x12 : SameX l1 H11 (upd H11 l1 (.lst (us1 ++ [V.ref q2]).reverse)) := SameX.upd _
    have nt := not_tup_list hl1'
    have B12 := B.sx e1 B11 nt x12
    have hl3 := x12 _ _ n34 hl3
    have hl4 := x12 _ _ n41 hl4
    have r3 := r3.monoX x12 nt
    generalize upd H11 l1 (.lst (us1 ++ [V.ref q2]).reverse) = H12 at B12 hl3 hl4 r3 ⊢
    -- told anew
    refine ⟨_, rfl, _, rfl, ld, _, _, _, rfl, rfl, SqL.of B12.ld, atI_nat (j := 0) rfl, d', v', h1, kvs1, rfl, B12.r, rz, (by decide), B12.h1, fun l6 us6 H13 e6 s13 hl6 r6 => ?_⟩
    have B13 := B12.mono s13
    refine ⟨_, rfl, _, rfl, lb, _, _, _, rfl, rfl, SqL.of B13.lb, atI_nat (j := 0) rfl, d', v', b1, kvs1, rfl, B13.r, wfd, (by omega), (by omega), B13.b1, fun l7 us7 H14 _ s14 hl7 r7 => ⟨l6, l7, us6, us7, _, rfl, s14 _ _ hl6, hl7, r6.mono s14, r7, oks _, lens _, fun H15 s15 => ⟨true, rfl, iteF ?_⟩⟩⟩
    have s35 := s13.trans (s14.trans s15)
    have B15 := B12.mono s35
    have hl3 := s35 _ _ hl3
    have hl4 := s35 _ _ hl4
    have r3 := r3.mono s35
    refine ⟨_, rfl, _, rfl, l3, l4, us3, us3, _, rfl, hl3, hl4, r3, r3, oks _, lens _, fun H16 s16 => ?_⟩
    have B16 := B15.mono s16
    refine ⟨true, rfl, iteT ⟨_, rfl, _, rfl, ld, lb, _, _, rfl, rfl, B16.ld, B16.lb, rfl, fun i x' y' e1' e2' => ?_, q _⟩⟩
    match i, e1', e2' with
    | 0, e1', e2' => cases e1'; cases e2'; exact ⟨h1, b1, kvs1, rfl, rfl, n1, B16.h1, B16.b1, ref1⟩
    | 1, e1', e2' => cases e1'; cases e2'; exact ⟨h2', b2, kvs2, rfl, rfl, n2, B16.h2, B16.b2, ref2⟩
    | i + 2, e1', _ => simp at e1'
end K22
end
section
set_option maxHeartbeats 4000000
namespace K22
open PySem L2 L3 KM
structure Txt (K : PySem.W.Frag) (mg : Str → Option Value) (t : Adr) : Prop where
  M : Mg mg t
  D_is_number : Df K mg "is_number" s_is_number ["value"]
  D_is_name : Df K mg "is_name" s_is_name ["value"]
  D_begins_due : Df K mg "begins_due" s_begins_due ["value", "due"]
  D_is_shaped : Df K mg "is_shaped" s_is_shaped ["value", "due"]
  D_is_vast : Df K mg "is_vast" s_is_vast ["value"]
  D_is_thing : Df K mg "is_thing" s_is_thing ["value", "due"]
  D_is_term : Df K mg "is_term" s_is_term ["thing"]
  D_kids_of : Df K mg "kids_of" s_kids_of ["thing"]
  D_rule_of : Df K mg "rule_of" s_rule_of ["thing", "book"]
  D_steps_of : Df K mg "steps_of" s_steps_of ["thing", "book"]
  D_law_draw : Df K mg "_law_draw" s_law_draw ["_law_script", "_law_tape", "_law_many"]
  D_law_named : Df K mg "_law_named" s_law_named ["_law_word"]
  D_law_pool : Df K mg "_law_pool" s_law_pool ["_law_script", "_law_tape"]
  D_law_leaf : Df K mg "_law_leaf" s_law_leaf ["_law_script", "_law_tape", "_law_near", "_law_pool_here"]
  D_law_kind : Df K mg "_law_kind" s_law_kind ["_law_script", "_law_tape", "_law_deep", "_law_near", "_law_pool_here"]
  D_law_fun : Df K mg "_law_fun" s_law_fun ["_law_script", "_law_tape", "_law_deep", "_law_near", "_law_pool_here"]
  D_law_pair : Df K mg "_law_pair" s_law_pair ["_law_script", "_law_tape", "_law_deep", "_law_near", "_law_pool_here"]
  D_law_like : Df K mg "_law_like" s_law_like ["_law_script", "_law_tape", "_law_deep", "_law_near", "_law_pool_here"]
  D_law_number : Df K mg "_law_number" s_law_number ["_law_script", "_law_tape", "_law_deep", "_law_near", "_law_pool_here"]
  D_law_parted : Df K mg "_law_parted" s_law_parted ["_law_script", "_law_tape", "_law_deep", "_law_near", "_law_pool_here", "_law_way"]
  D_law_still : Df K mg "_law_still" s_law_still ["_law_script", "_law_tape", "_law_deep", "_law_near", "_law_pool_here", "_law_way"]
  D_law_term : Df K mg "_law_term" s_law_term ["_law_script", "_law_tape", "_law_deep", "_law_near", "_law_pool_here"]
  D_law_kids : Df K mg "_law_kids" s_law_kids ["_law_thing_here"]
  D_law_measured : Df K mg "_law_measured" s_law_measured ["_law_thing_here"]
  D_law_great : Df K mg "_law_great" s_law_great ["_law_thing_here"]
  D_law_thing : Df K mg "_law_thing" s_law_thing ["_law_script", "_law_tape", "_law_deep", "_law_near", "_law_pool_here"]
  D_law_book : Df K mg "_law_book" s_law_book ["_law_script", "_law_tape", "_law_pool_here"]
  D_law_rule : Df K mg "_law_rule" s_law_rule ["_law_thing_here", "_law_book_here"]
  D_law_rows : Df K mg "_law_rows" s_law_rows ["_law_thing_here", "_law_book_here"]
  D_law_sized : Df K mg "_law_sized" s_law_sized ["_law_many"]
  D_law_wrapped : Df K mg "_law_wrapped" s_law_wrapped ["_law_script", "_law_tape", "_law_thing_here"]
  D_law_under : Df K mg "_law_under" s_law_under ["_law_script", "_law_tape", "_law_thing_here"]
  D_law_pairs : Df K mg "_law_pairs" s_law_pairs ["_law_found", "_law_due_here"]
  D_law_due : Df K mg "_law_due" s_law_due ["_law_thing_here", "_law_book_here"]
  D_law : Df K mg "law" s_law ["_law_script"]
  T_KIND_WORDS : SqK K t.KIND_WORDS [.str "nat", .str "none", .str "all", .str "some", .str "same"]
  T_KIDS_DUE : ∃ as, KD K t.KIDS_DUE [("nat", []), ("none", []), ("all", [.str "kind", .str "kind"]), ("some", [.str "kind", .str "kind"]), ("same", [.str "kind", .str "term", .str "term"]), ("var", []), ("fun", [.str "kind", .str "term"]), ("app", [.str "term", .str "term"]), ("zero", []), ("next", [.str "term"]), ("rec", [.str "kind", .str "term", .str "term", .str "term"]), ("like", [.str "kind", .str "term"]), ("carry", [.str "kind", .str "term", .str "term"]), ("never", [.str "kind", .str "term"]), ("pair", [.str "kind", .str "term", .str "term"]), ("first", [.str "term"]), ("second", [.str "term"]), ("name", [])] as
  T_RULES : Rul K t.RULES
theorem txt_mk {K : PySem.W.Frag} {h : Heap} {mg : Str → Option Value} (X : K.In h) (G : h.Ns mainGlobals mg)
    {tk_MOST_KNOTS : Tok}
    {tk_MOST_DEEP : Tok}
    {tk_MOST_VARIABLE : Tok}
    {tk_MOST_LETTERS : Tok}
    {tk_LETTERS : Tok}
    {t_KIND_WORDS : Addr}
    {td_KIND_WORDS : Option Addr} {ti_KIND_WORDS : Array Value} {tn_KIND_WORDS : Nat} {ts_KIND_WORDS : Array (Option Value)}
    {t_KIDS_DUE : Addr}
    {es_KIDS_DUE : Array DictEntry} {ep_KIDS_DUE : Nat}
    {b0_KIDS_DUE b1_KIDS_DUE b2_KIDS_DUE b3_KIDS_DUE b4_KIDS_DUE b5_KIDS_DUE b6_KIDS_DUE b7_KIDS_DUE b8_KIDS_DUE b9_KIDS_DUE b10_KIDS_DUE b11_KIDS_DUE b12_KIDS_DUE b13_KIDS_DUE b14_KIDS_DUE b15_KIDS_DUE b16_KIDS_DUE b17_KIDS_DUE : Addr}
    {d17_KIDS_DUE : Option Addr} {i17_KIDS_DUE : Array Value} {n17_KIDS_DUE : Nat} {s17_KIDS_DUE : Array (Option Value)}
    {d16_KIDS_DUE : Option Addr} {i16_KIDS_DUE : Array Value} {n16_KIDS_DUE : Nat} {s16_KIDS_DUE : Array (Option Value)}
    {d15_KIDS_DUE : Option Addr} {i15_KIDS_DUE : Array Value} {n15_KIDS_DUE : Nat} {s15_KIDS_DUE : Array (Option Value)}
    {d14_KIDS_DUE : Option Addr} {i14_KIDS_DUE : Array Value} {n14_KIDS_DUE : Nat} {s14_KIDS_DUE : Array (Option Value)}
    {d13_KIDS_DUE : Option Addr} {i13_KIDS_DUE : Array Value} {n13_KIDS_DUE : Nat} {s13_KIDS_DUE : Array (Option Value)}
    {d12_KIDS_DUE : Option Addr} {i12_KIDS_DUE : Array Value} {n12_KIDS_DUE : Nat} {s12_KIDS_DUE : Array (Option Value)}
    {d11_KIDS_DUE : Option Addr} {i11_KIDS_DUE : Array Value} {n11_KIDS_DUE : Nat} {s11_KIDS_DUE : Array (Option Value)}
    {d10_KIDS_DUE : Option Addr} {i10_KIDS_DUE : Array Value} {n10_KIDS_DUE : Nat} {s10_KIDS_DUE : Array (Option Value)}
    {d9_KIDS_DUE : Option Addr} {i9_KIDS_DUE : Array Value} {n9_KIDS_DUE : Nat} {s9_KIDS_DUE : Array (Option Value)}
    {d8_KIDS_DUE : Option Addr} {i8_KIDS_DUE : Array Value} {n8_KIDS_DUE : Nat} {s8_KIDS_DUE : Array (Option Value)}
    {d7_KIDS_DUE : Option Addr} {i7_KIDS_DUE : Array Value} {n7_KIDS_DUE : Nat} {s7_KIDS_DUE : Array (Option Value)}
    {d6_KIDS_DUE : Option Addr} {i6_KIDS_DUE : Array Value} {n6_KIDS_DUE : Nat} {s6_KIDS_DUE : Array (Option Value)}
    {d5_KIDS_DUE : Option Addr} {i5_KIDS_DUE : Array Value} {n5_KIDS_DUE : Nat} {s5_KIDS_DUE : Array (Option Value)}
    {d4_KIDS_DUE : Option Addr} {i4_KIDS_DUE : Array Value} {n4_KIDS_DUE : Nat} {s4_KIDS_DUE : Array (Option Value)}
    {d3_KIDS_DUE : Option Addr} {i3_KIDS_DUE : Array Value} {n3_KIDS_DUE : Nat} {s3_KIDS_DUE : Array (Option Value)}
    {d2_KIDS_DUE : Option Addr} {i2_KIDS_DUE : Array Value} {n2_KIDS_DUE : Nat} {s2_KIDS_DUE : Array (Option Value)}
    {d1_KIDS_DUE : Option Addr} {i1_KIDS_DUE : Array Value} {n1_KIDS_DUE : Nat} {s1_KIDS_DUE : Array (Option Value)}
    {d0_KIDS_DUE : Option Addr} {i0_KIDS_DUE : Array Value} {n0_KIDS_DUE : Nat} {s0_KIDS_DUE : Array (Option Value)}
    {t_RULES : Addr}
    {es_RULES : Array DictEntry} {ep_RULES : Nat}
    {b0_RULES b1_RULES b2_RULES b3_RULES b4_RULES : Addr}
    {b0_0_RULES : Addr}
    {d0_RULES : Option Addr} {i0_RULES : Array Value} {n0_RULES : Nat} {s0_RULES : Array (Option Value)}
    {d0_0_RULES : Option Addr} {i0_0_RULES : Array Value} {n0_0_RULES : Nat} {s0_0_RULES : Array (Option Value)}
    {b1_0_RULES b1_1_RULES : Addr}
    {d1_RULES : Option Addr} {i1_RULES : Array Value} {n1_RULES : Nat} {s1_RULES : Array (Option Value)}
    {d1_0_RULES : Option Addr} {i1_0_RULES : Array Value} {n1_0_RULES : Nat} {s1_0_RULES : Array (Option Value)}
    {d1_1_RULES : Option Addr} {i1_1_RULES : Array Value} {n1_1_RULES : Nat} {s1_1_RULES : Array (Option Value)}
    {b2_0_RULES : Addr}
    {d2_RULES : Option Addr} {i2_RULES : Array Value} {n2_RULES : Nat} {s2_RULES : Array (Option Value)}
    {d2_0_RULES : Option Addr} {i2_0_RULES : Array Value} {n2_0_RULES : Nat} {s2_0_RULES : Array (Option Value)}
    {b3_0_RULES : Addr}
    {d3_RULES : Option Addr} {i3_RULES : Array Value} {n3_RULES : Nat} {s3_RULES : Array (Option Value)}
    {d3_0_RULES : Option Addr} {i3_0_RULES : Array Value} {n3_0_RULES : Nat} {s3_0_RULES : Array (Option Value)}
    {b4_0_RULES : Addr}
    {d4_RULES : Option Addr} {i4_RULES : Array Value} {n4_RULES : Nat} {s4_RULES : Array (Option Value)}
    {d4_0_RULES : Option Addr} {i4_0_RULES : Array Value} {n4_0_RULES : Nat} {s4_0_RULES : Array (Option Value)}
    (a0 : DfIn K "is_number" s_is_number)
    (a1 : DfIn K "is_name" s_is_name)
    (a2 : DfIn K "begins_due" s_begins_due)
    (a3 : DfIn K "is_shaped" s_is_shaped)
    (a4 : DfIn K "is_vast" s_is_vast)
    (a5 : DfIn K "is_thing" s_is_thing)
    (a6 : DfIn K "is_term" s_is_term)
    (a7 : DfIn K "kids_of" s_kids_of)
    (a8 : DfIn K "rule_of" s_rule_of)
    (a9 : DfIn K "steps_of" s_steps_of)
    (a10 : DfIn K "_law_draw" s_law_draw)
    (a11 : DfIn K "_law_named" s_law_named)
    (a12 : DfIn K "_law_pool" s_law_pool)
    (a13 : DfIn K "_law_leaf" s_law_leaf)
    (a14 : DfIn K "_law_kind" s_law_kind)
    (a15 : DfIn K "_law_fun" s_law_fun)
    (a16 : DfIn K "_law_pair" s_law_pair)
    (a17 : DfIn K "_law_like" s_law_like)
    (a18 : DfIn K "_law_number" s_law_number)
    (a19 : DfIn K "_law_parted" s_law_parted)
    (a20 : DfIn K "_law_still" s_law_still)
    (a21 : DfIn K "_law_term" s_law_term)
    (a22 : DfIn K "_law_kids" s_law_kids)
    (a23 : DfIn K "_law_measured" s_law_measured)
    (a24 : DfIn K "_law_great" s_law_great)
    (a25 : DfIn K "_law_thing" s_law_thing)
    (a26 : DfIn K "_law_book" s_law_book)
    (a27 : DfIn K "_law_rule" s_law_rule)
    (a28 : DfIn K "_law_rows" s_law_rows)
    (a29 : DfIn K "_law_sized" s_law_sized)
    (a30 : DfIn K "_law_wrapped" s_law_wrapped)
    (a31 : DfIn K "_law_under" s_law_under)
    (a32 : DfIn K "_law_pairs" s_law_pairs)
    (a33 : DfIn K "_law_due" s_law_due)
    (a34 : DfIn K "law" s_law)
    (z_all : PySem.W.nsIn K mainGlobals "all" = some none)
    (z_bool : PySem.W.nsIn K mainGlobals "bool" = some none)
    (z_dict : PySem.W.nsIn K mainGlobals "dict" = some none)
    (z_enumerate : PySem.W.nsIn K mainGlobals "enumerate" = some none)
    (z_int : PySem.W.nsIn K mainGlobals "int" = some none)
    (z_isinstance : PySem.W.nsIn K mainGlobals "isinstance" = some none)
    (z_len : PySem.W.nsIn K mainGlobals "len" = some none)
    (z_list : PySem.W.nsIn K mainGlobals "list" = some none)
    (z_max : PySem.W.nsIn K mainGlobals "max" = some none)
    (z_min : PySem.W.nsIn K mainGlobals "min" = some none)
    (z_range : PySem.W.nsIn K mainGlobals "range" = some none)
    (z_str : PySem.W.nsIn K mainGlobals "str" = some none)
    (z_tuple : PySem.W.nsIn K mainGlobals "tuple" = some none)
    (z_zip : PySem.W.nsIn K mainGlobals "zip" = some none)
    (g_MOST_KNOTS : PySem.W.nsIn K mainGlobals "MOST_KNOTS" = some (some (.int 600 tk_MOST_KNOTS)))
    (g_MOST_DEEP : PySem.W.nsIn K mainGlobals "MOST_DEEP" = some (some (.int 40 tk_MOST_DEEP)))
    (g_MOST_VARIABLE : PySem.W.nsIn K mainGlobals "MOST_VARIABLE" = some (some (.int 99 tk_MOST_VARIABLE)))
    (g_MOST_LETTERS : PySem.W.nsIn K mainGlobals "MOST_LETTERS" = some (some (.int 12 tk_MOST_LETTERS)))
    (g_LETTERS : PySem.W.nsIn K mainGlobals "LETTERS" = some (some (.str "abcdefghijklmnopqrstuvwxyz" tk_LETTERS)))
    (g_KIND_WORDS : PySem.W.nsIn K mainGlobals "KIND_WORDS" = some (some (.ref t_KIND_WORDS)))
    (lk_KIND_WORDS : K.lookup t_KIND_WORDS = some ⟨.type "tuple", td_KIND_WORDS, .seq ti_KIND_WORDS tn_KIND_WORDS, ts_KIND_WORDS⟩)
    (vs_KIND_WORDS : seqChk [.str "nat", .str "none", .str "all", .str "some", .str "same"] ti_KIND_WORDS = true)
    (g_KIDS_DUE : PySem.W.nsIn K mainGlobals "KIDS_DUE" = some (some (.ref t_KIDS_DUE)))
    (lk_KIDS_DUE : K.lookup t_KIDS_DUE = some ⟨.type "dict", none, .dict es_KIDS_DUE ep_KIDS_DUE, #[]⟩)
    (sy_KIDS_DUE : (t_KIDS_DUE == sysModules) = false)
    (ks_KIDS_DUE : rowsChk es_KIDS_DUE.toList ["nat", "none", "all", "some", "same", "var", "fun", "app", "zero", "next", "rec", "like", "carry", "never", "pair", "first", "second", "name"] = true)
    (rf_KIDS_DUE : refsOf es_KIDS_DUE.toList = [b0_KIDS_DUE, b1_KIDS_DUE, b2_KIDS_DUE, b3_KIDS_DUE, b4_KIDS_DUE, b5_KIDS_DUE, b6_KIDS_DUE, b7_KIDS_DUE, b8_KIDS_DUE, b9_KIDS_DUE, b10_KIDS_DUE, b11_KIDS_DUE, b12_KIDS_DUE, b13_KIDS_DUE, b14_KIDS_DUE, b15_KIDS_DUE, b16_KIDS_DUE, b17_KIDS_DUE])
    (u0_KIDS_DUE : K.lookup b0_KIDS_DUE = some ⟨.type "tuple", d0_KIDS_DUE, .seq i0_KIDS_DUE n0_KIDS_DUE, s0_KIDS_DUE⟩)
    (v0_KIDS_DUE : seqChk [] i0_KIDS_DUE = true)
    (u1_KIDS_DUE : K.lookup b1_KIDS_DUE = some ⟨.type "tuple", d1_KIDS_DUE, .seq i1_KIDS_DUE n1_KIDS_DUE, s1_KIDS_DUE⟩)
    (v1_KIDS_DUE : seqChk [] i1_KIDS_DUE = true)
    (u2_KIDS_DUE : K.lookup b2_KIDS_DUE = some ⟨.type "tuple", d2_KIDS_DUE, .seq i2_KIDS_DUE n2_KIDS_DUE, s2_KIDS_DUE⟩)
    (v2_KIDS_DUE : seqChk [.str "kind", .str "kind"] i2_KIDS_DUE = true)
    (u3_KIDS_DUE : K.lookup b3_KIDS_DUE = some ⟨.type "tuple", d3_KIDS_DUE, .seq i3_KIDS_DUE n3_KIDS_DUE, s3_KIDS_DUE⟩)
    (v3_KIDS_DUE : seqChk [.str "kind", .str "kind"] i3_KIDS_DUE = true)
    (u4_KIDS_DUE : K.lookup b4_KIDS_DUE = some ⟨.type "tuple", d4_KIDS_DUE, .seq i4_KIDS_DUE n4_KIDS_DUE, s4_KIDS_DUE⟩)
    (v4_KIDS_DUE : seqChk [.str "kind", .str "term", .str "term"] i4_KIDS_DUE = true)
    (u5_KIDS_DUE : K.lookup b5_KIDS_DUE = some ⟨.type "tuple", d5_KIDS_DUE, .seq i5_KIDS_DUE n5_KIDS_DUE, s5_KIDS_DUE⟩)
    (v5_KIDS_DUE : seqChk [] i5_KIDS_DUE = true)
    (u6_KIDS_DUE : K.lookup b6_KIDS_DUE = some ⟨.type "tuple", d6_KIDS_DUE, .seq i6_KIDS_DUE n6_KIDS_DUE, s6_KIDS_DUE⟩)
    (v6_KIDS_DUE : seqChk [.str "kind", .str "term"] i6_KIDS_DUE = true)
    (u7_KIDS_DUE : K.lookup b7_KIDS_DUE = some ⟨.type "tuple", d7_KIDS_DUE, .seq i7_KIDS_DUE n7_KIDS_DUE, s7_KIDS_DUE⟩)
    (v7_KIDS_DUE : seqChk [.str "term", .str "term"] i7_KIDS_DUE = true)
    (u8_KIDS_DUE : K.lookup b8_KIDS_DUE = some ⟨.type "tuple", d8_KIDS_DUE, .seq i8_KIDS_DUE n8_KIDS_DUE, s8_KIDS_DUE⟩)
    (v8_KIDS_DUE : seqChk [] i8_KIDS_DUE = true)
    (u9_KIDS_DUE : K.lookup b9_KIDS_DUE = some ⟨.type "tuple", d9_KIDS_DUE, .seq i9_KIDS_DUE n9_KIDS_DUE, s9_KIDS_DUE⟩)
    (v9_KIDS_DUE : seqChk [.str "term"] i9_KIDS_DUE = true)
    (u10_KIDS_DUE : K.lookup b10_KIDS_DUE = some ⟨.type "tuple", d10_KIDS_DUE, .seq i10_KIDS_DUE n10_KIDS_DUE, s10_KIDS_DUE⟩)
    (v10_KIDS_DUE : seqChk [.str "kind", .str "term", .str "term", .str "term"] i10_KIDS_DUE = true)
    (u11_KIDS_DUE : K.lookup b11_KIDS_DUE = some ⟨.type "tuple", d11_KIDS_DUE, .seq i11_KIDS_DUE n11_KIDS_DUE, s11_KIDS_DUE⟩)
    (v11_KIDS_DUE : seqChk [.str "kind", .str "term"] i11_KIDS_DUE = true)
    (u12_KIDS_DUE : K.lookup b12_KIDS_DUE = some ⟨.type "tuple", d12_KIDS_DUE, .seq i12_KIDS_DUE n12_KIDS_DUE, s12_KIDS_DUE⟩)
    (v12_KIDS_DUE : seqChk [.str "kind", .str "term", .str "term"] i12_KIDS_DUE = true)
    (u13_KIDS_DUE : K.lookup b13_KIDS_DUE = some ⟨.type "tuple", d13_KIDS_DUE, .seq i13_KIDS_DUE n13_KIDS_DUE, s13_KIDS_DUE⟩)
    (v13_KIDS_DUE : seqChk [.str "kind", .str "term"] i13_KIDS_DUE = true)
    (u14_KIDS_DUE : K.lookup b14_KIDS_DUE = some ⟨.type "tuple", d14_KIDS_DUE, .seq i14_KIDS_DUE n14_KIDS_DUE, s14_KIDS_DUE⟩)
    (v14_KIDS_DUE : seqChk [.str "kind", .str "term", .str "term"] i14_KIDS_DUE = true)
    (u15_KIDS_DUE : K.lookup b15_KIDS_DUE = some ⟨.type "tuple", d15_KIDS_DUE, .seq i15_KIDS_DUE n15_KIDS_DUE, s15_KIDS_DUE⟩)
    (v15_KIDS_DUE : seqChk [.str "term"] i15_KIDS_DUE = true)
    (u16_KIDS_DUE : K.lookup b16_KIDS_DUE = some ⟨.type "tuple", d16_KIDS_DUE, .seq i16_KIDS_DUE n16_KIDS_DUE, s16_KIDS_DUE⟩)
    (v16_KIDS_DUE : seqChk [.str "term"] i16_KIDS_DUE = true)
    (u17_KIDS_DUE : K.lookup b17_KIDS_DUE = some ⟨.type "tuple", d17_KIDS_DUE, .seq i17_KIDS_DUE n17_KIDS_DUE, s17_KIDS_DUE⟩)
    (v17_KIDS_DUE : seqChk [] i17_KIDS_DUE = true)
    (g_RULES : PySem.W.nsIn K mainGlobals "RULES" = some (some (.ref t_RULES)))
    (lk_RULES : K.lookup t_RULES = some ⟨.type "dict", none, .dict es_RULES ep_RULES, #[]⟩)
    (sy_RULES : (t_RULES == sysModules) = false)
    (ks_RULES : rowsChk es_RULES.toList ["app", "rec", "carry", "first", "second"] = true)
    (rf_RULES : refsOf es_RULES.toList = [b0_RULES, b1_RULES, b2_RULES, b3_RULES, b4_RULES])
    (u0_RULES : K.lookup b0_RULES = some ⟨.type "tuple", d0_RULES, .seq i0_RULES n0_RULES, s0_RULES⟩)
    (v0_RULES : i0_RULES.toList = [Value.ref b0_0_RULES])
    (u0_0_RULES : K.lookup b0_0_RULES = some ⟨.type "tuple", d0_0_RULES, .seq i0_0_RULES n0_0_RULES, s0_0_RULES⟩)
    (v0_0_RULES : seqChk [.int 1, .str "fun", .str "fun"] i0_0_RULES = true)
    (u1_RULES : K.lookup b1_RULES = some ⟨.type "tuple", d1_RULES, .seq i1_RULES n1_RULES, s1_RULES⟩)
    (v1_RULES : i1_RULES.toList = [Value.ref b1_0_RULES, Value.ref b1_1_RULES])
    (u1_0_RULES : K.lookup b1_0_RULES = some ⟨.type "tuple", d1_0_RULES, .seq i1_0_RULES n1_0_RULES, s1_0_RULES⟩)
    (v1_0_RULES : seqChk [.int 4, .str "zero", .str "zero"] i1_0_RULES = true)
    (u1_1_RULES : K.lookup b1_1_RULES = some ⟨.type "tuple", d1_1_RULES, .seq i1_1_RULES n1_1_RULES, s1_1_RULES⟩)
    (v1_1_RULES : seqChk [.int 4, .str "next", .str "next"] i1_1_RULES = true)
    (u2_RULES : K.lookup b2_RULES = some ⟨.type "tuple", d2_RULES, .seq i2_RULES n2_RULES, s2_RULES⟩)
    (v2_RULES : i2_RULES.toList = [Value.ref b2_0_RULES])
    (u2_0_RULES : K.lookup b2_0_RULES = some ⟨.type "tuple", d2_0_RULES, .seq i2_0_RULES n2_0_RULES, s2_0_RULES⟩)
    (v2_0_RULES : seqChk [.int 3, .str "like", .str "like"] i2_0_RULES = true)
    (u3_RULES : K.lookup b3_RULES = some ⟨.type "tuple", d3_RULES, .seq i3_RULES n3_RULES, s3_RULES⟩)
    (v3_RULES : i3_RULES.toList = [Value.ref b3_0_RULES])
    (u3_0_RULES : K.lookup b3_0_RULES = some ⟨.type "tuple", d3_0_RULES, .seq i3_0_RULES n3_0_RULES, s3_0_RULES⟩)
    (v3_0_RULES : seqChk [.int 1, .str "pair", .str "first"] i3_0_RULES = true)
    (u4_RULES : K.lookup b4_RULES = some ⟨.type "tuple", d4_RULES, .seq i4_RULES n4_RULES, s4_RULES⟩)
    (v4_RULES : i4_RULES.toList = [Value.ref b4_0_RULES])
    (u4_0_RULES : K.lookup b4_0_RULES = some ⟨.type "tuple", d4_0_RULES, .seq i4_0_RULES n4_0_RULES, s4_0_RULES⟩)
    (v4_0_RULES : seqChk [.int 1, .str "pair", .str "second"] i4_0_RULES = true) : ∃ t, Txt K mg t :=
  ⟨⟨(), t_KIND_WORDS, t_KIDS_DUE, t_RULES⟩, ⟨⟨PySem.W.mg_none_of X G z_all, PySem.W.mg_none_of X G z_bool, PySem.W.mg_none_of X G z_dict, PySem.W.mg_none_of X G z_enumerate, PySem.W.mg_none_of X G z_int, PySem.W.mg_none_of X G z_isinstance, PySem.W.mg_none_of X G z_len, PySem.W.mg_none_of X G z_list, PySem.W.mg_none_of X G z_max, PySem.W.mg_none_of X G z_min, PySem.W.mg_none_of X G z_range, PySem.W.mg_none_of X G z_str, PySem.W.mg_none_of X G z_tuple, PySem.W.mg_none_of X G z_zip, ⟨_, PySem.W.mg_of X G g_MOST_KNOTS⟩, ⟨_, PySem.W.mg_of X G g_MOST_DEEP⟩, ⟨_, PySem.W.mg_of X G g_MOST_VARIABLE⟩, ⟨_, PySem.W.mg_of X G g_MOST_LETTERS⟩, ⟨_, PySem.W.mg_of X G g_LETTERS⟩, PySem.W.mg_of X G g_KIND_WORDS, PySem.W.mg_of X G g_KIDS_DUE, PySem.W.mg_of X G g_RULES⟩, a0.df X G fun _ _ _ _ _ _ => by1 (fun _ => rfl), a1.df X G fun _ _ _ _ _ _ => by1 (fun _ => rfl), a2.df X G fun _ _ _ _ _ _ => by2 (fun _ _ => rfl), a3.df X G fun _ _ _ _ _ _ => by2 (fun _ _ => rfl), a4.df X G fun _ _ _ _ _ _ => by1 (fun _ => rfl), a5.df X G fun _ _ _ _ _ _ => by2 (fun _ _ => rfl), a6.df X G fun _ _ _ _ _ _ => by1 (fun _ => rfl), a7.df X G fun _ _ _ _ _ _ => by1 (fun _ => rfl), a8.df X G fun _ _ _ _ _ _ => by2 (fun _ _ => rfl), a9.df X G fun _ _ _ _ _ _ => by2 (fun _ _ => rfl), a10.df X G fun _ _ _ _ _ _ => by3 (fun _ _ _ => rfl), a11.df X G fun _ _ _ _ _ _ => by1 (fun _ => rfl), a12.df X G fun _ _ _ _ _ _ => by2 (fun _ _ => rfl), a13.df X G fun _ _ _ _ _ _ => by4 (fun _ _ _ _ => rfl), a14.df X G fun _ _ _ _ _ _ => by5 (fun _ _ _ _ _ => rfl), a15.df X G fun _ _ _ _ _ _ => by5 (fun _ _ _ _ _ => rfl), a16.df X G fun _ _ _ _ _ _ => by5 (fun _ _ _ _ _ => rfl), a17.df X G fun _ _ _ _ _ _ => by5 (fun _ _ _ _ _ => rfl), a18.df X G fun _ _ _ _ _ _ => by5 (fun _ _ _ _ _ => rfl), a19.df X G fun _ _ _ _ _ _ => by6 (fun _ _ _ _ _ _ => rfl), a20.df X G fun _ _ _ _ _ _ => by6 (fun _ _ _ _ _ _ => rfl), a21.df X G fun _ _ _ _ _ _ => by5 (fun _ _ _ _ _ => rfl), a22.df X G fun _ _ _ _ _ _ => by1 (fun _ => rfl), a23.df X G fun _ _ _ _ _ _ => by1 (fun _ => rfl), a24.df X G fun _ _ _ _ _ _ => by1 (fun _ => rfl), a25.df X G fun _ _ _ _ _ _ => by5 (fun _ _ _ _ _ => rfl), a26.df X G fun _ _ _ _ _ _ => by3 (fun _ _ _ => rfl), a27.df X G fun _ _ _ _ _ _ => by2 (fun _ _ => rfl), a28.df X G fun _ _ _ _ _ _ => by2 (fun _ _ => rfl), a29.df X G fun _ _ _ _ _ _ => by1 (fun _ => rfl), a30.df X G fun _ _ _ _ _ _ => by3 (fun _ _ _ => rfl), a31.df X G fun _ _ _ _ _ _ => by3 (fun _ _ _ => rfl), a32.df X G fun _ _ _ _ _ _ => by2 (fun _ _ => rfl), a33.df X G fun _ _ _ _ _ _ => by2 (fun _ _ => rfl), a34.df X G fun _ _ _ _ _ _ => by1 (fun _ => rfl), sqk_mk lk_KIND_WORDS vs_KIND_WORDS, ⟨_, kd_mk sy_KIDS_DUE lk_KIDS_DUE ks_KIDS_DUE rf_KIDS_DUE rfl (sq_cons (sqk_mk u0_KIDS_DUE v0_KIDS_DUE) (sq_cons (sqk_mk u1_KIDS_DUE v1_KIDS_DUE) (sq_cons (sqk_mk u2_KIDS_DUE v2_KIDS_DUE) (sq_cons (sqk_mk u3_KIDS_DUE v3_KIDS_DUE) (sq_cons (sqk_mk u4_KIDS_DUE v4_KIDS_DUE) (sq_cons (sqk_mk u5_KIDS_DUE v5_KIDS_DUE) (sq_cons (sqk_mk u6_KIDS_DUE v6_KIDS_DUE) (sq_cons (sqk_mk u7_KIDS_DUE v7_KIDS_DUE) (sq_cons (sqk_mk u8_KIDS_DUE v8_KIDS_DUE) (sq_cons (sqk_mk u9_KIDS_DUE v9_KIDS_DUE) (sq_cons (sqk_mk u10_KIDS_DUE v10_KIDS_DUE) (sq_cons (sqk_mk u11_KIDS_DUE v11_KIDS_DUE) (sq_cons (sqk_mk u12_KIDS_DUE v12_KIDS_DUE) (sq_cons (sqk_mk u13_KIDS_DUE v13_KIDS_DUE) (sq_cons (sqk_mk u14_KIDS_DUE v14_KIDS_DUE) (sq_cons (sqk_mk u15_KIDS_DUE v15_KIDS_DUE) (sq_cons (sqk_mk u16_KIDS_DUE v16_KIDS_DUE) (sq_cons (sqk_mk u17_KIDS_DUE v17_KIDS_DUE) sq_nil))))))))))))))))))⟩, ⟨b0_RULES, b1_RULES, b2_RULES, b3_RULES, b4_RULES, b0_0_RULES, b1_0_RULES, b1_1_RULES, b2_0_RULES, b3_0_RULES, b4_0_RULES, tabr_mk ["app", "rec", "carry", "first", "second"] [b0_RULES, b1_RULES, b2_RULES, b3_RULES, b4_RULES] sy_RULES lk_RULES ks_RULES rf_RULES, sqr_mk [b0_0_RULES] u0_RULES v0_RULES (by simp), sqk_mk u0_0_RULES v0_0_RULES, sqr_mk [b1_0_RULES, b1_1_RULES] u1_RULES v1_RULES (by simp), sqk_mk u1_0_RULES v1_0_RULES, sqk_mk u1_1_RULES v1_1_RULES, sqr_mk [b2_0_RULES] u2_RULES v2_RULES (by simp), sqk_mk u2_0_RULES v2_0_RULES, sqr_mk [b3_0_RULES] u3_RULES v3_RULES (by simp), sqk_mk u3_0_RULES v3_0_RULES, sqr_mk [b4_0_RULES] u4_RULES v4_RULES (by simp), sqk_mk u4_0_RULES v4_0_RULES⟩⟩⟩
theorem fin {l : PySem.W.OpenLaw} {w : World} {K : PySem.W.Frag} {mg : Str → Option Value} {t : Adr} {fa : Addr} (T : Txt K mg t) (hfa : mg "law" = some (.ref fa)) :
    ∃ fd : FuncData, (∀ (s : Shared) (v : Value), BindsTo s fd ⟨[v], []⟩ [("_law_script", v)]) ∧ ∀ base : Heap, K.In base → base.Ns mainGlobals mg → FnOk l.prog w K mg base CX0 175 fa fd ["_law_script"] (spLaw K) := by
  obtain ⟨f, fd, F, m, b⟩ := T.D_law
  have e := hfa.symm.trans m
  cases e
  refine ⟨fd, ?_, fun base _ _ => ?_⟩
  · obtain ⟨oc, od, kV, doc, pm, an, cdv, ct, osl, rfl, lk, hcd⟩ := F.ex
    exact fun s v => .of_eq rfl
  have c1 := c_law_draw (P := l.prog) (w := w) T.D_law_draw T.M
  have c2 := c_law_named (P := l.prog) (w := w) T.D_law_named T.M
  have c3 := c_law_pool T.D_law_pool T.M c1 c2
  have c4 := c_law_leaf T.D_law_leaf T.M c1
  obtain ⟨ck, ct⟩ := c_gen T.D_law_kind T.D_law_term T.D_law_fun T.D_law_pair T.D_law_like T.D_law_number T.D_law_parted T.D_law_still T.M c1 c4 7
  have k1 := c_law_kids (P := l.prog) (w := w) T.D_law_kids T.M
  have k2 := c_law_measured T.D_law_measured T.M k1 20
  have k3 := c_law_great T.D_law_great T.M k2
  have k4 := c_law_thing T.D_law_thing T.M c1 ck ct k3
  have k5 := c_law_book T.D_law_book T.M c1 ck ct
  have k6 := c_law_rule (P := l.prog) (w := w) T.D_law_rule T.M
  have k7 := c_law_rows T.D_law_rows T.M k6 k1
  have m2 := c_law_measured T.D_law_measured T.M k1 41
  have m3 := c_law_great T.D_law_great T.M m2
  have u1 := c_law_wrapped T.D_law_wrapped T.M c1
  have u2 := c_law_under T.D_law_under T.M c1 u1 m2 m3
  have z1 := c_law_sized (P := l.prog) (w := w) T.D_law_sized T.M 9
  have p1 := c_rule_of (P := l.prog) (w := w) T.D_rule_of T.M T.T_RULES
  have p2 := c_kids_of (P := l.prog) (w := w) T.D_kids_of T.M
  have p3 := c_steps_of T.D_steps_of T.M p1 p2 61
  have d1 := c_law_due T.D_law_due T.M k7
  have d2 := c_law_pairs (P := l.prog) (w := w) T.D_law_pairs T.M
  have i1 := c_is_number (P := l.prog) (w := w) T.D_is_number T.M
  obtain ⟨as, TK⟩ := T.T_KIDS_DUE
  have i2 := c_is_name (P := l.prog) (w := w) T.D_is_name T.M TK
  have i3 := c_begins_due (P := l.prog) (w := w) T.D_begins_due T.M TK T.T_KIND_WORDS
  have i4 := c_is_shaped T.D_is_shaped T.M TK i3 i1 i2 60
  have i5 := c_is_vast (P := l.prog) (w := w) T.D_is_vast T.M
  have i6 := c_is_thing T.D_is_thing T.M i5 i4
  have i7 := c_is_term T.D_is_term i6
  exact c_law F T.M c1 c3 k5 k4 u2 m2 z1 i7 p3 d2 d1
theorem walk {l : PySem.W.OpenLaw} {q : Program} {loose : List Str} {XP : (Str → Option Value) → Heap → Prop} {YP : World → Heap → Prop} {d : DefRec} {K : Params → PySem.W.Frag} (hn : l.most = some 63) (hdf : d.params.defaults = [])
    (hY : ∀ (w : World) (h : Heap), YP w h → (K w.params).In h)
    (F : ∀ (w : World) (mg : Str → Option Value) (fa : Addr) (h : Heap), (K w.params).In h → h.Ns mainGlobals mg → mg d.name = some (.ref fa) →
      ∃ fd : FuncData, (∀ (s : Shared) (u : Value), BindsTo s fd ⟨[u], []⟩ [("_law_script", u)]) ∧ ∀ base : Heap, (K w.params).In base → base.Ns mainGlobals mg → FnOk l.prog w (K w.params) mg base CX0 175 fa fd ["_law_script"] (spLaw (K w.params))) :
    PySem.W.WalkO q loose XP YP l.row.toRowW d [] (fun f vs => PySem.call f vs) :=
  L2.walk_of (n := 63) (k := 175) (x := "_law_script") (CX := fun _ => CX0) (sp := fun w => spLaw (K w.params)) hn (by decide) hdf ⟨by decide, by decide, fun _ => rfl⟩ hY F (fun _ _ a ns hl _ hS => ⟨a, ns, rfl, hS, hl, fun _ => rfl⟩) fun _ _ _ _ _ z => z
end K22
end
section
namespace HD
open PySem PySem.W PySem.Calls PyProof.Rows
def halves {α : Type} : List α → List α × List α
  | [] => ([], [])
  | x :: r => (x :: (halves r).2, (halves r).1)
def mkTF : Nat → List Obj → BT
  | 0, _ => .nil
  | _ + 1, [] => .nil
  | n + 1, x :: r => .node x (mkTF n (halves r).1) (mkTF n (halves r).2)
def mkT (l : List Obj) : BT := mkTF 14 l
def i (n : Nat) : Value := .int (.ofNat n) 0
def view (p : Program) (l : List Stmt) : Program := { p with main := { p.main with body := l } }
abbrev Two (β : Type) : Type := World → (OsState → β) × (OsState → β)
def Ok {β : Type} (q : Two β) : Prop := ∀ w, (q w).1 = (q w).2
theorem by1 {β : Type} {q q' : Two β} (e : q = q') (h : ∀ w, (q' w).1 = (q' w).2) : Ok q := by
  subst e
  exact h
theorem by2 {β : Type} {q qf qt : Two β} (r : String) (ef : (fun w => q (w.withFollow r false)) = qf) (et : (fun w => q (w.withFollow r true)) = qt) (hf : ∀ w, (qf w).1 = (qf w).2) (ht : ∀ w, (qt w).1 = (qt w).2) : Ok q := by
  subst ef et
  exact fun w => byRow2 r (P := fun w => (q w).1 = (q w).2) hf ht w
section
variable (p : Program) (m : Nat) (ann : Option Value)
def pre (n : Nat) (S S' : World → OsState → Shared) (t t' : Thread) : Two (Option (Shared × Thread)) := fun w => (fun os => topGo treeTable p w m ann n (S w os) t, fun os => some (S' w os, t'))
def blk (n : Nat) (S : World → OsState → Shared) (S' : World → OsState → SharedT) (b : List Stmt) (env : Env) (c : Code) (p1 p2 : Pos) (B : List Frame) : Two (Option (Flow × Shared × Code × Pos)) :=
  fun w => (fun os => segRun treeTable p w m ann 1 n (S w os) (blockOf b env c p1 B), fun os => some (Flow.next, (S' w os).abs, c, p2))
def seg (n : Nat) (S S' : World → OsState → SharedT) (l : List Stmt) (env : Env) (c : Code) (p1 p2 : Pos) (B : List Frame) : Two (Option (Flow × SharedT × Code × Pos)) :=
  fun w => (fun os => segRunT treeTable p w m ann 1 n (S w os) (piecesOf l env c p1 B), fun os => some (Flow.next, S' w os, c, p2))
def fin (n : Nat) (S : World → OsState → SharedT) (S' : World → OsState → Shared) (t : Thread) : Two (Option Shared) := fun w => (fun os => topRun treeTable p w m ann n (S w os).abs t, fun os => some (S' w os))
variable {p : Program} {m : Nat} {ann : Option Value}
def Goes (p : Program) (m : Nat) (ann : Option Value) (R : World → OsState → Shared) (n : Nat) (S : World → OsState → Shared) (t : Thread) : Prop := ∀ w os, topRun treeTable p w m ann n (S w os) t = some (R w os)
def absS (S : World → OsState → SharedT) : World → OsState → Shared := fun w os => (S w os).abs
theorem g_fin {n : Nat} {S : World → OsState → SharedT} {R : World → OsState → Shared} {env : Env} {c : Code} {pos q : Pos} (h : Ok (fin p m ann n S R ⟨doneF .next, c, pos, [topFrame q]⟩)) :
    Goes p m ann R n (absS S) (restOf [] env c pos [topFrame q]) := fun w os => piece_nil (congrFun (h w) os)
theorem g_seg {n N : Nat} {S S' : World → OsState → SharedT} {R : World → OsState → Shared} {l rest : List Stmt} {env : Env} {c : Code} {p1 p2 q : Pos} (h : Ok (seg p m ann n S S' l env c p1 p2 [topFrame q]))
    (k : Goes p m ann R N (absS S') (restOf rest env c p2 [topFrame q])) : Goes p m ann R (n + N) (absS S) (restOf (l ++ rest) env c p1 [topFrame q]) := fun w os => piece_app (segRun_of (congrFun (h w) os)) (k w os)
theorem g_blk {n N : Nat} {S : World → OsState → Shared} {S' : World → OsState → SharedT} {R : World → OsState → Shared} {b b' : List Stmt} {env : Env} {p1 p2 q : Pos} (e : b = b') (h : Ok (blk p m ann n S S' b env (.body b env) p1 p2 [topFrame q]))
    (k : Goes p m ann R N (absS S') (restOf b' env (.body b env) p2 [topFrame q])) : Goes p m ann R (n + N) S ⟨denote treeTable (.body b env), .body b env, p1, [topFrame q]⟩ := fun w os => by
  subst e
  exact piece_block (congrFun (h w) os) (k w os)
theorem g_pre {n N : Nat} {S S' R : World → OsState → Shared} {t t' : Thread} (h : Ok (pre p m ann n S S' t t')) (k : Goes p m ann R N S' t') : Goes p m ann R (n + N) S t := fun w os => go_top (congrFun (h w) os) (k w os)
end
def sz (m : Nat) (ann : Option Value) : Two (Bool × Nat × Option Value) := fun w => (fun _ => ((boot_heap w.params).isNs mainGlobals && (Array.mk [] : Array GenState).size == 0, (boot_heap w.params).objs.size, (boot_heap w.params).nsMap mainGlobals "__annotations__"), fun _ => (true, m, ann))
def mkS (H : Params → Heap) (d : Drawn) (k : Nat) : World → OsState → Shared := fun w os => ⟨H w.params, Array.mk [], d, k, os⟩
def la (p : Program) (H₁ : Params → Heap) (d : Drawn) (k : Nat) : Two Bool := fun w => (fun os => (staticsOk (importedModules p.main.body) (boot_heap w.params) (H₁ w.params) && namesBound p (H₁ w.params) && gensDone ⟨H₁ w.params, Array.mk [], d, k, os⟩ && laidKept (boot_heap w.params) (H₁ w.params)), fun _ => true)
def lb (p q : Program) (loose : List Str) (Xt : Shared → Bool) (H₁ : Params → Heap) (d : Drawn) (k : Nat) := fun (w : World) => ((fun (os : OsState) => openSeen q loose (importedModules p.main.body) Xt true ⟨H₁ w.params, Array.mk [], d, k, os⟩), (fun (_ : OsState) => openGood q loose))
def lc (H : Hook) (H₁ : Params → Heap) (d : Drawn) (k : Nat) : Two H.α := fun w => (fun os => H.obs ⟨H₁ w.params, Array.mk [], d, k, os⟩, fun _ => H.val w)
theorem left {p q : Program} {loose : List Str} {Xt : Shared → Bool} {H : Hook} {N m M : Nat} {ann : Option Value} {H₁ : Params → Heap} {d : Drawn} {k : Nat} (e : opening p = plainProg p.main.scope.names) (hN : Nat.ble 600 N = true) (f : ∀ s, fenceModules? p s = some s)
    (size : Ok (sz m ann)) (run : Goes p m ann (mkS H₁ d k) M (mkS boot_heap boot_drawn boot_toks) (topStub p)) (le : Nat.ble M N = true) (ha : Ok (la p H₁ d k)) (hb : Ok (lb p q loose Xt H₁ d k)) (hc : Ok (lc H H₁ d k)) : LeftO p q loose Xt H.obs H.val N :=
  LeftO.of_pieces (H₀ := boot_heap) (H₁ := H₁) (boot_open e hN f) (fun w => congrFun (size w) default) run le
    fun w => funext fun os => looks_pair (congrFun (ha w) os) (looks_pair (congrFun (hb w) os) (congrFun (hc w) os))
end HD
end
section
namespace K22
open PySem PySem.W PySem.Calls PyProof.Rows
abbrev pw : Program := PySem.Challenge.pw_keeper_k22_steps_told
def ht (i : Nat) : Stmt := pw.main.body.getD i (.Pass ⟨0, 0, 0, 0⟩)
def x0 : Str := .ofString "__name__"
def x1 : Str := .ofString "builtins"
def x2 : Str := .ofString "__doc__"
def x3 : Str := .ofString "__package__"
def x4 : Str := .ofString "__loader__"
def x5 : Str := .ofString "__spec__"
def x7 : Str := .ofString "__import__"
def x9 : Str := .ofString "all"
def x11 : Str := .ofString "ascii"
def x12 : Str := .ofString "bin"
def x14 : Str := .ofString "callable"
def x34 : Str := .ofString "len"
def x38 : Str := .ofString "next"
def x79 : Str := .ofString "type"
def x160 : Str := .ofString "__main__"
def x161 : Str := .ofString "__annotations__"
def x162 : Str := .ofString "__builtins__"
def x163 : Str := .ofString "__file__"
def x164 : Str := .ofString "/claim/cut.py"
def x165 : Str := .ofString "__cached__"
def x166 : Str := .ofString "<module>"
def x167 : Str := .ofString "keeper.things"
def x168 : Str := .ofString "MOST_KNOTS"
def x169 : Str := .ofString "MOST_DEEP"
def x170 : Str := .ofString "MOST_VARIABLE"
def x171 : Str := .ofString "MOST_LETTERS"
def x172 : Str := .ofString "LETTERS"
def x173 : Str := .ofString "abcdefghijklmnopqrstuvwxyz"
def x174 : Str := .ofString "KIND_WORDS"
def x175 : Str := .ofString "nat"
def x176 : Str := .ofString "none"
def x177 : Str := .ofString "some"
def x178 : Str := .ofString "same"
def x179 : Str := .ofString "KIDS_DUE"
def x180 : Str := .ofString "var"
def x181 : Str := .ofString "fun"
def x182 : Str := .ofString "app"
def x183 : Str := .ofString "zero"
def x184 : Str := .ofString "rec"
def x185 : Str := .ofString "like"
def x186 : Str := .ofString "carry"
def x187 : Str := .ofString "never"
def x188 : Str := .ofString "pair"
def x189 : Str := .ofString "first"
def x190 : Str := .ofString "second"
def x191 : Str := .ofString "name"
def x192 : Str := .ofString "kind"
def x193 : Str := .ofString "term"
def x194 : Str := .ofString "is_number"
def x195 : Str := .ofString "value"
def x196 : Str := .ofString "is_name"
def x197 : Str := .ofString "begins_due"
def x198 : Str := .ofString "due"
def x199 : Str := .ofString "is_shaped"
def x200 : Str := .ofString "is_vast"
def x201 : Str := .ofString "is_thing"
def x202 : Str := .ofString "is_term"
def x203 : Str := .ofString "thing"
def x204 : Str := .ofString "kids_of"
def x205 : Str := .ofString "keeper.steps"
def x206 : Str := .ofString "RULES"
def x207 : Str := .ofString "rule_of"
def x208 : Str := .ofString "book"
def x209 : Str := .ofString "part"
def x210 : Str := .ofString "word"
def x211 : Str := .ofString "rule"
def x212 : Str := .ofString "steps_of"
def x213 : Str := .ofString "law_keeper_k22_steps_told"
def x214 : Str := .ofString "_law_draw"
def x215 : Str := .ofString "_law_script"
def x216 : Str := .ofString "_law_tape"
def x217 : Str := .ofString "_law_many"
def x218 : Str := .ofString "_law_seed"
def x219 : Str := .ofString "_law_cell"
def x220 : Str := .ofString "_law_named"
def x221 : Str := .ofString "_law_word"
def x222 : Str := .ofString "_law_pool"
def x223 : Str := .ofString "_law_leaf"
def x224 : Str := .ofString "_law_near"
def x225 : Str := .ofString "_law_pool_here"
def x226 : Str := .ofString "_law_way"
def x227 : Str := .ofString "_law_kind"
def x228 : Str := .ofString "_law_deep"
def x229 : Str := .ofString "_law_first"
def x230 : Str := .ofString "_law_kind_here"
def x231 : Str := .ofString "_law_fun"
def x232 : Str := .ofString "_law_pair"
def x233 : Str := .ofString "_law_like"
def x234 : Str := .ofString "_law_number"
def x235 : Str := .ofString "_law_parted"
def x236 : Str := .ofString "_law_second"
def x237 : Str := .ofString "_law_still"
def x238 : Str := .ofString "_law_one"
def x239 : Str := .ofString "_law_two"
def x240 : Str := .ofString "_law_three"
def x241 : Str := .ofString "_law_term"
def x242 : Str := .ofString "_law_kids"
def x243 : Str := .ofString "_law_thing_here"
def x244 : Str := .ofString "_law_measured"
def x245 : Str := .ofString "_law_knots"
def x246 : Str := .ofString "_law_most"
def x247 : Str := .ofString "_law_kid"
def x248 : Str := .ofString "_law_told"
def x249 : Str := .ofString "_law_great"
def x250 : Str := .ofString "_law_thing"
def x251 : Str := .ofString "_law_made"
def x252 : Str := .ofString "_law_book"
def x253 : Str := .ofString "_law_book_here"
def x254 : Str := .ofString "_law_k"
def x255 : Str := .ofString "_law_rule"
def x256 : Str := .ofString "_law_heads"
def x257 : Str := .ofString "_law_rows"
def x258 : Str := .ofString "_law_found"
def x259 : Str := .ofString "_law_waiting"
def x260 : Str := .ofString "_law_place"
def x261 : Str := .ofString "_law_here"
def x262 : Str := .ofString "_law_kids_here"
def x263 : Str := .ofString "_law_step"
def x264 : Str := .ofString "_law_number_here"
def x265 : Str := .ofString "_law_sized"
def x266 : Str := .ofString "_law_wrapped"
def x267 : Str := .ofString "_law_under"
def x268 : Str := .ofString "_law_pairs"
def x269 : Str := .ofString "_law_due_here"
def x270 : Str := .ofString "_law_pair_here"
def x271 : Str := .ofString "_law_due"
def x272 : Str := .ofString "law"
def hE : Env := { scope := pw.main.scope, locals := mainNs, globals := mainNs, cells := [], code := (.ref 13), frame := some (nat_lit 14) }
def hC : Code := .body (behindTheImports pw) hE
def hB : List Frame := [topFrame ⟨0, 0, 0, 0⟩]
abbrev S0 : World → OsState → Shared := HD.mkS boot_heap boot_drawn boot_toks
def o11_a (P : Params) : Obj := ⟨(.type "tuple"), none, (.seq #[] 0), #[]⟩
def o12_a (P : Params) : Obj := ⟨.none, none, (.fields #[]), #[]⟩
def o13_a (P : Params) : Obj := ⟨(.type "code"), none, (.fields #[(.str x166 182), (.str x166 183), (.str x164 184), (HD.i 1), (HD.i 0), (HD.i 0), (HD.i 0), (HD.i 0), (.ref 11), (.bool false), (HD.i 181), (.ref 12), .none, .none, .none, .none, (HD.i 185), (HD.i 1), (.str x164 186)]), #[]⟩
def o14_a (P : Params) : Obj := ⟨(.type "frame"), none, .plain, #[(some (.ref 13)), (some (.ref 3)), (some (.ref 3)), none, (some (.str x160 164)), none, (some (.ref 0))]⟩
def Ha_0 (P : Params) (r : List (Obj)) : List (Obj) := PySem.W.boot_o_0 P :: PySem.W.boot_o_1 P :: PySem.W.boot_o_2 P :: PySem.W.boot_o_3 P :: PySem.W.boot_o_4 P :: PySem.W.boot_o_5 P :: PySem.W.boot_o_6 P :: PySem.W.boot_o_7 P :: PySem.W.boot_o_8 P :: PySem.W.boot_o_9 P :: PySem.W.boot_o_10 P :: o11_a P :: r
def Ha_1 (P : Params) (r : List (Obj)) : List (Obj) := o12_a P :: o13_a P :: o14_a P :: r
def Ha (P : Params) : Heap := ⟨Array.mk (Ha_0 P (Ha_1 P [])), ⟨[], [], [], 0, [], [], false, #[], [], 0, false, false, false, (.ofNat 0), [(.ofNat 2000), (.ofNat 10), (.ofNat 10)], false, 0, true, [], [], 0, false⟩⟩
def da : Drawn := ⟨0, 0, 0, 0⟩
def ka : Nat := nat_lit 187
abbrev Sa : World → OsState → Shared := HD.mkS Ha da ka
def qa (w : World) : (OsState → Option (Shared × Thread)) × (OsState → Option (Shared × Thread)) := (fun os => topGo treeTable pw w (nat_lit 11) (some (.ref 6)) (nat_lit 12) (S0 w os) (topStub pw), fun os => some (Sa w os, Thread.mk (denote treeTable hC) hC ⟨0, 0, 0, 0⟩ hB))
theorem qa_eq : HD.pre pw (nat_lit 11) (some (.ref 6)) (nat_lit 12) S0 Sa (topStub pw) (Thread.mk (denote treeTable hC) hC ⟨0, 0, 0, 0⟩ hB) = qa := by kernel_rfl
name_quick YK22a for qa by qa_eq
theorem ia (w : World) : (Fast.YK22a w).1 = (Fast.YK22a w).2 := by kernel_rfl
theorem ha : HD.Ok (HD.pre pw (nat_lit 11) (some (.ref 6)) (nat_lit 12) S0 Sa (topStub pw) (Thread.mk (denote treeTable hC) hC ⟨0, 0, 0, 0⟩ hB)) := HD.by1 Fast.YK22a_eq ia
def Tb_0 (P : Params) (r : List (Obj)) : List (Obj) := PySem.W.boot_o_0 P :: PySem.W.boot_o_1 P :: PySem.W.boot_o_2 P :: PySem.W.boot_o_3 P :: PySem.W.boot_o_4 P :: PySem.W.boot_o_5 P :: PySem.W.boot_o_6 P :: PySem.W.boot_o_7 P :: PySem.W.boot_o_8 P :: PySem.W.boot_o_9 P :: PySem.W.boot_o_10 P :: o11_a P :: r
def Tb_1 (P : Params) (r : List (Obj)) : List (Obj) := o12_a P :: o13_a P :: o14_a P :: r
def Tb (P : Params) : BT := HD.mkT (Tb_0 P (Tb_1 P []))
def lfb : Life := ⟨[], [], [], 0, [], [], false, #[], [], 0, false, false, false, (.ofNat 0), [(.ofNat 2000), (.ofNat 10), (.ofNat 10)], false, 0, true, [], [], 0, false⟩
abbrev Sb (w : World) (os : OsState) : SharedT := ⟨Tb w.params, nat_lit 15, lfb, Array.mk [], ⟨0, 0, 0, 0⟩, nat_lit 187, os⟩
def qb (w : World) : (OsState → Option (Flow × Shared × Code × Pos)) × (OsState → Option (Flow × Shared × Code × Pos)) := (fun os => segRun treeTable pw w (nat_lit 11) (some (.ref 6)) (nat_lit 1) (nat_lit 1) (Sa w os) (blockOf (behindTheImports pw) hE hC ⟨0, 0, 0, 0⟩ hB), fun os => some (Flow.next, (Sb w os).abs, hC, ⟨0, 0, 0, 0⟩))
theorem qb_eq : HD.blk pw (nat_lit 11) (some (.ref 6)) (nat_lit 1) Sa Sb (behindTheImports pw) hE hC ⟨0, 0, 0, 0⟩ ⟨0, 0, 0, 0⟩ hB = qb := by kernel_rfl
name_quick YK22b for qb by qb_eq
theorem ib (w : World) : (Fast.YK22b w).1 = (Fast.YK22b w).2 := by kernel_rfl
theorem hb : HD.Ok (HD.blk pw (nat_lit 11) (some (.ref 6)) (nat_lit 1) Sa Sb (behindTheImports pw) hE hC ⟨0, 0, 0, 0⟩ ⟨0, 0, 0, 0⟩ hB) := HD.by1 Fast.YK22b_eq ib
def o3_1 (P : Params) : Obj := ⟨(.type "dict"), none, (.dict #[⟨(PyData.keyHash P x0), (.str x0 165), (.str x167 187)⟩, ⟨(PyData.keyHash P x2), (.str x2 166), .none⟩, ⟨(PyData.keyHash P x3), (.str x3 167), .none⟩, ⟨(PyData.keyHash P x4), (.str x4 168), (.builtin "__main__.__loader__#opaque")⟩, ⟨(PyData.keyHash P x5), (.str x5 169), .none⟩, ⟨(PyData.keyHash P x161), (.str x161 170), (.ref 6)⟩, ⟨(PyData.keyHash P x162), (.str x162 171), (.ref 4)⟩, ⟨(PyData.keyHash P x163), (.str x163 173), (.str x164 172)⟩, ⟨(PyData.keyHash P x165), (.str x165 174), .none⟩, ⟨(PyData.keyHash P x168), (.str x168 190), (.int (.ofNat 600) 189)⟩, ⟨(PyData.keyHash P x169), (.str x169 192), (.int (.ofNat 40) 191)⟩, ⟨(PyData.keyHash P x170), (.str x170 194), (.int (.ofNat 99) 193)⟩, ⟨(PyData.keyHash P x171), (.str x171 196), (.int (.ofNat 12) 195)⟩, ⟨(PyData.keyHash P x172), (.str x172 198), (.str x173 197)⟩, ⟨(PyData.keyHash P x174), (.str x174 204), (.ref 15)⟩] 15), #[]⟩
def o15_1 (P : Params) : Obj := ⟨(.type "tuple"), none, (.seq #[(.str x175 199), (.str x176 200), (.str x9 201), (.str x177 202), (.str x178 203)] 0), #[]⟩
def g1 : List Stmt := [ht 0, ht 1, ht 2, ht 3, ht 4, ht 5, ht 6]
def T1 (P : Params) : BT := (((Tb P).ins (nat_lit 3) (o3_1 P)).ins (nat_lit 15) (o15_1 P))
def lf1 : Life := ⟨[], [], [], 0, [], [], false, #[], [], 0, false, false, false, (.ofNat 0), [(.ofNat 2000), (.ofNat 10), (.ofNat 10)], false, 0, true, [], [], 0, false⟩
abbrev S1 (w : World) (os : OsState) : SharedT := ⟨T1 w.params, nat_lit 16, lf1, Array.mk [], ⟨0, 0, 0, 0⟩, nat_lit 205, os⟩
def q1 (w : World) : (OsState → Option (Flow × SharedT × Code × Pos)) × (OsState → Option (Flow × SharedT × Code × Pos)) := (fun os => segRunT treeTable pw w (nat_lit 11) (some (.ref 6)) (nat_lit 1) (nat_lit 70) (Sb w os) (piecesOf g1 hE hC ⟨0, 0, 0, 0⟩ hB), fun os => some (Flow.next, S1 w os, hC, ⟨7, 0, 7, 10⟩))
theorem q1_eq : HD.seg pw (nat_lit 11) (some (.ref 6)) (nat_lit 70) Sb S1 g1 hE hC ⟨0, 0, 0, 0⟩ ⟨7, 0, 7, 10⟩ hB = q1 := by kernel_rfl
name_quick YK221 for q1 by q1_eq
theorem i1 (w : World) : (Fast.YK221 w).1 = (Fast.YK221 w).2 := by kernel_rfl
theorem h1 : HD.Ok (HD.seg pw (nat_lit 11) (some (.ref 6)) (nat_lit 70) Sb S1 g1 hE hC ⟨0, 0, 0, 0⟩ ⟨7, 0, 7, 10⟩ hB) := HD.by1 Fast.YK221_eq i1
def o3_2 (P : Params) : Obj := ⟨(.type "dict"), none, (.dict #[⟨(PyData.keyHash P x0), (.str x0 165), (.str x167 187)⟩, ⟨(PyData.keyHash P x2), (.str x2 166), .none⟩, ⟨(PyData.keyHash P x3), (.str x3 167), .none⟩, ⟨(PyData.keyHash P x4), (.str x4 168), (.builtin "__main__.__loader__#opaque")⟩, ⟨(PyData.keyHash P x5), (.str x5 169), .none⟩, ⟨(PyData.keyHash P x161), (.str x161 170), (.ref 6)⟩, ⟨(PyData.keyHash P x162), (.str x162 171), (.ref 4)⟩, ⟨(PyData.keyHash P x163), (.str x163 173), (.str x164 172)⟩, ⟨(PyData.keyHash P x165), (.str x165 174), .none⟩, ⟨(PyData.keyHash P x168), (.str x168 190), (.int (.ofNat 600) 189)⟩, ⟨(PyData.keyHash P x169), (.str x169 192), (.int (.ofNat 40) 191)⟩, ⟨(PyData.keyHash P x170), (.str x170 194), (.int (.ofNat 99) 193)⟩, ⟨(PyData.keyHash P x171), (.str x171 196), (.int (.ofNat 12) 195)⟩, ⟨(PyData.keyHash P x172), (.str x172 198), (.str x173 197)⟩, ⟨(PyData.keyHash P x174), (.str x174 204), (.ref 15)⟩, ⟨(PyData.keyHash P x179), (.str x179 269), (.ref 16)⟩, ⟨(PyData.keyHash P x194), (.str x194 276), (.ref 42)⟩, ⟨(PyData.keyHash P x196), (.str x196 282), (.ref 47)⟩] 18), #[]⟩
def o12_2 (P : Params) : Obj := ⟨.none, none, (.fields #[(HD.i 9), (HD.i 0), (.ref 41), (HD.i 11), (HD.i 0), (.ref 46)]), #[]⟩
def o16_2 (P : Params) : Obj := ⟨(.type "dict"), none, (.dict #[⟨(PyData.keyHash P x175), (.str x175 205), (.ref 17)⟩, ⟨(PyData.keyHash P x176), (.str x176 207), (.ref 18)⟩, ⟨(PyData.keyHash P x9), (.str x9 209), (.ref 19)⟩, ⟨(PyData.keyHash P x177), (.str x177 213), (.ref 20)⟩, ⟨(PyData.keyHash P x178), (.str x178 217), (.ref 21)⟩, ⟨(PyData.keyHash P x180), (.str x180 222), (.ref 22)⟩, ⟨(PyData.keyHash P x181), (.str x181 224), (.ref 23)⟩, ⟨(PyData.keyHash P x182), (.str x182 228), (.ref 24)⟩, ⟨(PyData.keyHash P x183), (.str x183 232), (.ref 25)⟩, ⟨(PyData.keyHash P x38), (.str x38 234), (.ref 26)⟩, ⟨(PyData.keyHash P x184), (.str x184 237), (.ref 27)⟩, ⟨(PyData.keyHash P x185), (.str x185 243), (.ref 28)⟩, ⟨(PyData.keyHash P x186), (.str x186 247), (.ref 29)⟩, ⟨(PyData.keyHash P x187), (.str x187 252), (.ref 30)⟩, ⟨(PyData.keyHash P x188), (.str x188 256), (.ref 31)⟩, ⟨(PyData.keyHash P x189), (.str x189 261), (.ref 32)⟩, ⟨(PyData.keyHash P x190), (.str x190 264), (.ref 33)⟩, ⟨(PyData.keyHash P x191), (.str x191 267), (.ref 35)⟩] 18), #[]⟩
def o17_2 (P : Params) : Obj := ⟨(.type "tuple"), none, (.seq #[] 0), #[]⟩
def o18_2 (P : Params) : Obj := ⟨(.type "tuple"), none, (.seq #[] 0), #[]⟩
def o19_2 (P : Params) : Obj := ⟨(.type "tuple"), none, (.seq #[(.str x192 210), (.str x192 211)] 0), #[]⟩
def o20_2 (P : Params) : Obj := ⟨(.type "tuple"), none, (.seq #[(.str x192 214), (.str x192 215)] 0), #[]⟩
def o21_2 (P : Params) : Obj := ⟨(.type "tuple"), none, (.seq #[(.str x192 218), (.str x193 219), (.str x193 220)] 0), #[]⟩
def o22_2 (P : Params) : Obj := ⟨(.type "tuple"), none, (.seq #[] 0), #[]⟩
def o23_2 (P : Params) : Obj := ⟨(.type "tuple"), none, (.seq #[(.str x192 225), (.str x193 226)] 0), #[]⟩
def o24_2 (P : Params) : Obj := ⟨(.type "tuple"), none, (.seq #[(.str x193 229), (.str x193 230)] 0), #[]⟩
def o25_2 (P : Params) : Obj := ⟨(.type "tuple"), none, (.seq #[] 0), #[]⟩
def o26_2 (P : Params) : Obj := ⟨(.type "tuple"), none, (.seq #[(.str x193 235)] 0), #[]⟩
def o27_2 (P : Params) : Obj := ⟨(.type "tuple"), none, (.seq #[(.str x192 238), (.str x193 239), (.str x193 240), (.str x193 241)] 0), #[]⟩
def o28_2 (P : Params) : Obj := ⟨(.type "tuple"), none, (.seq #[(.str x192 244), (.str x193 245)] 0), #[]⟩
def o29_2 (P : Params) : Obj := ⟨(.type "tuple"), none, (.seq #[(.str x192 248), (.str x193 249), (.str x193 250)] 0), #[]⟩
def o30_2 (P : Params) : Obj := ⟨(.type "tuple"), none, (.seq #[(.str x192 253), (.str x193 254)] 0), #[]⟩
def o31_2 (P : Params) : Obj := ⟨(.type "tuple"), none, (.seq #[(.str x192 257), (.str x193 258), (.str x193 259)] 0), #[]⟩
def o32_2 (P : Params) : Obj := ⟨(.type "tuple"), none, (.seq #[(.str x193 262)] 0), #[]⟩
def o33_2 (P : Params) : Obj := ⟨(.type "tuple"), none, (.seq #[(.str x193 265)] 0), #[]⟩
def o34_2 (P : Params) : Obj := ⟨(.type "dict"), none, (.dict #[⟨(PyData.keyHash P x191), (.str x191 267), (.ref 35)⟩] 1), #[]⟩
def o35_2 (P : Params) : Obj := ⟨(.type "tuple"), none, (.seq #[] 0), #[]⟩
def o36_2 (P : Params) : Obj := ⟨(.type "tuple"), none, (.seq #[] 0), #[]⟩
def o37_2 (P : Params) : Obj := ⟨.none, none, (.fields #[]), #[]⟩
def o38_2 (P : Params) : Obj := ⟨(.type "tuple"), none, (.seq #[(.str x195 273)] 0), #[]⟩
def o39_2 (P : Params) : Obj := ⟨(.type "tuple"), none, (.seq #[] 0), #[]⟩
def o40_2 (P : Params) : Obj := ⟨.none, none, (.func ⟨x194, x194, L2.defArgs (ht 8), .stmts (L2.defBody (ht 8)), L2.defScope (ht 8), 0, [], .none, .none, .none, .none, none, .none, .none, 0⟩), #[]⟩
def o41_2 (P : Params) : Obj := ⟨(.type "code"), none, (.fields #[(.str x194 270), (.str x194 271), (.str x164 272), (HD.i 9), (HD.i 1), (HD.i 0), (HD.i 0), (HD.i 3), (.ref 36), (.bool true), (HD.i 181), (.ref 37), .none, (.ref 38), (.ref 39), (.ref 40), (HD.i 274), (HD.i 9), (.str x164 275)]), #[]⟩
def o42_2 (P : Params) : Obj := ⟨(.type "function"), none, (.func ⟨x194, x194, L2.defArgs (ht 8), .stmts (L2.defBody (ht 8)), L2.defScope (ht 8), 3, [], .none, .none, .none, (.str x167 187), none, (.ref 41), .none, 0⟩), #[]⟩
def o43_2 (P : Params) : Obj := ⟨(.type "tuple"), none, (.seq #[] 0), #[]⟩
def o44_2 (P : Params) : Obj := ⟨.none, none, (.fields #[]), #[]⟩
def o45_2 (P : Params) : Obj := ⟨.none, none, (.func ⟨x196, x196, L2.defArgs (ht 9), .stmts (L2.defBody (ht 9)), L2.defScope (ht 9), 0, [], .none, .none, .none, .none, none, .none, .none, 0⟩), #[]⟩
def o46_2 (P : Params) : Obj := ⟨(.type "code"), none, (.fields #[(.str x196 277), (.str x196 278), (.str x164 279), (HD.i 11), (HD.i 1), (HD.i 0), (HD.i 0), (HD.i 3), (.ref 43), (.bool true), (HD.i 181), (.ref 44), .none, .none, .none, (.ref 45), (HD.i 280), (HD.i 11), (.str x164 281)]), #[]⟩
def o47_2 (P : Params) : Obj := ⟨(.type "function"), none, (.func ⟨x196, x196, L2.defArgs (ht 9), .stmts (L2.defBody (ht 9)), L2.defScope (ht 9), 3, [], .none, .none, .none, (.str x167 187), none, (.ref 46), .none, 0⟩), #[]⟩
def g2 : List Stmt := [ht 7, ht 8, ht 9]
def T2 (P : Params) : BT := (((((((((((((((((((((((((((((((((((T1 P).ins (nat_lit 3) (o3_2 P)).ins (nat_lit 12) (o12_2 P)).ins (nat_lit 16) (o16_2 P)).ins (nat_lit 17) (o17_2 P)).ins (nat_lit 18) (o18_2 P)).ins (nat_lit 19) (o19_2 P)).ins (nat_lit 20) (o20_2 P)).ins (nat_lit 21) (o21_2 P)).ins (nat_lit 22) (o22_2 P)).ins (nat_lit 23) (o23_2 P)).ins (nat_lit 24) (o24_2 P)).ins (nat_lit 25) (o25_2 P)).ins (nat_lit 26) (o26_2 P)).ins (nat_lit 27) (o27_2 P)).ins (nat_lit 28) (o28_2 P)).ins (nat_lit 29) (o29_2 P)).ins (nat_lit 30) (o30_2 P)).ins (nat_lit 31) (o31_2 P)).ins (nat_lit 32) (o32_2 P)).ins (nat_lit 33) (o33_2 P)).ins (nat_lit 34) (o34_2 P)).ins (nat_lit 35) (o35_2 P)).ins (nat_lit 36) (o36_2 P)).ins (nat_lit 37) (o37_2 P)).ins (nat_lit 38) (o38_2 P)).ins (nat_lit 39) (o39_2 P)).ins (nat_lit 40) (o40_2 P)).ins (nat_lit 41) (o41_2 P)).ins (nat_lit 42) (o42_2 P)).ins (nat_lit 43) (o43_2 P)).ins (nat_lit 44) (o44_2 P)).ins (nat_lit 45) (o45_2 P)).ins (nat_lit 46) (o46_2 P)).ins (nat_lit 47) (o47_2 P))
def lf2 : Life := ⟨[], [], [], 0, [], [], false, #[], [], 0, false, false, false, (.ofNat 0), [(.ofNat 2000), (.ofNat 10), (.ofNat 10)], false, 0, true, [], [], 0, false⟩
abbrev S2 (w : World) (os : OsState) : SharedT := ⟨T2 w.params, nat_lit 48, lf2, Array.mk [], ⟨0, 0, 0, 0⟩, nat_lit 283, os⟩
def q2f (w : World) : (OsState → Option (Flow × SharedT × Code × Pos)) × (OsState → Option (Flow × SharedT × Code × Pos)) := (fun os => segRunT treeTable pw (w.withFollow "special-get-raises" false) (nat_lit 11) (some (.ref 6)) (nat_lit 1) (nat_lit 395) (S1 (w.withFollow "special-get-raises" false) os) (piecesOf g2 hE hC ⟨7, 0, 7, 10⟩ hB), fun os => some (Flow.next, S2 (w.withFollow "special-get-raises" false) os, hC, ⟨11, 0, 14, 77⟩))
theorem q2f_eq : (fun w : World => HD.seg pw (nat_lit 11) (some (.ref 6)) (nat_lit 395) S1 S2 g2 hE hC ⟨7, 0, 7, 10⟩ ⟨11, 0, 14, 77⟩ hB (w.withFollow "special-get-raises" false)) = q2f := by kernel_rfl
name_quick YK222f for q2f by q2f_eq
theorem i2f (w : World) : (Fast.YK222f w).1 = (Fast.YK222f w).2 := by kernel_rfl
def q2t (w : World) : (OsState → Option (Flow × SharedT × Code × Pos)) × (OsState → Option (Flow × SharedT × Code × Pos)) := (fun os => segRunT treeTable pw (w.withFollow "special-get-raises" true) (nat_lit 11) (some (.ref 6)) (nat_lit 1) (nat_lit 395) (S1 (w.withFollow "special-get-raises" true) os) (piecesOf g2 hE hC ⟨7, 0, 7, 10⟩ hB), fun os => some (Flow.next, S2 (w.withFollow "special-get-raises" true) os, hC, ⟨11, 0, 14, 77⟩))
theorem q2t_eq : (fun w : World => HD.seg pw (nat_lit 11) (some (.ref 6)) (nat_lit 395) S1 S2 g2 hE hC ⟨7, 0, 7, 10⟩ ⟨11, 0, 14, 77⟩ hB (w.withFollow "special-get-raises" true)) = q2t := by kernel_rfl
name_quick YK222t for q2t by q2t_eq
theorem i2t (w : World) : (Fast.YK222t w).1 = (Fast.YK222t w).2 := by kernel_rfl
theorem h2 : HD.Ok (HD.seg pw (nat_lit 11) (some (.ref 6)) (nat_lit 395) S1 S2 g2 hE hC ⟨7, 0, 7, 10⟩ ⟨11, 0, 14, 77⟩ hB) := HD.by2 "special-get-raises" Fast.YK222f_eq Fast.YK222t_eq i2f i2t
def o3_3 (P : Params) : Obj := ⟨(.type "dict"), none, (.dict #[⟨(PyData.keyHash P x0), (.str x0 165), (.str x213 373)⟩, ⟨(PyData.keyHash P x2), (.str x2 166), .none⟩, ⟨(PyData.keyHash P x3), (.str x3 167), .none⟩, ⟨(PyData.keyHash P x4), (.str x4 168), (.builtin "__main__.__loader__#opaque")⟩, ⟨(PyData.keyHash P x5), (.str x5 169), .none⟩, ⟨(PyData.keyHash P x161), (.str x161 170), (.ref 6)⟩, ⟨(PyData.keyHash P x162), (.str x162 171), (.ref 4)⟩, ⟨(PyData.keyHash P x163), (.str x163 173), (.str x164 172)⟩, ⟨(PyData.keyHash P x165), (.str x165 174), .none⟩, ⟨(PyData.keyHash P x168), (.str x168 190), (.int (.ofNat 600) 189)⟩, ⟨(PyData.keyHash P x169), (.str x169 192), (.int (.ofNat 40) 191)⟩, ⟨(PyData.keyHash P x170), (.str x170 194), (.int (.ofNat 99) 193)⟩, ⟨(PyData.keyHash P x171), (.str x171 196), (.int (.ofNat 12) 195)⟩, ⟨(PyData.keyHash P x172), (.str x172 198), (.str x173 197)⟩, ⟨(PyData.keyHash P x174), (.str x174 204), (.ref 15)⟩, ⟨(PyData.keyHash P x179), (.str x179 269), (.ref 16)⟩, ⟨(PyData.keyHash P x194), (.str x194 276), (.ref 42)⟩, ⟨(PyData.keyHash P x196), (.str x196 282), (.ref 47)⟩, ⟨(PyData.keyHash P x197), (.str x197 290), (.ref 54)⟩, ⟨(PyData.keyHash P x199), (.str x199 296), (.ref 59)⟩, ⟨(PyData.keyHash P x200), (.str x200 302), (.ref 64)⟩, ⟨(PyData.keyHash P x201), (.str x201 310), (.ref 71)⟩, ⟨(PyData.keyHash P x202), (.str x202 317), (.ref 78)⟩, ⟨(PyData.keyHash P x204), (.str x204 324), (.ref 85)⟩, ⟨(PyData.keyHash P x206), (.str x206 355), (.ref 86)⟩, ⟨(PyData.keyHash P x207), (.str x207 366), (.ref 104)⟩, ⟨(PyData.keyHash P x212), (.str x212 372), (.ref 109)⟩, ⟨(PyData.keyHash P x214), (.str x214 385), (.ref 116)⟩] 28), #[]⟩
def o12_3 (P : Params) : Obj := ⟨.none, none, (.fields #[(HD.i 9), (HD.i 0), (.ref 41), (HD.i 11), (HD.i 0), (.ref 46), (HD.i 15), (HD.i 0), (.ref 53), (HD.i 19), (HD.i 0), (.ref 58), (HD.i 30), (HD.i 0), (.ref 63), (HD.i 42), (HD.i 0), (.ref 70), (HD.i 44), (HD.i 0), (.ref 77), (HD.i 46), (HD.i 0), (.ref 84), (HD.i 52), (HD.i 0), (.ref 103), (HD.i 59), (HD.i 0), (.ref 108), (HD.i 66), (HD.i 0), (.ref 115)]), #[]⟩
def o48_3 (P : Params) : Obj := ⟨(.type "tuple"), none, (.seq #[] 0), #[]⟩
def o49_3 (P : Params) : Obj := ⟨.none, none, (.fields #[]), #[]⟩
def o50_3 (P : Params) : Obj := ⟨(.type "tuple"), none, (.seq #[(.str x195 286), (.str x198 287)] 0), #[]⟩
def o51_3 (P : Params) : Obj := ⟨(.type "tuple"), none, (.seq #[] 0), #[]⟩
def o52_3 (P : Params) : Obj := ⟨.none, none, (.func ⟨x197, x197, L2.defArgs (ht 10), .stmts (L2.defBody (ht 10)), L2.defScope (ht 10), 0, [], .none, .none, .none, .none, none, .none, .none, 0⟩), #[]⟩
def o53_3 (P : Params) : Obj := ⟨(.type "code"), none, (.fields #[(.str x197 283), (.str x197 284), (.str x164 285), (HD.i 15), (HD.i 2), (HD.i 0), (HD.i 0), (HD.i 3), (.ref 48), (.bool true), (HD.i 181), (.ref 49), .none, (.ref 50), (.ref 51), (.ref 52), (HD.i 288), (HD.i 15), (.str x164 289)]), #[]⟩
def o54_3 (P : Params) : Obj := ⟨(.type "function"), none, (.func ⟨x197, x197, L2.defArgs (ht 10), .stmts (L2.defBody (ht 10)), L2.defScope (ht 10), 3, [], .none, .none, .none, (.str x167 187), none, (.ref 53), .none, 0⟩), #[]⟩
def o55_3 (P : Params) : Obj := ⟨(.type "tuple"), none, (.seq #[] 0), #[]⟩
def o56_3 (P : Params) : Obj := ⟨.none, none, (.fields #[]), #[]⟩
def o57_3 (P : Params) : Obj := ⟨.none, none, (.func ⟨x199, x199, L2.defArgs (ht 11), .stmts (L2.defBody (ht 11)), L2.defScope (ht 11), 0, [], .none, .none, .none, .none, none, .none, .none, 0⟩), #[]⟩
def o58_3 (P : Params) : Obj := ⟨(.type "code"), none, (.fields #[(.str x199 291), (.str x199 292), (.str x164 293), (HD.i 19), (HD.i 2), (HD.i 0), (HD.i 0), (HD.i 3), (.ref 55), (.bool true), (HD.i 181), (.ref 56), .none, .none, .none, (.ref 57), (HD.i 294), (HD.i 19), (.str x164 295)]), #[]⟩
def o59_3 (P : Params) : Obj := ⟨(.type "function"), none, (.func ⟨x199, x199, L2.defArgs (ht 11), .stmts (L2.defBody (ht 11)), L2.defScope (ht 11), 3, [], .none, .none, .none, (.str x167 187), none, (.ref 58), .none, 0⟩), #[]⟩
def o60_3 (P : Params) : Obj := ⟨(.type "tuple"), none, (.seq #[] 0), #[]⟩
def o61_3 (P : Params) : Obj := ⟨.none, none, (.fields #[]), #[]⟩
def o62_3 (P : Params) : Obj := ⟨.none, none, (.func ⟨x200, x200, L2.defArgs (ht 12), .stmts (L2.defBody (ht 12)), L2.defScope (ht 12), 0, [], .none, .none, .none, .none, none, .none, .none, 0⟩), #[]⟩
def o63_3 (P : Params) : Obj := ⟨(.type "code"), none, (.fields #[(.str x200 297), (.str x200 298), (.str x164 299), (HD.i 30), (HD.i 1), (HD.i 0), (HD.i 0), (HD.i 3), (.ref 60), (.bool true), (HD.i 181), (.ref 61), .none, .none, .none, (.ref 62), (HD.i 300), (HD.i 30), (.str x164 301)]), #[]⟩
def o64_3 (P : Params) : Obj := ⟨(.type "function"), none, (.func ⟨x200, x200, L2.defArgs (ht 12), .stmts (L2.defBody (ht 12)), L2.defScope (ht 12), 3, [], .none, .none, .none, (.str x167 187), none, (.ref 63), .none, 0⟩), #[]⟩
def o65_3 (P : Params) : Obj := ⟨(.type "tuple"), none, (.seq #[] 0), #[]⟩
def o66_3 (P : Params) : Obj := ⟨.none, none, (.fields #[]), #[]⟩
def o67_3 (P : Params) : Obj := ⟨(.type "tuple"), none, (.seq #[(.str x195 306), (.str x198 307)] 0), #[]⟩
def o68_3 (P : Params) : Obj := ⟨(.type "tuple"), none, (.seq #[] 0), #[]⟩
def o69_3 (P : Params) : Obj := ⟨.none, none, (.func ⟨x201, x201, L2.defArgs (ht 13), .stmts (L2.defBody (ht 13)), L2.defScope (ht 13), 0, [], .none, .none, .none, .none, none, .none, .none, 0⟩), #[]⟩
def o70_3 (P : Params) : Obj := ⟨(.type "code"), none, (.fields #[(.str x201 303), (.str x201 304), (.str x164 305), (HD.i 42), (HD.i 2), (HD.i 0), (HD.i 0), (HD.i 3), (.ref 65), (.bool true), (HD.i 181), (.ref 66), .none, (.ref 67), (.ref 68), (.ref 69), (HD.i 308), (HD.i 42), (.str x164 309)]), #[]⟩
def o71_3 (P : Params) : Obj := ⟨(.type "function"), none, (.func ⟨x201, x201, L2.defArgs (ht 13), .stmts (L2.defBody (ht 13)), L2.defScope (ht 13), 3, [], .none, .none, .none, (.str x167 187), none, (.ref 70), .none, 0⟩), #[]⟩
def o72_3 (P : Params) : Obj := ⟨(.type "tuple"), none, (.seq #[] 0), #[]⟩
def o73_3 (P : Params) : Obj := ⟨.none, none, (.fields #[]), #[]⟩
def o74_3 (P : Params) : Obj := ⟨(.type "tuple"), none, (.seq #[(.str x203 314)] 0), #[]⟩
def o75_3 (P : Params) : Obj := ⟨(.type "tuple"), none, (.seq #[] 0), #[]⟩
def o76_3 (P : Params) : Obj := ⟨.none, none, (.func ⟨x202, x202, L2.defArgs (ht 14), .stmts (L2.defBody (ht 14)), L2.defScope (ht 14), 0, [], .none, .none, .none, .none, none, .none, .none, 0⟩), #[]⟩
def o77_3 (P : Params) : Obj := ⟨(.type "code"), none, (.fields #[(.str x202 311), (.str x202 312), (.str x164 313), (HD.i 44), (HD.i 1), (HD.i 0), (HD.i 0), (HD.i 3), (.ref 72), (.bool true), (HD.i 181), (.ref 73), .none, (.ref 74), (.ref 75), (.ref 76), (HD.i 315), (HD.i 44), (.str x164 316)]), #[]⟩
def o78_3 (P : Params) : Obj := ⟨(.type "function"), none, (.func ⟨x202, x202, L2.defArgs (ht 14), .stmts (L2.defBody (ht 14)), L2.defScope (ht 14), 3, [], .none, .none, .none, (.str x167 187), none, (.ref 77), .none, 0⟩), #[]⟩
def o79_3 (P : Params) : Obj := ⟨(.type "tuple"), none, (.seq #[] 0), #[]⟩
def o80_3 (P : Params) : Obj := ⟨.none, none, (.fields #[]), #[]⟩
def o81_3 (P : Params) : Obj := ⟨(.type "tuple"), none, (.seq #[(.str x203 321)] 0), #[]⟩
def o82_3 (P : Params) : Obj := ⟨(.type "tuple"), none, (.seq #[] 0), #[]⟩
def o83_3 (P : Params) : Obj := ⟨.none, none, (.func ⟨x204, x204, L2.defArgs (ht 15), .stmts (L2.defBody (ht 15)), L2.defScope (ht 15), 0, [], .none, .none, .none, .none, none, .none, .none, 0⟩), #[]⟩
def o84_3 (P : Params) : Obj := ⟨(.type "code"), none, (.fields #[(.str x204 318), (.str x204 319), (.str x164 320), (HD.i 46), (HD.i 1), (HD.i 0), (HD.i 0), (HD.i 3), (.ref 79), (.bool true), (HD.i 181), (.ref 80), .none, (.ref 81), (.ref 82), (.ref 83), (HD.i 322), (HD.i 46), (.str x164 323)]), #[]⟩
def o85_3 (P : Params) : Obj := ⟨(.type "function"), none, (.func ⟨x204, x204, L2.defArgs (ht 15), .stmts (L2.defBody (ht 15)), L2.defScope (ht 15), 3, [], .none, .none, .none, (.str x167 187), none, (.ref 84), .none, 0⟩), #[]⟩
def o86_3 (P : Params) : Obj := ⟨(.type "dict"), none, (.dict #[⟨(PyData.keyHash P x182), (.str x182 327), (.ref 88)⟩, ⟨(PyData.keyHash P x184), (.str x184 331), (.ref 91)⟩, ⟨(PyData.keyHash P x186), (.str x186 338), (.ref 93)⟩, ⟨(PyData.keyHash P x189), (.str x189 342), (.ref 95)⟩, ⟨(PyData.keyHash P x190), (.str x190 346), (.ref 97)⟩] 5), #[]⟩
def o87_3 (P : Params) : Obj := ⟨(.type "tuple"), none, (.seq #[(.int (.ofNat 1) 328), (.str x181 329), (.str x181 330)] 0), #[]⟩
def o88_3 (P : Params) : Obj := ⟨(.type "tuple"), none, (.seq #[(.ref 87)] 0), #[]⟩
def o89_3 (P : Params) : Obj := ⟨(.type "tuple"), none, (.seq #[(.int (.ofNat 4) 332), (.str x183 333), (.str x183 334)] 0), #[]⟩
def o90_3 (P : Params) : Obj := ⟨(.type "tuple"), none, (.seq #[(.int (.ofNat 4) 335), (.str x38 336), (.str x38 337)] 0), #[]⟩
def o91_3 (P : Params) : Obj := ⟨(.type "tuple"), none, (.seq #[(.ref 89), (.ref 90)] 0), #[]⟩
def o92_3 (P : Params) : Obj := ⟨(.type "tuple"), none, (.seq #[(.int (.ofNat 3) 339), (.str x185 340), (.str x185 341)] 0), #[]⟩
def o93_3 (P : Params) : Obj := ⟨(.type "tuple"), none, (.seq #[(.ref 92)] 0), #[]⟩
def o94_3 (P : Params) : Obj := ⟨(.type "tuple"), none, (.seq #[(.int (.ofNat 1) 343), (.str x188 344), (.str x189 345)] 0), #[]⟩
def o95_3 (P : Params) : Obj := ⟨(.type "tuple"), none, (.seq #[(.ref 94)] 0), #[]⟩
def o96_3 (P : Params) : Obj := ⟨(.type "tuple"), none, (.seq #[(.int (.ofNat 1) 347), (.str x188 348), (.str x190 349)] 0), #[]⟩
def o97_3 (P : Params) : Obj := ⟨(.type "tuple"), none, (.seq #[(.ref 96)] 0), #[]⟩
def o98_3 (P : Params) : Obj := ⟨(.type "tuple"), none, (.seq #[] 0), #[]⟩
def o99_3 (P : Params) : Obj := ⟨.none, none, (.fields #[]), #[]⟩
def o100_3 (P : Params) : Obj := ⟨(.type "tuple"), none, (.seq #[(.str x203 359), (.str x208 360), (.str x209 361), (.str x210 362), (.str x211 363)] 0), #[]⟩
def o101_3 (P : Params) : Obj := ⟨(.type "tuple"), none, (.seq #[] 0), #[]⟩
def o102_3 (P : Params) : Obj := ⟨.none, none, (.func ⟨x207, x207, L2.defArgs (ht 18), .stmts (L2.defBody (ht 18)), L2.defScope (ht 18), 0, [], .none, .none, .none, .none, none, .none, .none, 0⟩), #[]⟩
def o103_3 (P : Params) : Obj := ⟨(.type "code"), none, (.fields #[(.str x207 356), (.str x207 357), (.str x164 358), (HD.i 52), (HD.i 2), (HD.i 0), (HD.i 0), (HD.i 3), (.ref 98), (.bool true), (HD.i 181), (.ref 99), .none, (.ref 100), (.ref 101), (.ref 102), (HD.i 364), (HD.i 52), (.str x164 365)]), #[]⟩
def o104_3 (P : Params) : Obj := ⟨(.type "function"), none, (.func ⟨x207, x207, L2.defArgs (ht 18), .stmts (L2.defBody (ht 18)), L2.defScope (ht 18), 3, [], .none, .none, .none, (.str x205 325), none, (.ref 103), .none, 0⟩), #[]⟩
def o105_3 (P : Params) : Obj := ⟨(.type "tuple"), none, (.seq #[] 0), #[]⟩
def o106_3 (P : Params) : Obj := ⟨.none, none, (.fields #[]), #[]⟩
def o107_3 (P : Params) : Obj := ⟨.none, none, (.func ⟨x212, x212, L2.defArgs (ht 19), .stmts (L2.defBody (ht 19)), L2.defScope (ht 19), 0, [], .none, .none, .none, .none, none, .none, .none, 0⟩), #[]⟩
def o108_3 (P : Params) : Obj := ⟨(.type "code"), none, (.fields #[(.str x212 367), (.str x212 368), (.str x164 369), (HD.i 59), (HD.i 2), (HD.i 0), (HD.i 0), (HD.i 3), (.ref 105), (.bool true), (HD.i 181), (.ref 106), .none, .none, .none, (.ref 107), (HD.i 370), (HD.i 59), (.str x164 371)]), #[]⟩
def o109_3 (P : Params) : Obj := ⟨(.type "function"), none, (.func ⟨x212, x212, L2.defArgs (ht 19), .stmts (L2.defBody (ht 19)), L2.defScope (ht 19), 3, [], .none, .none, .none, (.str x205 325), none, (.ref 108), .none, 0⟩), #[]⟩
def o110_3 (P : Params) : Obj := ⟨(.type "tuple"), none, (.seq #[] 0), #[]⟩
def o111_3 (P : Params) : Obj := ⟨.none, none, (.fields #[]), #[]⟩
def o112_3 (P : Params) : Obj := ⟨(.type "tuple"), none, (.seq #[(.str x215 378), (.str x216 379), (.str x217 380), (.str x218 381), (.str x219 382)] 0), #[]⟩
def o113_3 (P : Params) : Obj := ⟨(.type "tuple"), none, (.seq #[] 0), #[]⟩
def o114_3 (P : Params) : Obj := ⟨.none, none, (.func ⟨x214, x214, L2.defArgs (ht 21), .stmts (L2.defBody (ht 21)), L2.defScope (ht 21), 0, [], .none, .none, .none, .none, none, .none, .none, 0⟩), #[]⟩
def o115_3 (P : Params) : Obj := ⟨(.type "code"), none, (.fields #[(.str x214 375), (.str x214 376), (.str x164 377), (HD.i 66), (HD.i 3), (HD.i 0), (HD.i 0), (HD.i 3), (.ref 110), (.bool true), (HD.i 181), (.ref 111), .none, (.ref 112), (.ref 113), (.ref 114), (HD.i 383), (HD.i 66), (.str x164 384)]), #[]⟩
def o116_3 (P : Params) : Obj := ⟨(.type "function"), none, (.func ⟨x214, x214, L2.defArgs (ht 21), .stmts (L2.defBody (ht 21)), L2.defScope (ht 21), 3, [], .none, .none, .none, (.str x213 373), none, (.ref 115), .none, 0⟩), #[]⟩
def g3 : List Stmt := [ht 10, ht 11, ht 12, ht 13, ht 14, ht 15, ht 16, ht 17, ht 18, ht 19, ht 20, ht 21]
def T3 (P : Params) : BT := ((((((((((((((((((((((((((((((((((((((((((((((((((((((((((((((((((((((((T2 P).ins (nat_lit 3) (o3_3 P)).ins (nat_lit 12) (o12_3 P)).ins (nat_lit 48) (o48_3 P)).ins (nat_lit 49) (o49_3 P)).ins (nat_lit 50) (o50_3 P)).ins (nat_lit 51) (o51_3 P)).ins (nat_lit 52) (o52_3 P)).ins (nat_lit 53) (o53_3 P)).ins (nat_lit 54) (o54_3 P)).ins (nat_lit 55) (o55_3 P)).ins (nat_lit 56) (o56_3 P)).ins (nat_lit 57) (o57_3 P)).ins (nat_lit 58) (o58_3 P)).ins (nat_lit 59) (o59_3 P)).ins (nat_lit 60) (o60_3 P)).ins (nat_lit 61) (o61_3 P)).ins (nat_lit 62) (o62_3 P)).ins (nat_lit 63) (o63_3 P)).ins (nat_lit 64) (o64_3 P)).ins (nat_lit 65) (o65_3 P)).ins (nat_lit 66) (o66_3 P)).ins (nat_lit 67) (o67_3 P)).ins (nat_lit 68) (o68_3 P)).ins (nat_lit 69) (o69_3 P)).ins (nat_lit 70) (o70_3 P)).ins (nat_lit 71) (o71_3 P)).ins (nat_lit 72) (o72_3 P)).ins (nat_lit 73) (o73_3 P)).ins (nat_lit 74) (o74_3 P)).ins (nat_lit 75) (o75_3 P)).ins (nat_lit 76) (o76_3 P)).ins (nat_lit 77) (o77_3 P)).ins (nat_lit 78) (o78_3 P)).ins (nat_lit 79) (o79_3 P)).ins (nat_lit 80) (o80_3 P)).ins (nat_lit 81) (o81_3 P)).ins (nat_lit 82) (o82_3 P)).ins (nat_lit 83) (o83_3 P)).ins (nat_lit 84) (o84_3 P)).ins (nat_lit 85) (o85_3 P)).ins (nat_lit 86) (o86_3 P)).ins (nat_lit 87) (o87_3 P)).ins (nat_lit 88) (o88_3 P)).ins (nat_lit 89) (o89_3 P)).ins (nat_lit 90) (o90_3 P)).ins (nat_lit 91) (o91_3 P)).ins (nat_lit 92) (o92_3 P)).ins (nat_lit 93) (o93_3 P)).ins (nat_lit 94) (o94_3 P)).ins (nat_lit 95) (o95_3 P)).ins (nat_lit 96) (o96_3 P)).ins (nat_lit 97) (o97_3 P)).ins (nat_lit 98) (o98_3 P)).ins (nat_lit 99) (o99_3 P)).ins (nat_lit 100) (o100_3 P)).ins (nat_lit 101) (o101_3 P)).ins (nat_lit 102) (o102_3 P)).ins (nat_lit 103) (o103_3 P)).ins (nat_lit 104) (o104_3 P)).ins (nat_lit 105) (o105_3 P)).ins (nat_lit 106) (o106_3 P)).ins (nat_lit 107) (o107_3 P)).ins (nat_lit 108) (o108_3 P)).ins (nat_lit 109) (o109_3 P)).ins (nat_lit 110) (o110_3 P)).ins (nat_lit 111) (o111_3 P)).ins (nat_lit 112) (o112_3 P)).ins (nat_lit 113) (o113_3 P)).ins (nat_lit 114) (o114_3 P)).ins (nat_lit 115) (o115_3 P)).ins (nat_lit 116) (o116_3 P))
def lf3 : Life := ⟨[], [], [], 0, [], [], false, #[], [], 0, false, false, false, (.ofNat 0), [(.ofNat 2000), (.ofNat 10), (.ofNat 10)], false, 0, true, [], [], 0, false⟩
abbrev S3 (w : World) (os : OsState) : SharedT := ⟨T3 w.params, nat_lit 117, lf3, Array.mk [], ⟨0, 0, 0, 0⟩, nat_lit 386, os⟩
def q3f (w : World) : (OsState → Option (Flow × SharedT × Code × Pos)) × (OsState → Option (Flow × SharedT × Code × Pos)) := (fun os => segRunT treeTable pw (w.withFollow "special-get-raises" false) (nat_lit 11) (some (.ref 6)) (nat_lit 1) (nat_lit 401) (S2 (w.withFollow "special-get-raises" false) os) (piecesOf g3 hE hC ⟨11, 0, 14, 77⟩ hB), fun os => some (Flow.next, S3 (w.withFollow "special-get-raises" false) os, hC, ⟨66, 0, 73, 88⟩))
theorem q3f_eq : (fun w : World => HD.seg pw (nat_lit 11) (some (.ref 6)) (nat_lit 401) S2 S3 g3 hE hC ⟨11, 0, 14, 77⟩ ⟨66, 0, 73, 88⟩ hB (w.withFollow "special-get-raises" false)) = q3f := by kernel_rfl
name_quick YK223f for q3f by q3f_eq
theorem i3f (w : World) : (Fast.YK223f w).1 = (Fast.YK223f w).2 := by kernel_rfl
def q3t (w : World) : (OsState → Option (Flow × SharedT × Code × Pos)) × (OsState → Option (Flow × SharedT × Code × Pos)) := (fun os => segRunT treeTable pw (w.withFollow "special-get-raises" true) (nat_lit 11) (some (.ref 6)) (nat_lit 1) (nat_lit 401) (S2 (w.withFollow "special-get-raises" true) os) (piecesOf g3 hE hC ⟨11, 0, 14, 77⟩ hB), fun os => some (Flow.next, S3 (w.withFollow "special-get-raises" true) os, hC, ⟨66, 0, 73, 88⟩))
theorem q3t_eq : (fun w : World => HD.seg pw (nat_lit 11) (some (.ref 6)) (nat_lit 401) S2 S3 g3 hE hC ⟨11, 0, 14, 77⟩ ⟨66, 0, 73, 88⟩ hB (w.withFollow "special-get-raises" true)) = q3t := by kernel_rfl
name_quick YK223t for q3t by q3t_eq
theorem i3t (w : World) : (Fast.YK223t w).1 = (Fast.YK223t w).2 := by kernel_rfl
theorem h3 : HD.Ok (HD.seg pw (nat_lit 11) (some (.ref 6)) (nat_lit 401) S2 S3 g3 hE hC ⟨11, 0, 14, 77⟩ ⟨66, 0, 73, 88⟩ hB) := HD.by2 "special-get-raises" Fast.YK223f_eq Fast.YK223t_eq i3f i3t
def o3_4 (P : Params) : Obj := ⟨(.type "dict"), none, (.dict #[⟨(PyData.keyHash P x0), (.str x0 165), (.str x213 373)⟩, ⟨(PyData.keyHash P x2), (.str x2 166), .none⟩, ⟨(PyData.keyHash P x3), (.str x3 167), .none⟩, ⟨(PyData.keyHash P x4), (.str x4 168), (.builtin "__main__.__loader__#opaque")⟩, ⟨(PyData.keyHash P x5), (.str x5 169), .none⟩, ⟨(PyData.keyHash P x161), (.str x161 170), (.ref 6)⟩, ⟨(PyData.keyHash P x162), (.str x162 171), (.ref 4)⟩, ⟨(PyData.keyHash P x163), (.str x163 173), (.str x164 172)⟩, ⟨(PyData.keyHash P x165), (.str x165 174), .none⟩, ⟨(PyData.keyHash P x168), (.str x168 190), (.int (.ofNat 600) 189)⟩, ⟨(PyData.keyHash P x169), (.str x169 192), (.int (.ofNat 40) 191)⟩, ⟨(PyData.keyHash P x170), (.str x170 194), (.int (.ofNat 99) 193)⟩, ⟨(PyData.keyHash P x171), (.str x171 196), (.int (.ofNat 12) 195)⟩, ⟨(PyData.keyHash P x172), (.str x172 198), (.str x173 197)⟩, ⟨(PyData.keyHash P x174), (.str x174 204), (.ref 15)⟩, ⟨(PyData.keyHash P x179), (.str x179 269), (.ref 16)⟩, ⟨(PyData.keyHash P x194), (.str x194 276), (.ref 42)⟩, ⟨(PyData.keyHash P x196), (.str x196 282), (.ref 47)⟩, ⟨(PyData.keyHash P x197), (.str x197 290), (.ref 54)⟩, ⟨(PyData.keyHash P x199), (.str x199 296), (.ref 59)⟩, ⟨(PyData.keyHash P x200), (.str x200 302), (.ref 64)⟩, ⟨(PyData.keyHash P x201), (.str x201 310), (.ref 71)⟩, ⟨(PyData.keyHash P x202), (.str x202 317), (.ref 78)⟩, ⟨(PyData.keyHash P x204), (.str x204 324), (.ref 85)⟩, ⟨(PyData.keyHash P x206), (.str x206 355), (.ref 86)⟩, ⟨(PyData.keyHash P x207), (.str x207 366), (.ref 104)⟩, ⟨(PyData.keyHash P x212), (.str x212 372), (.ref 109)⟩, ⟨(PyData.keyHash P x214), (.str x214 385), (.ref 116)⟩, ⟨(PyData.keyHash P x220), (.str x220 392), (.ref 123)⟩, ⟨(PyData.keyHash P x222), (.str x222 398), (.ref 128)⟩, ⟨(PyData.keyHash P x223), (.str x223 409), (.ref 135)⟩, ⟨(PyData.keyHash P x227), (.str x227 423), (.ref 142)⟩, ⟨(PyData.keyHash P x231), (.str x231 435), (.ref 149)⟩, ⟨(PyData.keyHash P x232), (.str x232 448), (.ref 156)⟩, ⟨(PyData.keyHash P x233), (.str x233 460), (.ref 163)⟩, ⟨(PyData.keyHash P x234), (.str x234 471), (.ref 170)⟩, ⟨(PyData.keyHash P x235), (.str x235 487), (.ref 177)⟩, ⟨(PyData.keyHash P x237), (.str x237 502), (.ref 184)⟩, ⟨(PyData.keyHash P x241), (.str x241 514), (.ref 191)⟩, ⟨(PyData.keyHash P x242), (.str x242 521), (.ref 198)⟩] 40), #[]⟩
def o12_4 (P : Params) : Obj := ⟨.none, none, (.fields #[(HD.i 9), (HD.i 0), (.ref 41), (HD.i 11), (HD.i 0), (.ref 46), (HD.i 15), (HD.i 0), (.ref 53), (HD.i 19), (HD.i 0), (.ref 58), (HD.i 30), (HD.i 0), (.ref 63), (HD.i 42), (HD.i 0), (.ref 70), (HD.i 44), (HD.i 0), (.ref 77), (HD.i 46), (HD.i 0), (.ref 84), (HD.i 52), (HD.i 0), (.ref 103), (HD.i 59), (HD.i 0), (.ref 108), (HD.i 66), (HD.i 0), (.ref 115), (HD.i 74), (HD.i 0), (.ref 122), (HD.i 80), (HD.i 0), (.ref 127), (HD.i 89), (HD.i 0), (.ref 134), (HD.i 100), (HD.i 0), (.ref 141), (HD.i 110), (HD.i 0), (.ref 148), (HD.i 113), (HD.i 0), (.ref 155), (HD.i 117), (HD.i 0), (.ref 162), (HD.i 120), (HD.i 0), (.ref 169), (HD.i 124), (HD.i 0), (.ref 176), (HD.i 136), (HD.i 0), (.ref 183), (HD.i 157), (HD.i 0), (.ref 190), (HD.i 164), (HD.i 0), (.ref 197)]), #[]⟩
def o117_4 (P : Params) : Obj := ⟨(.type "tuple"), none, (.seq #[] 0), #[]⟩
def o118_4 (P : Params) : Obj := ⟨.none, none, (.fields #[]), #[]⟩
def o119_4 (P : Params) : Obj := ⟨(.type "tuple"), none, (.seq #[(.str x221 389)] 0), #[]⟩
def o120_4 (P : Params) : Obj := ⟨(.type "tuple"), none, (.seq #[] 0), #[]⟩
def o121_4 (P : Params) : Obj := ⟨.none, none, (.func ⟨x220, x220, L2.defArgs (ht 22), .stmts (L2.defBody (ht 22)), L2.defScope (ht 22), 0, [], .none, .none, .none, .none, none, .none, .none, 0⟩), #[]⟩
def o122_4 (P : Params) : Obj := ⟨(.type "code"), none, (.fields #[(.str x220 386), (.str x220 387), (.str x164 388), (HD.i 74), (HD.i 1), (HD.i 0), (HD.i 0), (HD.i 3), (.ref 117), (.bool true), (HD.i 181), (.ref 118), .none, (.ref 119), (.ref 120), (.ref 121), (HD.i 390), (HD.i 74), (.str x164 391)]), #[]⟩
def o123_4 (P : Params) : Obj := ⟨(.type "function"), none, (.func ⟨x220, x220, L2.defArgs (ht 22), .stmts (L2.defBody (ht 22)), L2.defScope (ht 22), 3, [], .none, .none, .none, (.str x213 373), none, (.ref 122), .none, 0⟩), #[]⟩
def o124_4 (P : Params) : Obj := ⟨(.type "tuple"), none, (.seq #[] 0), #[]⟩
def o125_4 (P : Params) : Obj := ⟨.none, none, (.fields #[]), #[]⟩
def o126_4 (P : Params) : Obj := ⟨.none, none, (.func ⟨x222, x222, L2.defArgs (ht 23), .stmts (L2.defBody (ht 23)), L2.defScope (ht 23), 0, [], .none, .none, .none, .none, none, .none, .none, 0⟩), #[]⟩
def o127_4 (P : Params) : Obj := ⟨(.type "code"), none, (.fields #[(.str x222 393), (.str x222 394), (.str x164 395), (HD.i 80), (HD.i 2), (HD.i 0), (HD.i 0), (HD.i 3), (.ref 124), (.bool true), (HD.i 181), (.ref 125), .none, .none, .none, (.ref 126), (HD.i 396), (HD.i 80), (.str x164 397)]), #[]⟩
def o128_4 (P : Params) : Obj := ⟨(.type "function"), none, (.func ⟨x222, x222, L2.defArgs (ht 23), .stmts (L2.defBody (ht 23)), L2.defScope (ht 23), 3, [], .none, .none, .none, (.str x213 373), none, (.ref 127), .none, 0⟩), #[]⟩
def o129_4 (P : Params) : Obj := ⟨(.type "tuple"), none, (.seq #[] 0), #[]⟩
def o130_4 (P : Params) : Obj := ⟨.none, none, (.fields #[]), #[]⟩
def o131_4 (P : Params) : Obj := ⟨(.type "tuple"), none, (.seq #[(.str x215 402), (.str x216 403), (.str x224 404), (.str x225 405), (.str x226 406)] 0), #[]⟩
def o132_4 (P : Params) : Obj := ⟨(.type "tuple"), none, (.seq #[] 0), #[]⟩
def o133_4 (P : Params) : Obj := ⟨.none, none, (.func ⟨x223, x223, L2.defArgs (ht 24), .stmts (L2.defBody (ht 24)), L2.defScope (ht 24), 0, [], .none, .none, .none, .none, none, .none, .none, 0⟩), #[]⟩
def o134_4 (P : Params) : Obj := ⟨(.type "code"), none, (.fields #[(.str x223 399), (.str x223 400), (.str x164 401), (HD.i 89), (HD.i 4), (HD.i 0), (HD.i 0), (HD.i 3), (.ref 129), (.bool true), (HD.i 181), (.ref 130), .none, (.ref 131), (.ref 132), (.ref 133), (HD.i 407), (HD.i 89), (.str x164 408)]), #[]⟩
def o135_4 (P : Params) : Obj := ⟨(.type "function"), none, (.func ⟨x223, x223, L2.defArgs (ht 24), .stmts (L2.defBody (ht 24)), L2.defScope (ht 24), 3, [], .none, .none, .none, (.str x213 373), none, (.ref 134), .none, 0⟩), #[]⟩
def o136_4 (P : Params) : Obj := ⟨(.type "tuple"), none, (.seq #[] 0), #[]⟩
def o137_4 (P : Params) : Obj := ⟨.none, none, (.fields #[]), #[]⟩
def o138_4 (P : Params) : Obj := ⟨(.type "tuple"), none, (.seq #[(.str x215 413), (.str x216 414), (.str x228 415), (.str x224 416), (.str x225 417), (.str x226 418), (.str x229 419), (.str x230 420)] 0), #[]⟩
def o139_4 (P : Params) : Obj := ⟨(.type "tuple"), none, (.seq #[] 0), #[]⟩
def o140_4 (P : Params) : Obj := ⟨.none, none, (.func ⟨x227, x227, L2.defArgs (ht 25), .stmts (L2.defBody (ht 25)), L2.defScope (ht 25), 0, [], .none, .none, .none, .none, none, .none, .none, 0⟩), #[]⟩
def o141_4 (P : Params) : Obj := ⟨(.type "code"), none, (.fields #[(.str x227 410), (.str x227 411), (.str x164 412), (HD.i 100), (HD.i 5), (HD.i 0), (HD.i 0), (HD.i 3), (.ref 136), (.bool true), (HD.i 181), (.ref 137), .none, (.ref 138), (.ref 139), (.ref 140), (HD.i 421), (HD.i 100), (.str x164 422)]), #[]⟩
def o142_4 (P : Params) : Obj := ⟨(.type "function"), none, (.func ⟨x227, x227, L2.defArgs (ht 25), .stmts (L2.defBody (ht 25)), L2.defScope (ht 25), 3, [], .none, .none, .none, (.str x213 373), none, (.ref 141), .none, 0⟩), #[]⟩
def o143_4 (P : Params) : Obj := ⟨(.type "tuple"), none, (.seq #[] 0), #[]⟩
def o144_4 (P : Params) : Obj := ⟨.none, none, (.fields #[]), #[]⟩
def o145_4 (P : Params) : Obj := ⟨(.type "tuple"), none, (.seq #[(.str x215 427), (.str x216 428), (.str x228 429), (.str x224 430), (.str x225 431), (.str x230 432)] 0), #[]⟩
def o146_4 (P : Params) : Obj := ⟨(.type "tuple"), none, (.seq #[] 0), #[]⟩
def o147_4 (P : Params) : Obj := ⟨.none, none, (.func ⟨x231, x231, L2.defArgs (ht 26), .stmts (L2.defBody (ht 26)), L2.defScope (ht 26), 0, [], .none, .none, .none, .none, none, .none, .none, 0⟩), #[]⟩
def o148_4 (P : Params) : Obj := ⟨(.type "code"), none, (.fields #[(.str x231 424), (.str x231 425), (.str x164 426), (HD.i 110), (HD.i 5), (HD.i 0), (HD.i 0), (HD.i 3), (.ref 143), (.bool true), (HD.i 181), (.ref 144), .none, (.ref 145), (.ref 146), (.ref 147), (HD.i 433), (HD.i 110), (.str x164 434)]), #[]⟩
def o149_4 (P : Params) : Obj := ⟨(.type "function"), none, (.func ⟨x231, x231, L2.defArgs (ht 26), .stmts (L2.defBody (ht 26)), L2.defScope (ht 26), 3, [], .none, .none, .none, (.str x213 373), none, (.ref 148), .none, 0⟩), #[]⟩
def o150_4 (P : Params) : Obj := ⟨(.type "tuple"), none, (.seq #[] 0), #[]⟩
def o151_4 (P : Params) : Obj := ⟨.none, none, (.fields #[]), #[]⟩
def o152_4 (P : Params) : Obj := ⟨(.type "tuple"), none, (.seq #[(.str x215 439), (.str x216 440), (.str x228 441), (.str x224 442), (.str x225 443), (.str x230 444), (.str x229 445)] 0), #[]⟩
def o153_4 (P : Params) : Obj := ⟨(.type "tuple"), none, (.seq #[] 0), #[]⟩
def o154_4 (P : Params) : Obj := ⟨.none, none, (.func ⟨x232, x232, L2.defArgs (ht 27), .stmts (L2.defBody (ht 27)), L2.defScope (ht 27), 0, [], .none, .none, .none, .none, none, .none, .none, 0⟩), #[]⟩
def o155_4 (P : Params) : Obj := ⟨(.type "code"), none, (.fields #[(.str x232 436), (.str x232 437), (.str x164 438), (HD.i 113), (HD.i 5), (HD.i 0), (HD.i 0), (HD.i 3), (.ref 150), (.bool true), (HD.i 181), (.ref 151), .none, (.ref 152), (.ref 153), (.ref 154), (HD.i 446), (HD.i 113), (.str x164 447)]), #[]⟩
def o156_4 (P : Params) : Obj := ⟨(.type "function"), none, (.func ⟨x232, x232, L2.defArgs (ht 27), .stmts (L2.defBody (ht 27)), L2.defScope (ht 27), 3, [], .none, .none, .none, (.str x213 373), none, (.ref 155), .none, 0⟩), #[]⟩
def o157_4 (P : Params) : Obj := ⟨(.type "tuple"), none, (.seq #[] 0), #[]⟩
def o158_4 (P : Params) : Obj := ⟨.none, none, (.fields #[]), #[]⟩
def o159_4 (P : Params) : Obj := ⟨(.type "tuple"), none, (.seq #[(.str x215 452), (.str x216 453), (.str x228 454), (.str x224 455), (.str x225 456), (.str x230 457)] 0), #[]⟩
def o160_4 (P : Params) : Obj := ⟨(.type "tuple"), none, (.seq #[] 0), #[]⟩
def o161_4 (P : Params) : Obj := ⟨.none, none, (.func ⟨x233, x233, L2.defArgs (ht 28), .stmts (L2.defBody (ht 28)), L2.defScope (ht 28), 0, [], .none, .none, .none, .none, none, .none, .none, 0⟩), #[]⟩
def o162_4 (P : Params) : Obj := ⟨(.type "code"), none, (.fields #[(.str x233 449), (.str x233 450), (.str x164 451), (HD.i 117), (HD.i 5), (HD.i 0), (HD.i 0), (HD.i 3), (.ref 157), (.bool true), (HD.i 181), (.ref 158), .none, (.ref 159), (.ref 160), (.ref 161), (HD.i 458), (HD.i 117), (.str x164 459)]), #[]⟩
def o163_4 (P : Params) : Obj := ⟨(.type "function"), none, (.func ⟨x233, x233, L2.defArgs (ht 28), .stmts (L2.defBody (ht 28)), L2.defScope (ht 28), 3, [], .none, .none, .none, (.str x213 373), none, (.ref 162), .none, 0⟩), #[]⟩
def o164_4 (P : Params) : Obj := ⟨(.type "tuple"), none, (.seq #[] 0), #[]⟩
def o165_4 (P : Params) : Obj := ⟨.none, none, (.fields #[]), #[]⟩
def o166_4 (P : Params) : Obj := ⟨(.type "tuple"), none, (.seq #[(.str x215 464), (.str x216 465), (.str x228 466), (.str x224 467), (.str x225 468)] 0), #[]⟩
def o167_4 (P : Params) : Obj := ⟨(.type "tuple"), none, (.seq #[] 0), #[]⟩
def o168_4 (P : Params) : Obj := ⟨.none, none, (.func ⟨x234, x234, L2.defArgs (ht 29), .stmts (L2.defBody (ht 29)), L2.defScope (ht 29), 0, [], .none, .none, .none, .none, none, .none, .none, 0⟩), #[]⟩
def o169_4 (P : Params) : Obj := ⟨(.type "code"), none, (.fields #[(.str x234 461), (.str x234 462), (.str x164 463), (HD.i 120), (HD.i 5), (HD.i 0), (HD.i 0), (HD.i 3), (.ref 164), (.bool true), (HD.i 181), (.ref 165), .none, (.ref 166), (.ref 167), (.ref 168), (HD.i 469), (HD.i 120), (.str x164 470)]), #[]⟩
def o170_4 (P : Params) : Obj := ⟨(.type "function"), none, (.func ⟨x234, x234, L2.defArgs (ht 29), .stmts (L2.defBody (ht 29)), L2.defScope (ht 29), 3, [], .none, .none, .none, (.str x213 373), none, (.ref 169), .none, 0⟩), #[]⟩
def o171_4 (P : Params) : Obj := ⟨(.type "tuple"), none, (.seq #[] 0), #[]⟩
def o172_4 (P : Params) : Obj := ⟨.none, none, (.fields #[]), #[]⟩
def o173_4 (P : Params) : Obj := ⟨(.type "tuple"), none, (.seq #[(.str x215 475), (.str x216 476), (.str x228 477), (.str x224 478), (.str x225 479), (.str x226 480), (.str x221 481), (.str x230 482), (.str x229 483), (.str x236 484)] 0), #[]⟩
def o174_4 (P : Params) : Obj := ⟨(.type "tuple"), none, (.seq #[] 0), #[]⟩
def o175_4 (P : Params) : Obj := ⟨.none, none, (.func ⟨x235, x235, L2.defArgs (ht 30), .stmts (L2.defBody (ht 30)), L2.defScope (ht 30), 0, [], .none, .none, .none, .none, none, .none, .none, 0⟩), #[]⟩
def o176_4 (P : Params) : Obj := ⟨(.type "code"), none, (.fields #[(.str x235 472), (.str x235 473), (.str x164 474), (HD.i 124), (HD.i 6), (HD.i 0), (HD.i 0), (HD.i 3), (.ref 171), (.bool true), (HD.i 181), (.ref 172), .none, (.ref 173), (.ref 174), (.ref 175), (HD.i 485), (HD.i 124), (.str x164 486)]), #[]⟩
def o177_4 (P : Params) : Obj := ⟨(.type "function"), none, (.func ⟨x235, x235, L2.defArgs (ht 30), .stmts (L2.defBody (ht 30)), L2.defScope (ht 30), 3, [], .none, .none, .none, (.str x213 373), none, (.ref 176), .none, 0⟩), #[]⟩
def o178_4 (P : Params) : Obj := ⟨(.type "tuple"), none, (.seq #[] 0), #[]⟩
def o179_4 (P : Params) : Obj := ⟨.none, none, (.fields #[]), #[]⟩
def o180_4 (P : Params) : Obj := ⟨(.type "tuple"), none, (.seq #[(.str x215 491), (.str x216 492), (.str x228 493), (.str x224 494), (.str x225 495), (.str x226 496), (.str x238 497), (.str x239 498), (.str x240 499)] 0), #[]⟩
def o181_4 (P : Params) : Obj := ⟨(.type "tuple"), none, (.seq #[] 0), #[]⟩
def o182_4 (P : Params) : Obj := ⟨.none, none, (.func ⟨x237, x237, L2.defArgs (ht 31), .stmts (L2.defBody (ht 31)), L2.defScope (ht 31), 0, [], .none, .none, .none, .none, none, .none, .none, 0⟩), #[]⟩
def o183_4 (P : Params) : Obj := ⟨(.type "code"), none, (.fields #[(.str x237 488), (.str x237 489), (.str x164 490), (HD.i 136), (HD.i 6), (HD.i 0), (HD.i 0), (HD.i 3), (.ref 178), (.bool true), (HD.i 181), (.ref 179), .none, (.ref 180), (.ref 181), (.ref 182), (HD.i 500), (HD.i 136), (.str x164 501)]), #[]⟩
def o184_4 (P : Params) : Obj := ⟨(.type "function"), none, (.func ⟨x237, x237, L2.defArgs (ht 31), .stmts (L2.defBody (ht 31)), L2.defScope (ht 31), 3, [], .none, .none, .none, (.str x213 373), none, (.ref 183), .none, 0⟩), #[]⟩
def o185_4 (P : Params) : Obj := ⟨(.type "tuple"), none, (.seq #[] 0), #[]⟩
def o186_4 (P : Params) : Obj := ⟨.none, none, (.fields #[]), #[]⟩
def o187_4 (P : Params) : Obj := ⟨(.type "tuple"), none, (.seq #[(.str x215 506), (.str x216 507), (.str x228 508), (.str x224 509), (.str x225 510), (.str x226 511)] 0), #[]⟩
def o188_4 (P : Params) : Obj := ⟨(.type "tuple"), none, (.seq #[] 0), #[]⟩
def o189_4 (P : Params) : Obj := ⟨.none, none, (.func ⟨x241, x241, L2.defArgs (ht 32), .stmts (L2.defBody (ht 32)), L2.defScope (ht 32), 0, [], .none, .none, .none, .none, none, .none, .none, 0⟩), #[]⟩
def o190_4 (P : Params) : Obj := ⟨(.type "code"), none, (.fields #[(.str x241 503), (.str x241 504), (.str x164 505), (HD.i 157), (HD.i 5), (HD.i 0), (HD.i 0), (HD.i 3), (.ref 185), (.bool true), (HD.i 181), (.ref 186), .none, (.ref 187), (.ref 188), (.ref 189), (HD.i 512), (HD.i 157), (.str x164 513)]), #[]⟩
def o191_4 (P : Params) : Obj := ⟨(.type "function"), none, (.func ⟨x241, x241, L2.defArgs (ht 32), .stmts (L2.defBody (ht 32)), L2.defScope (ht 32), 3, [], .none, .none, .none, (.str x213 373), none, (.ref 190), .none, 0⟩), #[]⟩
def o192_4 (P : Params) : Obj := ⟨(.type "tuple"), none, (.seq #[] 0), #[]⟩
def o193_4 (P : Params) : Obj := ⟨.none, none, (.fields #[]), #[]⟩
def o194_4 (P : Params) : Obj := ⟨(.type "tuple"), none, (.seq #[(.str x243 518)] 0), #[]⟩
def o195_4 (P : Params) : Obj := ⟨(.type "tuple"), none, (.seq #[] 0), #[]⟩
def o196_4 (P : Params) : Obj := ⟨.none, none, (.func ⟨x242, x242, L2.defArgs (ht 33), .stmts (L2.defBody (ht 33)), L2.defScope (ht 33), 0, [], .none, .none, .none, .none, none, .none, .none, 0⟩), #[]⟩
def o197_4 (P : Params) : Obj := ⟨(.type "code"), none, (.fields #[(.str x242 515), (.str x242 516), (.str x164 517), (HD.i 164), (HD.i 1), (HD.i 0), (HD.i 0), (HD.i 3), (.ref 192), (.bool true), (HD.i 181), (.ref 193), .none, (.ref 194), (.ref 195), (.ref 196), (HD.i 519), (HD.i 164), (.str x164 520)]), #[]⟩
def o198_4 (P : Params) : Obj := ⟨(.type "function"), none, (.func ⟨x242, x242, L2.defArgs (ht 33), .stmts (L2.defBody (ht 33)), L2.defScope (ht 33), 3, [], .none, .none, .none, (.str x213 373), none, (.ref 197), .none, 0⟩), #[]⟩
def g4 : List Stmt := [ht 22, ht 23, ht 24, ht 25, ht 26, ht 27, ht 28, ht 29, ht 30, ht 31, ht 32, ht 33]
def T4 (P : Params) : BT := (((((((((((((((((((((((((((((((((((((((((((((((((((((((((((((((((((((((((((((((((((((T3 P).ins (nat_lit 3) (o3_4 P)).ins (nat_lit 12) (o12_4 P)).ins (nat_lit 117) (o117_4 P)).ins (nat_lit 118) (o118_4 P)).ins (nat_lit 119) (o119_4 P)).ins (nat_lit 120) (o120_4 P)).ins (nat_lit 121) (o121_4 P)).ins (nat_lit 122) (o122_4 P)).ins (nat_lit 123) (o123_4 P)).ins (nat_lit 124) (o124_4 P)).ins (nat_lit 125) (o125_4 P)).ins (nat_lit 126) (o126_4 P)).ins (nat_lit 127) (o127_4 P)).ins (nat_lit 128) (o128_4 P)).ins (nat_lit 129) (o129_4 P)).ins (nat_lit 130) (o130_4 P)).ins (nat_lit 131) (o131_4 P)).ins (nat_lit 132) (o132_4 P)).ins (nat_lit 133) (o133_4 P)).ins (nat_lit 134) (o134_4 P)).ins (nat_lit 135) (o135_4 P)).ins (nat_lit 136) (o136_4 P)).ins (nat_lit 137) (o137_4 P)).ins (nat_lit 138) (o138_4 P)).ins (nat_lit 139) (o139_4 P)).ins (nat_lit 140) (o140_4 P)).ins (nat_lit 141) (o141_4 P)).ins (nat_lit 142) (o142_4 P)).ins (nat_lit 143) (o143_4 P)).ins (nat_lit 144) (o144_4 P)).ins (nat_lit 145) (o145_4 P)).ins (nat_lit 146) (o146_4 P)).ins (nat_lit 147) (o147_4 P)).ins (nat_lit 148) (o148_4 P)).ins (nat_lit 149) (o149_4 P)).ins (nat_lit 150) (o150_4 P)).ins (nat_lit 151) (o151_4 P)).ins (nat_lit 152) (o152_4 P)).ins (nat_lit 153) (o153_4 P)).ins (nat_lit 154) (o154_4 P)).ins (nat_lit 155) (o155_4 P)).ins (nat_lit 156) (o156_4 P)).ins (nat_lit 157) (o157_4 P)).ins (nat_lit 158) (o158_4 P)).ins (nat_lit 159) (o159_4 P)).ins (nat_lit 160) (o160_4 P)).ins (nat_lit 161) (o161_4 P)).ins (nat_lit 162) (o162_4 P)).ins (nat_lit 163) (o163_4 P)).ins (nat_lit 164) (o164_4 P)).ins (nat_lit 165) (o165_4 P)).ins (nat_lit 166) (o166_4 P)).ins (nat_lit 167) (o167_4 P)).ins (nat_lit 168) (o168_4 P)).ins (nat_lit 169) (o169_4 P)).ins (nat_lit 170) (o170_4 P)).ins (nat_lit 171) (o171_4 P)).ins (nat_lit 172) (o172_4 P)).ins (nat_lit 173) (o173_4 P)).ins (nat_lit 174) (o174_4 P)).ins (nat_lit 175) (o175_4 P)).ins (nat_lit 176) (o176_4 P)).ins (nat_lit 177) (o177_4 P)).ins (nat_lit 178) (o178_4 P)).ins (nat_lit 179) (o179_4 P)).ins (nat_lit 180) (o180_4 P)).ins (nat_lit 181) (o181_4 P)).ins (nat_lit 182) (o182_4 P)).ins (nat_lit 183) (o183_4 P)).ins (nat_lit 184) (o184_4 P)).ins (nat_lit 185) (o185_4 P)).ins (nat_lit 186) (o186_4 P)).ins (nat_lit 187) (o187_4 P)).ins (nat_lit 188) (o188_4 P)).ins (nat_lit 189) (o189_4 P)).ins (nat_lit 190) (o190_4 P)).ins (nat_lit 191) (o191_4 P)).ins (nat_lit 192) (o192_4 P)).ins (nat_lit 193) (o193_4 P)).ins (nat_lit 194) (o194_4 P)).ins (nat_lit 195) (o195_4 P)).ins (nat_lit 196) (o196_4 P)).ins (nat_lit 197) (o197_4 P)).ins (nat_lit 198) (o198_4 P))
def lf4 : Life := ⟨[], [], [], 0, [], [], false, #[], [], 0, false, false, false, (.ofNat 0), [(.ofNat 2000), (.ofNat 10), (.ofNat 10)], false, 0, true, [], [], 0, false⟩
abbrev S4 (w : World) (os : OsState) : SharedT := ⟨T4 w.params, nat_lit 199, lf4, Array.mk [], ⟨0, 0, 0, 0⟩, nat_lit 522, os⟩
def q4 (w : World) : (OsState → Option (Flow × SharedT × Code × Pos)) × (OsState → Option (Flow × SharedT × Code × Pos)) := (fun os => segRunT treeTable pw w (nat_lit 11) (some (.ref 6)) (nat_lit 1) (nat_lit 399) (S3 w os) (piecesOf g4 hE hC ⟨66, 0, 73, 88⟩ hB), fun os => some (Flow.next, S4 w os, hC, ⟨164, 0, 167, 36⟩))
theorem q4_eq : HD.seg pw (nat_lit 11) (some (.ref 6)) (nat_lit 399) S3 S4 g4 hE hC ⟨66, 0, 73, 88⟩ ⟨164, 0, 167, 36⟩ hB = q4 := by kernel_rfl
name_quick YK224 for q4 by q4_eq
theorem i4 (w : World) : (Fast.YK224 w).1 = (Fast.YK224 w).2 := by kernel_rfl
theorem h4 : HD.Ok (HD.seg pw (nat_lit 11) (some (.ref 6)) (nat_lit 399) S3 S4 g4 hE hC ⟨66, 0, 73, 88⟩ ⟨164, 0, 167, 36⟩ hB) := HD.by1 Fast.YK224_eq i4
def o3_5 (P : Params) : Obj := ⟨(.type "dict"), none, (.dict #[⟨(PyData.keyHash P x0), (.str x0 165), (.str x213 373)⟩, ⟨(PyData.keyHash P x2), (.str x2 166), .none⟩, ⟨(PyData.keyHash P x3), (.str x3 167), .none⟩, ⟨(PyData.keyHash P x4), (.str x4 168), (.builtin "__main__.__loader__#opaque")⟩, ⟨(PyData.keyHash P x5), (.str x5 169), .none⟩, ⟨(PyData.keyHash P x161), (.str x161 170), (.ref 6)⟩, ⟨(PyData.keyHash P x162), (.str x162 171), (.ref 4)⟩, ⟨(PyData.keyHash P x163), (.str x163 173), (.str x164 172)⟩, ⟨(PyData.keyHash P x165), (.str x165 174), .none⟩, ⟨(PyData.keyHash P x168), (.str x168 190), (.int (.ofNat 600) 189)⟩, ⟨(PyData.keyHash P x169), (.str x169 192), (.int (.ofNat 40) 191)⟩, ⟨(PyData.keyHash P x170), (.str x170 194), (.int (.ofNat 99) 193)⟩, ⟨(PyData.keyHash P x171), (.str x171 196), (.int (.ofNat 12) 195)⟩, ⟨(PyData.keyHash P x172), (.str x172 198), (.str x173 197)⟩, ⟨(PyData.keyHash P x174), (.str x174 204), (.ref 15)⟩, ⟨(PyData.keyHash P x179), (.str x179 269), (.ref 16)⟩, ⟨(PyData.keyHash P x194), (.str x194 276), (.ref 42)⟩, ⟨(PyData.keyHash P x196), (.str x196 282), (.ref 47)⟩, ⟨(PyData.keyHash P x197), (.str x197 290), (.ref 54)⟩, ⟨(PyData.keyHash P x199), (.str x199 296), (.ref 59)⟩, ⟨(PyData.keyHash P x200), (.str x200 302), (.ref 64)⟩, ⟨(PyData.keyHash P x201), (.str x201 310), (.ref 71)⟩, ⟨(PyData.keyHash P x202), (.str x202 317), (.ref 78)⟩, ⟨(PyData.keyHash P x204), (.str x204 324), (.ref 85)⟩, ⟨(PyData.keyHash P x206), (.str x206 355), (.ref 86)⟩, ⟨(PyData.keyHash P x207), (.str x207 366), (.ref 104)⟩, ⟨(PyData.keyHash P x212), (.str x212 372), (.ref 109)⟩, ⟨(PyData.keyHash P x214), (.str x214 385), (.ref 116)⟩, ⟨(PyData.keyHash P x220), (.str x220 392), (.ref 123)⟩, ⟨(PyData.keyHash P x222), (.str x222 398), (.ref 128)⟩, ⟨(PyData.keyHash P x223), (.str x223 409), (.ref 135)⟩, ⟨(PyData.keyHash P x227), (.str x227 423), (.ref 142)⟩, ⟨(PyData.keyHash P x231), (.str x231 435), (.ref 149)⟩, ⟨(PyData.keyHash P x232), (.str x232 448), (.ref 156)⟩, ⟨(PyData.keyHash P x233), (.str x233 460), (.ref 163)⟩, ⟨(PyData.keyHash P x234), (.str x234 471), (.ref 170)⟩, ⟨(PyData.keyHash P x235), (.str x235 487), (.ref 177)⟩, ⟨(PyData.keyHash P x237), (.str x237 502), (.ref 184)⟩, ⟨(PyData.keyHash P x241), (.str x241 514), (.ref 191)⟩, ⟨(PyData.keyHash P x242), (.str x242 521), (.ref 198)⟩, ⟨(PyData.keyHash P x244), (.str x244 533), (.ref 205)⟩, ⟨(PyData.keyHash P x249), (.str x249 541), (.ref 212)⟩, ⟨(PyData.keyHash P x250), (.str x250 553), (.ref 219)⟩, ⟨(PyData.keyHash P x252), (.str x252 565), (.ref 226)⟩, ⟨(PyData.keyHash P x255), (.str x255 575), (.ref 233)⟩, ⟨(PyData.keyHash P x257), (.str x257 590), (.ref 240)⟩, ⟨(PyData.keyHash P x265), (.str x265 597), (.ref 247)⟩, ⟨(PyData.keyHash P x266), (.str x266 607), (.ref 254)⟩, ⟨(PyData.keyHash P x267), (.str x267 618), (.ref 261)⟩, ⟨(PyData.keyHash P x268), (.str x268 629), (.ref 268)⟩, ⟨(PyData.keyHash P x271), (.str x271 635), (.ref 273)⟩, ⟨(PyData.keyHash P x272), (.str x272 641), (.ref 278)⟩] 52), #[]⟩
def o12_5 (P : Params) : Obj := ⟨.none, none, (.fields #[(HD.i 9), (HD.i 0), (.ref 41), (HD.i 11), (HD.i 0), (.ref 46), (HD.i 15), (HD.i 0), (.ref 53), (HD.i 19), (HD.i 0), (.ref 58), (HD.i 30), (HD.i 0), (.ref 63), (HD.i 42), (HD.i 0), (.ref 70), (HD.i 44), (HD.i 0), (.ref 77), (HD.i 46), (HD.i 0), (.ref 84), (HD.i 52), (HD.i 0), (.ref 103), (HD.i 59), (HD.i 0), (.ref 108), (HD.i 66), (HD.i 0), (.ref 115), (HD.i 74), (HD.i 0), (.ref 122), (HD.i 80), (HD.i 0), (.ref 127), (HD.i 89), (HD.i 0), (.ref 134), (HD.i 100), (HD.i 0), (.ref 141), (HD.i 110), (HD.i 0), (.ref 148), (HD.i 113), (HD.i 0), (.ref 155), (HD.i 117), (HD.i 0), (.ref 162), (HD.i 120), (HD.i 0), (.ref 169), (HD.i 124), (HD.i 0), (.ref 176), (HD.i 136), (HD.i 0), (.ref 183), (HD.i 157), (HD.i 0), (.ref 190), (HD.i 164), (HD.i 0), (.ref 197), (HD.i 168), (HD.i 0), (.ref 204), (HD.i 180), (HD.i 0), (.ref 211), (HD.i 183), (HD.i 0), (.ref 218), (HD.i 191), (HD.i 0), (.ref 225), (HD.i 197), (HD.i 0), (.ref 232), (HD.i 207), (HD.i 0), (.ref 239), (HD.i 218), (HD.i 0), (.ref 246), (HD.i 224), (HD.i 0), (.ref 253), (HD.i 235), (HD.i 0), (.ref 260), (HD.i 244), (HD.i 0), (.ref 267), (HD.i 257), (HD.i 0), (.ref 272), (HD.i 259), (HD.i 0), (.ref 277)]), #[]⟩
def o199_5 (P : Params) : Obj := ⟨(.type "tuple"), none, (.seq #[] 0), #[]⟩
def o200_5 (P : Params) : Obj := ⟨.none, none, (.fields #[]), #[]⟩
def o201_5 (P : Params) : Obj := ⟨(.type "tuple"), none, (.seq #[(.str x243 525), (.str x245 526), (.str x228 527), (.str x246 528), (.str x247 529), (.str x248 530)] 0), #[]⟩
def o202_5 (P : Params) : Obj := ⟨(.type "tuple"), none, (.seq #[] 0), #[]⟩
def o203_5 (P : Params) : Obj := ⟨.none, none, (.func ⟨x244, x244, L2.defArgs (ht 34), .stmts (L2.defBody (ht 34)), L2.defScope (ht 34), 0, [], .none, .none, .none, .none, none, .none, .none, 0⟩), #[]⟩
def o204_5 (P : Params) : Obj := ⟨(.type "code"), none, (.fields #[(.str x244 522), (.str x244 523), (.str x164 524), (HD.i 168), (HD.i 1), (HD.i 0), (HD.i 0), (HD.i 3), (.ref 199), (.bool true), (HD.i 181), (.ref 200), .none, (.ref 201), (.ref 202), (.ref 203), (HD.i 531), (HD.i 168), (.str x164 532)]), #[]⟩
def o205_5 (P : Params) : Obj := ⟨(.type "function"), none, (.func ⟨x244, x244, L2.defArgs (ht 34), .stmts (L2.defBody (ht 34)), L2.defScope (ht 34), 3, [], .none, .none, .none, (.str x213 373), none, (.ref 204), .none, 0⟩), #[]⟩
def o206_5 (P : Params) : Obj := ⟨(.type "tuple"), none, (.seq #[] 0), #[]⟩
def o207_5 (P : Params) : Obj := ⟨.none, none, (.fields #[]), #[]⟩
def o208_5 (P : Params) : Obj := ⟨(.type "tuple"), none, (.seq #[(.str x243 537), (.str x248 538)] 0), #[]⟩
def o209_5 (P : Params) : Obj := ⟨(.type "tuple"), none, (.seq #[] 0), #[]⟩
def o210_5 (P : Params) : Obj := ⟨.none, none, (.func ⟨x249, x249, L2.defArgs (ht 35), .stmts (L2.defBody (ht 35)), L2.defScope (ht 35), 0, [], .none, .none, .none, .none, none, .none, .none, 0⟩), #[]⟩
def o211_5 (P : Params) : Obj := ⟨(.type "code"), none, (.fields #[(.str x249 534), (.str x249 535), (.str x164 536), (HD.i 180), (HD.i 1), (HD.i 0), (HD.i 0), (HD.i 3), (.ref 206), (.bool true), (HD.i 181), (.ref 207), .none, (.ref 208), (.ref 209), (.ref 210), (HD.i 539), (HD.i 180), (.str x164 540)]), #[]⟩
def o212_5 (P : Params) : Obj := ⟨(.type "function"), none, (.func ⟨x249, x249, L2.defArgs (ht 35), .stmts (L2.defBody (ht 35)), L2.defScope (ht 35), 3, [], .none, .none, .none, (.str x213 373), none, (.ref 211), .none, 0⟩), #[]⟩
def o213_5 (P : Params) : Obj := ⟨(.type "tuple"), none, (.seq #[] 0), #[]⟩
def o214_5 (P : Params) : Obj := ⟨.none, none, (.fields #[]), #[]⟩
def o215_5 (P : Params) : Obj := ⟨(.type "tuple"), none, (.seq #[(.str x215 545), (.str x216 546), (.str x228 547), (.str x224 548), (.str x225 549), (.str x251 550)] 0), #[]⟩
def o216_5 (P : Params) : Obj := ⟨(.type "tuple"), none, (.seq #[] 0), #[]⟩
def o217_5 (P : Params) : Obj := ⟨.none, none, (.func ⟨x250, x250, L2.defArgs (ht 36), .stmts (L2.defBody (ht 36)), L2.defScope (ht 36), 0, [], .none, .none, .none, .none, none, .none, .none, 0⟩), #[]⟩
def o218_5 (P : Params) : Obj := ⟨(.type "code"), none, (.fields #[(.str x250 542), (.str x250 543), (.str x164 544), (HD.i 183), (HD.i 5), (HD.i 0), (HD.i 0), (HD.i 3), (.ref 213), (.bool true), (HD.i 181), (.ref 214), .none, (.ref 215), (.ref 216), (.ref 217), (HD.i 551), (HD.i 183), (.str x164 552)]), #[]⟩
def o219_5 (P : Params) : Obj := ⟨(.type "function"), none, (.func ⟨x250, x250, L2.defArgs (ht 36), .stmts (L2.defBody (ht 36)), L2.defScope (ht 36), 3, [], .none, .none, .none, (.str x213 373), none, (.ref 218), .none, 0⟩), #[]⟩
def o220_5 (P : Params) : Obj := ⟨(.type "tuple"), none, (.seq #[] 0), #[]⟩
def o221_5 (P : Params) : Obj := ⟨.none, none, (.fields #[]), #[]⟩
def o222_5 (P : Params) : Obj := ⟨(.type "tuple"), none, (.seq #[(.str x215 557), (.str x216 558), (.str x225 559), (.str x253 560), (.str x254 561), (.str x230 562)] 0), #[]⟩
def o223_5 (P : Params) : Obj := ⟨(.type "tuple"), none, (.seq #[] 0), #[]⟩
def o224_5 (P : Params) : Obj := ⟨.none, none, (.func ⟨x252, x252, L2.defArgs (ht 37), .stmts (L2.defBody (ht 37)), L2.defScope (ht 37), 0, [], .none, .none, .none, .none, none, .none, .none, 0⟩), #[]⟩
def o225_5 (P : Params) : Obj := ⟨(.type "code"), none, (.fields #[(.str x252 554), (.str x252 555), (.str x164 556), (HD.i 191), (HD.i 3), (HD.i 0), (HD.i 0), (HD.i 3), (.ref 220), (.bool true), (HD.i 181), (.ref 221), .none, (.ref 222), (.ref 223), (.ref 224), (HD.i 563), (HD.i 191), (.str x164 564)]), #[]⟩
def o226_5 (P : Params) : Obj := ⟨(.type "function"), none, (.func ⟨x252, x252, L2.defArgs (ht 37), .stmts (L2.defBody (ht 37)), L2.defScope (ht 37), 3, [], .none, .none, .none, (.str x213 373), none, (.ref 225), .none, 0⟩), #[]⟩
def o227_5 (P : Params) : Obj := ⟨(.type "tuple"), none, (.seq #[] 0), #[]⟩
def o228_5 (P : Params) : Obj := ⟨.none, none, (.fields #[]), #[]⟩
def o229_5 (P : Params) : Obj := ⟨(.type "tuple"), none, (.seq #[(.str x243 569), (.str x253 570), (.str x221 571), (.str x256 572)] 0), #[]⟩
def o230_5 (P : Params) : Obj := ⟨(.type "tuple"), none, (.seq #[] 0), #[]⟩
def o231_5 (P : Params) : Obj := ⟨.none, none, (.func ⟨x255, x255, L2.defArgs (ht 38), .stmts (L2.defBody (ht 38)), L2.defScope (ht 38), 0, [], .none, .none, .none, .none, none, .none, .none, 0⟩), #[]⟩
def o232_5 (P : Params) : Obj := ⟨(.type "code"), none, (.fields #[(.str x255 566), (.str x255 567), (.str x164 568), (HD.i 197), (HD.i 2), (HD.i 0), (HD.i 0), (HD.i 3), (.ref 227), (.bool true), (HD.i 181), (.ref 228), .none, (.ref 229), (.ref 230), (.ref 231), (HD.i 573), (HD.i 197), (.str x164 574)]), #[]⟩
def o233_5 (P : Params) : Obj := ⟨(.type "function"), none, (.func ⟨x255, x255, L2.defArgs (ht 38), .stmts (L2.defBody (ht 38)), L2.defScope (ht 38), 3, [], .none, .none, .none, (.str x213 373), none, (.ref 232), .none, 0⟩), #[]⟩
def o234_5 (P : Params) : Obj := ⟨(.type "tuple"), none, (.seq #[] 0), #[]⟩
def o235_5 (P : Params) : Obj := ⟨.none, none, (.fields #[]), #[]⟩
def o236_5 (P : Params) : Obj := ⟨(.type "tuple"), none, (.seq #[(.str x243 579), (.str x253 580), (.str x258 581), (.str x259 582), (.str x260 583), (.str x261 584), (.str x262 585), (.str x263 586), (.str x264 587)] 0), #[]⟩
def o237_5 (P : Params) : Obj := ⟨(.type "tuple"), none, (.seq #[] 0), #[]⟩
def o238_5 (P : Params) : Obj := ⟨.none, none, (.func ⟨x257, x257, L2.defArgs (ht 39), .stmts (L2.defBody (ht 39)), L2.defScope (ht 39), 0, [], .none, .none, .none, .none, none, .none, .none, 0⟩), #[]⟩
def o239_5 (P : Params) : Obj := ⟨(.type "code"), none, (.fields #[(.str x257 576), (.str x257 577), (.str x164 578), (HD.i 207), (HD.i 2), (HD.i 0), (HD.i 0), (HD.i 3), (.ref 234), (.bool true), (HD.i 181), (.ref 235), .none, (.ref 236), (.ref 237), (.ref 238), (HD.i 588), (HD.i 207), (.str x164 589)]), #[]⟩
def o240_5 (P : Params) : Obj := ⟨(.type "function"), none, (.func ⟨x257, x257, L2.defArgs (ht 39), .stmts (L2.defBody (ht 39)), L2.defScope (ht 39), 3, [], .none, .none, .none, (.str x213 373), none, (.ref 239), .none, 0⟩), #[]⟩
def o241_5 (P : Params) : Obj := ⟨(.type "tuple"), none, (.seq #[] 0), #[]⟩
def o242_5 (P : Params) : Obj := ⟨.none, none, (.fields #[]), #[]⟩
def o243_5 (P : Params) : Obj := ⟨(.type "tuple"), none, (.seq #[(.str x217 594)] 0), #[]⟩
def o244_5 (P : Params) : Obj := ⟨(.type "tuple"), none, (.seq #[] 0), #[]⟩
def o245_5 (P : Params) : Obj := ⟨.none, none, (.func ⟨x265, x265, L2.defArgs (ht 40), .stmts (L2.defBody (ht 40)), L2.defScope (ht 40), 0, [], .none, .none, .none, .none, none, .none, .none, 0⟩), #[]⟩
def o246_5 (P : Params) : Obj := ⟨(.type "code"), none, (.fields #[(.str x265 591), (.str x265 592), (.str x164 593), (HD.i 218), (HD.i 1), (HD.i 0), (HD.i 0), (HD.i 3), (.ref 241), (.bool true), (HD.i 181), (.ref 242), .none, (.ref 243), (.ref 244), (.ref 245), (HD.i 595), (HD.i 218), (.str x164 596)]), #[]⟩
def o247_5 (P : Params) : Obj := ⟨(.type "function"), none, (.func ⟨x265, x265, L2.defArgs (ht 40), .stmts (L2.defBody (ht 40)), L2.defScope (ht 40), 3, [], .none, .none, .none, (.str x213 373), none, (.ref 246), .none, 0⟩), #[]⟩
def o248_5 (P : Params) : Obj := ⟨(.type "tuple"), none, (.seq #[] 0), #[]⟩
def o249_5 (P : Params) : Obj := ⟨.none, none, (.fields #[]), #[]⟩
def o250_5 (P : Params) : Obj := ⟨(.type "tuple"), none, (.seq #[(.str x215 601), (.str x216 602), (.str x243 603), (.str x226 604)] 0), #[]⟩
def o251_5 (P : Params) : Obj := ⟨(.type "tuple"), none, (.seq #[] 0), #[]⟩
def o252_5 (P : Params) : Obj := ⟨.none, none, (.func ⟨x266, x266, L2.defArgs (ht 41), .stmts (L2.defBody (ht 41)), L2.defScope (ht 41), 0, [], .none, .none, .none, .none, none, .none, .none, 0⟩), #[]⟩
def o253_5 (P : Params) : Obj := ⟨(.type "code"), none, (.fields #[(.str x266 598), (.str x266 599), (.str x164 600), (HD.i 224), (HD.i 3), (HD.i 0), (HD.i 0), (HD.i 3), (.ref 248), (.bool true), (HD.i 181), (.ref 249), .none, (.ref 250), (.ref 251), (.ref 252), (HD.i 605), (HD.i 224), (.str x164 606)]), #[]⟩
def o254_5 (P : Params) : Obj := ⟨(.type "function"), none, (.func ⟨x266, x266, L2.defArgs (ht 41), .stmts (L2.defBody (ht 41)), L2.defScope (ht 41), 3, [], .none, .none, .none, (.str x213 373), none, (.ref 253), .none, 0⟩), #[]⟩
def o255_5 (P : Params) : Obj := ⟨(.type "tuple"), none, (.seq #[] 0), #[]⟩
def o256_5 (P : Params) : Obj := ⟨.none, none, (.fields #[]), #[]⟩
def o257_5 (P : Params) : Obj := ⟨(.type "tuple"), none, (.seq #[(.str x215 611), (.str x216 612), (.str x243 613), (.str x217 614), (.str x254 615)] 0), #[]⟩
def o258_5 (P : Params) : Obj := ⟨(.type "tuple"), none, (.seq #[] 0), #[]⟩
def o259_5 (P : Params) : Obj := ⟨.none, none, (.func ⟨x267, x267, L2.defArgs (ht 42), .stmts (L2.defBody (ht 42)), L2.defScope (ht 42), 0, [], .none, .none, .none, .none, none, .none, .none, 0⟩), #[]⟩
def o260_5 (P : Params) : Obj := ⟨(.type "code"), none, (.fields #[(.str x267 608), (.str x267 609), (.str x164 610), (HD.i 235), (HD.i 3), (HD.i 0), (HD.i 0), (HD.i 3), (.ref 255), (.bool true), (HD.i 181), (.ref 256), .none, (.ref 257), (.ref 258), (.ref 259), (HD.i 616), (HD.i 235), (.str x164 617)]), #[]⟩
def o261_5 (P : Params) : Obj := ⟨(.type "function"), none, (.func ⟨x267, x267, L2.defArgs (ht 42), .stmts (L2.defBody (ht 42)), L2.defScope (ht 42), 3, [], .none, .none, .none, (.str x213 373), none, (.ref 260), .none, 0⟩), #[]⟩
def o262_5 (P : Params) : Obj := ⟨(.type "tuple"), none, (.seq #[] 0), #[]⟩
def o263_5 (P : Params) : Obj := ⟨.none, none, (.fields #[]), #[]⟩
def o264_5 (P : Params) : Obj := ⟨(.type "tuple"), none, (.seq #[(.str x258 622), (.str x269 623), (.str x254 624), (.str x270 625), (.str x264 626)] 0), #[]⟩
def o265_5 (P : Params) : Obj := ⟨(.type "tuple"), none, (.seq #[] 0), #[]⟩
def o266_5 (P : Params) : Obj := ⟨.none, none, (.func ⟨x268, x268, L2.defArgs (ht 43), .stmts (L2.defBody (ht 43)), L2.defScope (ht 43), 0, [], .none, .none, .none, .none, none, .none, .none, 0⟩), #[]⟩
def o267_5 (P : Params) : Obj := ⟨(.type "code"), none, (.fields #[(.str x268 619), (.str x268 620), (.str x164 621), (HD.i 244), (HD.i 2), (HD.i 0), (HD.i 0), (HD.i 3), (.ref 262), (.bool true), (HD.i 181), (.ref 263), .none, (.ref 264), (.ref 265), (.ref 266), (HD.i 627), (HD.i 244), (.str x164 628)]), #[]⟩
def o268_5 (P : Params) : Obj := ⟨(.type "function"), none, (.func ⟨x268, x268, L2.defArgs (ht 43), .stmts (L2.defBody (ht 43)), L2.defScope (ht 43), 3, [], .none, .none, .none, (.str x213 373), none, (.ref 267), .none, 0⟩), #[]⟩
def o269_5 (P : Params) : Obj := ⟨(.type "tuple"), none, (.seq #[] 0), #[]⟩
def o270_5 (P : Params) : Obj := ⟨.none, none, (.fields #[]), #[]⟩
def o271_5 (P : Params) : Obj := ⟨.none, none, (.func ⟨x271, x271, L2.defArgs (ht 44), .stmts (L2.defBody (ht 44)), L2.defScope (ht 44), 0, [], .none, .none, .none, .none, none, .none, .none, 0⟩), #[]⟩
def o272_5 (P : Params) : Obj := ⟨(.type "code"), none, (.fields #[(.str x271 630), (.str x271 631), (.str x164 632), (HD.i 257), (HD.i 2), (HD.i 0), (HD.i 0), (HD.i 3), (.ref 269), (.bool true), (HD.i 181), (.ref 270), .none, .none, .none, (.ref 271), (HD.i 633), (HD.i 257), (.str x164 634)]), #[]⟩
def o273_5 (P : Params) : Obj := ⟨(.type "function"), none, (.func ⟨x271, x271, L2.defArgs (ht 44), .stmts (L2.defBody (ht 44)), L2.defScope (ht 44), 3, [], .none, .none, .none, (.str x213 373), none, (.ref 272), .none, 0⟩), #[]⟩
def o274_5 (P : Params) : Obj := ⟨(.type "tuple"), none, (.seq #[] 0), #[]⟩
def o275_5 (P : Params) : Obj := ⟨.none, none, (.fields #[]), #[]⟩
def o276_5 (P : Params) : Obj := ⟨.none, none, (.func ⟨x272, x272, L2.defArgs (ht 45), .stmts (L2.defBody (ht 45)), L2.defScope (ht 45), 0, [], .none, .none, .none, .none, none, .none, .none, 0⟩), #[]⟩
def o277_5 (P : Params) : Obj := ⟨(.type "code"), none, (.fields #[(.str x272 636), (.str x272 637), (.str x164 638), (HD.i 259), (HD.i 1), (HD.i 0), (HD.i 0), (HD.i 3), (.ref 274), (.bool true), (HD.i 181), (.ref 275), .none, .none, .none, (.ref 276), (HD.i 639), (HD.i 259), (.str x164 640)]), #[]⟩
def o278_5 (P : Params) : Obj := ⟨(.type "function"), none, (.func ⟨x272, x272, L2.defArgs (ht 45), .stmts (L2.defBody (ht 45)), L2.defScope (ht 45), 3, [], .none, .none, .none, (.str x213 373), none, (.ref 277), .none, 0⟩), #[]⟩
def g5 : List Stmt := [ht 34, ht 35, ht 36, ht 37, ht 38, ht 39, ht 40, ht 41, ht 42, ht 43, ht 44, ht 45]
def T5 (P : Params) : BT := (((((((((((((((((((((((((((((((((((((((((((((((((((((((((((((((((((((((((((((((((((T4 P).ins (nat_lit 3) (o3_5 P)).ins (nat_lit 12) (o12_5 P)).ins (nat_lit 199) (o199_5 P)).ins (nat_lit 200) (o200_5 P)).ins (nat_lit 201) (o201_5 P)).ins (nat_lit 202) (o202_5 P)).ins (nat_lit 203) (o203_5 P)).ins (nat_lit 204) (o204_5 P)).ins (nat_lit 205) (o205_5 P)).ins (nat_lit 206) (o206_5 P)).ins (nat_lit 207) (o207_5 P)).ins (nat_lit 208) (o208_5 P)).ins (nat_lit 209) (o209_5 P)).ins (nat_lit 210) (o210_5 P)).ins (nat_lit 211) (o211_5 P)).ins (nat_lit 212) (o212_5 P)).ins (nat_lit 213) (o213_5 P)).ins (nat_lit 214) (o214_5 P)).ins (nat_lit 215) (o215_5 P)).ins (nat_lit 216) (o216_5 P)).ins (nat_lit 217) (o217_5 P)).ins (nat_lit 218) (o218_5 P)).ins (nat_lit 219) (o219_5 P)).ins (nat_lit 220) (o220_5 P)).ins (nat_lit 221) (o221_5 P)).ins (nat_lit 222) (o222_5 P)).ins (nat_lit 223) (o223_5 P)).ins (nat_lit 224) (o224_5 P)).ins (nat_lit 225) (o225_5 P)).ins (nat_lit 226) (o226_5 P)).ins (nat_lit 227) (o227_5 P)).ins (nat_lit 228) (o228_5 P)).ins (nat_lit 229) (o229_5 P)).ins (nat_lit 230) (o230_5 P)).ins (nat_lit 231) (o231_5 P)).ins (nat_lit 232) (o232_5 P)).ins (nat_lit 233) (o233_5 P)).ins (nat_lit 234) (o234_5 P)).ins (nat_lit 235) (o235_5 P)).ins (nat_lit 236) (o236_5 P)).ins (nat_lit 237) (o237_5 P)).ins (nat_lit 238) (o238_5 P)).ins (nat_lit 239) (o239_5 P)).ins (nat_lit 240) (o240_5 P)).ins (nat_lit 241) (o241_5 P)).ins (nat_lit 242) (o242_5 P)).ins (nat_lit 243) (o243_5 P)).ins (nat_lit 244) (o244_5 P)).ins (nat_lit 245) (o245_5 P)).ins (nat_lit 246) (o246_5 P)).ins (nat_lit 247) (o247_5 P)).ins (nat_lit 248) (o248_5 P)).ins (nat_lit 249) (o249_5 P)).ins (nat_lit 250) (o250_5 P)).ins (nat_lit 251) (o251_5 P)).ins (nat_lit 252) (o252_5 P)).ins (nat_lit 253) (o253_5 P)).ins (nat_lit 254) (o254_5 P)).ins (nat_lit 255) (o255_5 P)).ins (nat_lit 256) (o256_5 P)).ins (nat_lit 257) (o257_5 P)).ins (nat_lit 258) (o258_5 P)).ins (nat_lit 259) (o259_5 P)).ins (nat_lit 260) (o260_5 P)).ins (nat_lit 261) (o261_5 P)).ins (nat_lit 262) (o262_5 P)).ins (nat_lit 263) (o263_5 P)).ins (nat_lit 264) (o264_5 P)).ins (nat_lit 265) (o265_5 P)).ins (nat_lit 266) (o266_5 P)).ins (nat_lit 267) (o267_5 P)).ins (nat_lit 268) (o268_5 P)).ins (nat_lit 269) (o269_5 P)).ins (nat_lit 270) (o270_5 P)).ins (nat_lit 271) (o271_5 P)).ins (nat_lit 272) (o272_5 P)).ins (nat_lit 273) (o273_5 P)).ins (nat_lit 274) (o274_5 P)).ins (nat_lit 275) (o275_5 P)).ins (nat_lit 276) (o276_5 P)).ins (nat_lit 277) (o277_5 P)).ins (nat_lit 278) (o278_5 P))
def lf5 : Life := ⟨[], [], [], 0, [], [], false, #[], [], 0, false, false, false, (.ofNat 0), [(.ofNat 2000), (.ofNat 10), (.ofNat 10)], false, 0, true, [], [], 0, false⟩
abbrev S5 (w : World) (os : OsState) : SharedT := ⟨T5 w.params, nat_lit 279, lf5, Array.mk [], ⟨0, 0, 0, 0⟩, nat_lit 642, os⟩
def q5 (w : World) : (OsState → Option (Flow × SharedT × Code × Pos)) × (OsState → Option (Flow × SharedT × Code × Pos)) := (fun os => segRunT treeTable pw w (nat_lit 11) (some (.ref 6)) (nat_lit 1) (nat_lit 381) (S4 w os) (piecesOf g5 hE hC ⟨164, 0, 167, 36⟩ hB), fun os => some (Flow.next, S5 w os, hC, ⟨259, 0, 281, 75⟩))
theorem q5_eq : HD.seg pw (nat_lit 11) (some (.ref 6)) (nat_lit 381) S4 S5 g5 hE hC ⟨164, 0, 167, 36⟩ ⟨259, 0, 281, 75⟩ hB = q5 := by kernel_rfl
name_quick YK225 for q5 by q5_eq
theorem i5 (w : World) : (Fast.YK225 w).1 = (Fast.YK225 w).2 := by kernel_rfl
theorem h5 : HD.Ok (HD.seg pw (nat_lit 11) (some (.ref 6)) (nat_lit 381) S4 S5 g5 hE hC ⟨164, 0, 167, 36⟩ ⟨259, 0, 281, 75⟩ hB) := HD.by1 Fast.YK225_eq i5
def Hf_0 (P : Params) (r : List (Obj)) : List (Obj) := PySem.W.boot_o_0 P :: PySem.W.boot_o_1 P :: PySem.W.boot_o_2 P :: o3_5 P :: PySem.W.boot_o_4 P :: PySem.W.boot_o_5 P :: PySem.W.boot_o_6 P :: PySem.W.boot_o_7 P :: PySem.W.boot_o_8 P :: PySem.W.boot_o_9 P :: PySem.W.boot_o_10 P :: o11_a P :: r
def Hf_1 (P : Params) (r : List (Obj)) : List (Obj) := o12_5 P :: o13_a P :: o14_a P :: o15_1 P :: o16_2 P :: o17_2 P :: o18_2 P :: o19_2 P :: o20_2 P :: o21_2 P :: o22_2 P :: o23_2 P :: r
def Hf_2 (P : Params) (r : List (Obj)) : List (Obj) := o24_2 P :: o25_2 P :: o26_2 P :: o27_2 P :: o28_2 P :: o29_2 P :: o30_2 P :: o31_2 P :: o32_2 P :: o33_2 P :: o34_2 P :: o35_2 P :: r
def Hf_3 (P : Params) (r : List (Obj)) : List (Obj) := o36_2 P :: o37_2 P :: o38_2 P :: o39_2 P :: o40_2 P :: o41_2 P :: o42_2 P :: o43_2 P :: o44_2 P :: o45_2 P :: o46_2 P :: o47_2 P :: r
def Hf_4 (P : Params) (r : List (Obj)) : List (Obj) := o48_3 P :: o49_3 P :: o50_3 P :: o51_3 P :: o52_3 P :: o53_3 P :: o54_3 P :: o55_3 P :: o56_3 P :: o57_3 P :: o58_3 P :: o59_3 P :: r
def Hf_5 (P : Params) (r : List (Obj)) : List (Obj) := o60_3 P :: o61_3 P :: o62_3 P :: o63_3 P :: o64_3 P :: o65_3 P :: o66_3 P :: o67_3 P :: o68_3 P :: o69_3 P :: o70_3 P :: o71_3 P :: r
def Hf_6 (P : Params) (r : List (Obj)) : List (Obj) := o72_3 P :: o73_3 P :: o74_3 P :: o75_3 P :: o76_3 P :: o77_3 P :: o78_3 P :: o79_3 P :: o80_3 P :: o81_3 P :: o82_3 P :: o83_3 P :: r
def Hf_7 (P : Params) (r : List (Obj)) : List (Obj) := o84_3 P :: o85_3 P :: o86_3 P :: o87_3 P :: o88_3 P :: o89_3 P :: o90_3 P :: o91_3 P :: o92_3 P :: o93_3 P :: o94_3 P :: o95_3 P :: r
def Hf_8 (P : Params) (r : List (Obj)) : List (Obj) := o96_3 P :: o97_3 P :: o98_3 P :: o99_3 P :: o100_3 P :: o101_3 P :: o102_3 P :: o103_3 P :: o104_3 P :: o105_3 P :: o106_3 P :: o107_3 P :: r
def Hf_9 (P : Params) (r : List (Obj)) : List (Obj) := o108_3 P :: o109_3 P :: o110_3 P :: o111_3 P :: o112_3 P :: o113_3 P :: o114_3 P :: o115_3 P :: o116_3 P :: o117_4 P :: o118_4 P :: o119_4 P :: r
def Hf_10 (P : Params) (r : List (Obj)) : List (Obj) := o120_4 P :: o121_4 P :: o122_4 P :: o123_4 P :: o124_4 P :: o125_4 P :: o126_4 P :: o127_4 P :: o128_4 P :: o129_4 P :: o130_4 P :: o131_4 P :: r
def Hf_11 (P : Params) (r : List (Obj)) : List (Obj) := o132_4 P :: o133_4 P :: o134_4 P :: o135_4 P :: o136_4 P :: o137_4 P :: o138_4 P :: o139_4 P :: o140_4 P :: o141_4 P :: o142_4 P :: o143_4 P :: r
def Hf_12 (P : Params) (r : List (Obj)) : List (Obj) := o144_4 P :: o145_4 P :: o146_4 P :: o147_4 P :: o148_4 P :: o149_4 P :: o150_4 P :: o151_4 P :: o152_4 P :: o153_4 P :: o154_4 P :: o155_4 P :: r
def Hf_13 (P : Params) (r : List (Obj)) : List (Obj) := o156_4 P :: o157_4 P :: o158_4 P :: o159_4 P :: o160_4 P :: o161_4 P :: o162_4 P :: o163_4 P :: o164_4 P :: o165_4 P :: o166_4 P :: o167_4 P :: r
def Hf_14 (P : Params) (r : List (Obj)) : List (Obj) := o168_4 P :: o169_4 P :: o170_4 P :: o171_4 P :: o172_4 P :: o173_4 P :: o174_4 P :: o175_4 P :: o176_4 P :: o177_4 P :: o178_4 P :: o179_4 P :: r
def Hf_15 (P : Params) (r : List (Obj)) : List (Obj) := o180_4 P :: o181_4 P :: o182_4 P :: o183_4 P :: o184_4 P :: o185_4 P :: o186_4 P :: o187_4 P :: o188_4 P :: o189_4 P :: o190_4 P :: o191_4 P :: r
def Hf_16 (P : Params) (r : List (Obj)) : List (Obj) := o192_4 P :: o193_4 P :: o194_4 P :: o195_4 P :: o196_4 P :: o197_4 P :: o198_4 P :: o199_5 P :: o200_5 P :: o201_5 P :: o202_5 P :: o203_5 P :: r
def Hf_17 (P : Params) (r : List (Obj)) : List (Obj) := o204_5 P :: o205_5 P :: o206_5 P :: o207_5 P :: o208_5 P :: o209_5 P :: o210_5 P :: o211_5 P :: o212_5 P :: o213_5 P :: o214_5 P :: o215_5 P :: r
def Hf_18 (P : Params) (r : List (Obj)) : List (Obj) := o216_5 P :: o217_5 P :: o218_5 P :: o219_5 P :: o220_5 P :: o221_5 P :: o222_5 P :: o223_5 P :: o224_5 P :: o225_5 P :: o226_5 P :: o227_5 P :: r
def Hf_19 (P : Params) (r : List (Obj)) : List (Obj) := o228_5 P :: o229_5 P :: o230_5 P :: o231_5 P :: o232_5 P :: o233_5 P :: o234_5 P :: o235_5 P :: o236_5 P :: o237_5 P :: o238_5 P :: o239_5 P :: r
def Hf_20 (P : Params) (r : List (Obj)) : List (Obj) := o240_5 P :: o241_5 P :: o242_5 P :: o243_5 P :: o244_5 P :: o245_5 P :: o246_5 P :: o247_5 P :: o248_5 P :: o249_5 P :: o250_5 P :: o251_5 P :: r
def Hf_21 (P : Params) (r : List (Obj)) : List (Obj) := o252_5 P :: o253_5 P :: o254_5 P :: o255_5 P :: o256_5 P :: o257_5 P :: o258_5 P :: o259_5 P :: o260_5 P :: o261_5 P :: o262_5 P :: o263_5 P :: r
def Hf_22 (P : Params) (r : List (Obj)) : List (Obj) := o264_5 P :: o265_5 P :: o266_5 P :: o267_5 P :: o268_5 P :: o269_5 P :: o270_5 P :: o271_5 P :: o272_5 P :: o273_5 P :: o274_5 P :: o275_5 P :: r
def Hf_23 (P : Params) (r : List (Obj)) : List (Obj) := o276_5 P :: o277_5 P :: o278_5 P :: r
def Hf (P : Params) : Heap := ⟨Array.mk (Hf_0 P (Hf_1 P (Hf_2 P (Hf_3 P (Hf_4 P (Hf_5 P (Hf_6 P (Hf_7 P (Hf_8 P (Hf_9 P (Hf_10 P (Hf_11 P (Hf_12 P (Hf_13 P (Hf_14 P (Hf_15 P (Hf_16 P (Hf_17 P (Hf_18 P (Hf_19 P (Hf_20 P (Hf_21 P (Hf_22 P (Hf_23 P [])))))))))))))))))))))))), ⟨[], [], [], 0, [], [], false, #[], [], 0, false, false, false, (.ofNat 0), [(.ofNat 2000), (.ofNat 10), (.ofNat 10)], false, 0, true, [], [], 0, false⟩⟩
def df : Drawn := ⟨0, 0, 0, 0⟩
def kf : Nat := nat_lit 642
abbrev Sf : World → OsState → Shared := HD.mkS Hf df kf
def qz (w : World) : (OsState → Option Shared) × (OsState → Option Shared) := (fun os => topRun treeTable pw w (nat_lit 11) (some (.ref 6)) (nat_lit 2) (S5 w os).abs (Thread.mk (doneF Flow.next) hC ⟨259, 0, 281, 75⟩ hB), fun os => some (Sf w os))
theorem qz_eq : HD.fin pw (nat_lit 11) (some (.ref 6)) (nat_lit 2) S5 Sf (Thread.mk (doneF Flow.next) hC ⟨259, 0, 281, 75⟩ hB) = qz := by kernel_rfl
name_quick YK22z for qz by qz_eq
theorem iz (w : World) : (Fast.YK22z w).1 = (Fast.YK22z w).2 := by kernel_rfl
theorem hz : HD.Ok (HD.fin pw (nat_lit 11) (some (.ref 6)) (nat_lit 2) S5 Sf (Thread.mk (doneF Flow.next) hC ⟨259, 0, 281, 75⟩ hB)) := HD.by1 Fast.YK22z_eq iz
theorem hsp : behindTheImports pw = (g1 ++ (g2 ++ (g3 ++ (g4 ++ (g5 ++ ([] : List Stmt)))))) := by kernel_rfl
theorem hrun : HD.Goes pw (nat_lit 11) (some (.ref 6)) Sf (nat_lit 12 + (nat_lit 1 + (nat_lit 70 + (nat_lit 395 + (nat_lit 401 + (nat_lit 399 + (nat_lit 381 + (nat_lit 2)))))))) S0 (topStub pw) := HD.g_pre ha (HD.g_blk hsp hb (HD.g_seg h1 (HD.g_seg h2 (HD.g_seg h3 (HD.g_seg h4 (HD.g_seg h5 (HD.g_fin (env := hE) hz)))))))
def hq : Program := HD.view pw [ht 1, ht 2, ht 3, ht 4, ht 5, ht 6, ht 7, ht 8, ht 9, ht 10, ht 11, ht 12, ht 13, ht 14, ht 15, ht 17, ht 18, ht 19, ht 21, ht 22, ht 23, ht 24, ht 25, ht 26, ht 27, ht 28, ht 29, ht 30, ht 31, ht 32, ht 33, ht 34, ht 35, ht 36, ht 37, ht 38, ht 39, ht 40, ht 41, ht 42, ht 43, ht 44, ht 45]
def hl : List Str := [PySem.Str.ofString "KIDS_DUE", PySem.Str.ofString "RULES"]
def hK_0 (P : Params) (r : List (Addr × Obj)) : List (Addr × Obj) := (nat_lit 2, PySem.W.boot_o_2 P) :: (nat_lit 3, o3_5 P) :: (nat_lit 15, o15_1 P) :: (nat_lit 16, o16_2 P) :: (nat_lit 17, o17_2 P) :: (nat_lit 18, o18_2 P) :: (nat_lit 19, o19_2 P) :: (nat_lit 20, o20_2 P) :: (nat_lit 21, o21_2 P) :: (nat_lit 22, o22_2 P) :: (nat_lit 23, o23_2 P) :: (nat_lit 24, o24_2 P) :: r
def hK_1 (P : Params) (r : List (Addr × Obj)) : List (Addr × Obj) := (nat_lit 25, o25_2 P) :: (nat_lit 26, o26_2 P) :: (nat_lit 27, o27_2 P) :: (nat_lit 28, o28_2 P) :: (nat_lit 29, o29_2 P) :: (nat_lit 30, o30_2 P) :: (nat_lit 31, o31_2 P) :: (nat_lit 32, o32_2 P) :: (nat_lit 33, o33_2 P) :: (nat_lit 35, o35_2 P) :: (nat_lit 36, o36_2 P) :: (nat_lit 38, o38_2 P) :: r
def hK_2 (P : Params) (r : List (Addr × Obj)) : List (Addr × Obj) := (nat_lit 39, o39_2 P) :: (nat_lit 41, o41_2 P) :: (nat_lit 42, o42_2 P) :: (nat_lit 43, o43_2 P) :: (nat_lit 46, o46_2 P) :: (nat_lit 47, o47_2 P) :: (nat_lit 48, o48_3 P) :: (nat_lit 50, o50_3 P) :: (nat_lit 51, o51_3 P) :: (nat_lit 53, o53_3 P) :: (nat_lit 54, o54_3 P) :: (nat_lit 55, o55_3 P) :: r
def hK_3 (P : Params) (r : List (Addr × Obj)) : List (Addr × Obj) := (nat_lit 58, o58_3 P) :: (nat_lit 59, o59_3 P) :: (nat_lit 60, o60_3 P) :: (nat_lit 63, o63_3 P) :: (nat_lit 64, o64_3 P) :: (nat_lit 65, o65_3 P) :: (nat_lit 67, o67_3 P) :: (nat_lit 68, o68_3 P) :: (nat_lit 70, o70_3 P) :: (nat_lit 71, o71_3 P) :: (nat_lit 72, o72_3 P) :: (nat_lit 74, o74_3 P) :: r
def hK_4 (P : Params) (r : List (Addr × Obj)) : List (Addr × Obj) := (nat_lit 75, o75_3 P) :: (nat_lit 77, o77_3 P) :: (nat_lit 78, o78_3 P) :: (nat_lit 79, o79_3 P) :: (nat_lit 81, o81_3 P) :: (nat_lit 82, o82_3 P) :: (nat_lit 84, o84_3 P) :: (nat_lit 85, o85_3 P) :: (nat_lit 86, o86_3 P) :: (nat_lit 87, o87_3 P) :: (nat_lit 88, o88_3 P) :: (nat_lit 89, o89_3 P) :: r
def hK_5 (P : Params) (r : List (Addr × Obj)) : List (Addr × Obj) := (nat_lit 90, o90_3 P) :: (nat_lit 91, o91_3 P) :: (nat_lit 92, o92_3 P) :: (nat_lit 93, o93_3 P) :: (nat_lit 94, o94_3 P) :: (nat_lit 95, o95_3 P) :: (nat_lit 96, o96_3 P) :: (nat_lit 97, o97_3 P) :: (nat_lit 98, o98_3 P) :: (nat_lit 100, o100_3 P) :: (nat_lit 101, o101_3 P) :: (nat_lit 103, o103_3 P) :: r
def hK_6 (P : Params) (r : List (Addr × Obj)) : List (Addr × Obj) := (nat_lit 104, o104_3 P) :: (nat_lit 105, o105_3 P) :: (nat_lit 108, o108_3 P) :: (nat_lit 109, o109_3 P) :: (nat_lit 110, o110_3 P) :: (nat_lit 112, o112_3 P) :: (nat_lit 113, o113_3 P) :: (nat_lit 115, o115_3 P) :: (nat_lit 116, o116_3 P) :: (nat_lit 117, o117_4 P) :: (nat_lit 119, o119_4 P) :: (nat_lit 120, o120_4 P) :: r
def hK_7 (P : Params) (r : List (Addr × Obj)) : List (Addr × Obj) := (nat_lit 122, o122_4 P) :: (nat_lit 123, o123_4 P) :: (nat_lit 124, o124_4 P) :: (nat_lit 127, o127_4 P) :: (nat_lit 128, o128_4 P) :: (nat_lit 129, o129_4 P) :: (nat_lit 131, o131_4 P) :: (nat_lit 132, o132_4 P) :: (nat_lit 134, o134_4 P) :: (nat_lit 135, o135_4 P) :: (nat_lit 136, o136_4 P) :: (nat_lit 138, o138_4 P) :: r
def hK_8 (P : Params) (r : List (Addr × Obj)) : List (Addr × Obj) := (nat_lit 139, o139_4 P) :: (nat_lit 141, o141_4 P) :: (nat_lit 142, o142_4 P) :: (nat_lit 143, o143_4 P) :: (nat_lit 145, o145_4 P) :: (nat_lit 146, o146_4 P) :: (nat_lit 148, o148_4 P) :: (nat_lit 149, o149_4 P) :: (nat_lit 150, o150_4 P) :: (nat_lit 152, o152_4 P) :: (nat_lit 153, o153_4 P) :: (nat_lit 155, o155_4 P) :: r
def hK_9 (P : Params) (r : List (Addr × Obj)) : List (Addr × Obj) := (nat_lit 156, o156_4 P) :: (nat_lit 157, o157_4 P) :: (nat_lit 159, o159_4 P) :: (nat_lit 160, o160_4 P) :: (nat_lit 162, o162_4 P) :: (nat_lit 163, o163_4 P) :: (nat_lit 164, o164_4 P) :: (nat_lit 166, o166_4 P) :: (nat_lit 167, o167_4 P) :: (nat_lit 169, o169_4 P) :: (nat_lit 170, o170_4 P) :: (nat_lit 171, o171_4 P) :: r
def hK_10 (P : Params) (r : List (Addr × Obj)) : List (Addr × Obj) := (nat_lit 173, o173_4 P) :: (nat_lit 174, o174_4 P) :: (nat_lit 176, o176_4 P) :: (nat_lit 177, o177_4 P) :: (nat_lit 178, o178_4 P) :: (nat_lit 180, o180_4 P) :: (nat_lit 181, o181_4 P) :: (nat_lit 183, o183_4 P) :: (nat_lit 184, o184_4 P) :: (nat_lit 185, o185_4 P) :: (nat_lit 187, o187_4 P) :: (nat_lit 188, o188_4 P) :: r
def hK_11 (P : Params) (r : List (Addr × Obj)) : List (Addr × Obj) := (nat_lit 190, o190_4 P) :: (nat_lit 191, o191_4 P) :: (nat_lit 192, o192_4 P) :: (nat_lit 194, o194_4 P) :: (nat_lit 195, o195_4 P) :: (nat_lit 197, o197_4 P) :: (nat_lit 198, o198_4 P) :: (nat_lit 199, o199_5 P) :: (nat_lit 201, o201_5 P) :: (nat_lit 202, o202_5 P) :: (nat_lit 204, o204_5 P) :: (nat_lit 205, o205_5 P) :: r
def hK_12 (P : Params) (r : List (Addr × Obj)) : List (Addr × Obj) := (nat_lit 206, o206_5 P) :: (nat_lit 208, o208_5 P) :: (nat_lit 209, o209_5 P) :: (nat_lit 211, o211_5 P) :: (nat_lit 212, o212_5 P) :: (nat_lit 213, o213_5 P) :: (nat_lit 215, o215_5 P) :: (nat_lit 216, o216_5 P) :: (nat_lit 218, o218_5 P) :: (nat_lit 219, o219_5 P) :: (nat_lit 220, o220_5 P) :: (nat_lit 222, o222_5 P) :: r
def hK_13 (P : Params) (r : List (Addr × Obj)) : List (Addr × Obj) := (nat_lit 223, o223_5 P) :: (nat_lit 225, o225_5 P) :: (nat_lit 226, o226_5 P) :: (nat_lit 227, o227_5 P) :: (nat_lit 229, o229_5 P) :: (nat_lit 230, o230_5 P) :: (nat_lit 232, o232_5 P) :: (nat_lit 233, o233_5 P) :: (nat_lit 234, o234_5 P) :: (nat_lit 236, o236_5 P) :: (nat_lit 237, o237_5 P) :: (nat_lit 239, o239_5 P) :: r
def hK_14 (P : Params) (r : List (Addr × Obj)) : List (Addr × Obj) := (nat_lit 240, o240_5 P) :: (nat_lit 241, o241_5 P) :: (nat_lit 243, o243_5 P) :: (nat_lit 244, o244_5 P) :: (nat_lit 246, o246_5 P) :: (nat_lit 247, o247_5 P) :: (nat_lit 248, o248_5 P) :: (nat_lit 250, o250_5 P) :: (nat_lit 251, o251_5 P) :: (nat_lit 253, o253_5 P) :: (nat_lit 254, o254_5 P) :: (nat_lit 255, o255_5 P) :: r
def hK_15 (P : Params) (r : List (Addr × Obj)) : List (Addr × Obj) := (nat_lit 257, o257_5 P) :: (nat_lit 258, o258_5 P) :: (nat_lit 260, o260_5 P) :: (nat_lit 261, o261_5 P) :: (nat_lit 262, o262_5 P) :: (nat_lit 264, o264_5 P) :: (nat_lit 265, o265_5 P) :: (nat_lit 267, o267_5 P) :: (nat_lit 268, o268_5 P) :: (nat_lit 269, o269_5 P) :: (nat_lit 272, o272_5 P) :: (nat_lit 273, o273_5 P) :: r
def hK_16 (P : Params) (r : List (Addr × Obj)) : List (Addr × Obj) := (nat_lit 274, o274_5 P) :: (nat_lit 277, o277_5 P) :: (nat_lit 278, o278_5 P) :: r
def hK0 (P : Params) : List (Addr × Obj) := (hK_0 P (hK_1 P (hK_2 P (hK_3 P (hK_4 P (hK_5 P (hK_6 P (hK_7 P (hK_8 P (hK_9 P (hK_10 P (hK_11 P (hK_12 P (hK_13 P (hK_14 P (hK_15 P (hK_16 P [])))))))))))))))))
def hK (P : Params) : Frag := (nat_lit 2, PySem.W.boot_o_2 P) :: (nat_lit 3, o3_5 P) :: (nat_lit 15, o15_1 P) :: (nat_lit 16, o16_2 P) :: (nat_lit 17, o17_2 P) :: (nat_lit 18, o18_2 P) :: (nat_lit 19, o19_2 P) :: (nat_lit 20, o20_2 P) :: (nat_lit 21, o21_2 P) :: (nat_lit 22, o22_2 P) :: (nat_lit 23, o23_2 P) :: (nat_lit 24, o24_2 P) :: (nat_lit 25, o25_2 P) :: (nat_lit 26, o26_2 P) :: (nat_lit 27, o27_2 P) :: (nat_lit 28, o28_2 P) :: (nat_lit 29, o29_2 P) :: (nat_lit 30, o30_2 P) :: (nat_lit 31, o31_2 P) :: (nat_lit 32, o32_2 P) :: (nat_lit 33, o33_2 P) :: (nat_lit 35, o35_2 P) :: (nat_lit 36, o36_2 P) :: (nat_lit 38, o38_2 P) :: (nat_lit 39, o39_2 P) :: (nat_lit 41, o41_2 P) :: (nat_lit 42, o42_2 P) :: (nat_lit 43, o43_2 P) :: (nat_lit 46, o46_2 P) :: (nat_lit 47, o47_2 P) :: (nat_lit 48, o48_3 P) :: (nat_lit 50, o50_3 P) :: (nat_lit 51, o51_3 P) :: (nat_lit 53, o53_3 P) :: (nat_lit 54, o54_3 P) :: (nat_lit 55, o55_3 P) :: (nat_lit 58, o58_3 P) :: (nat_lit 59, o59_3 P) :: (nat_lit 60, o60_3 P) :: (nat_lit 63, o63_3 P) :: (nat_lit 64, o64_3 P) :: (nat_lit 65, o65_3 P) :: (nat_lit 67, o67_3 P) :: (nat_lit 68, o68_3 P) :: (nat_lit 70, o70_3 P) :: (nat_lit 71, o71_3 P) :: (nat_lit 72, o72_3 P) :: (nat_lit 74, o74_3 P) :: (nat_lit 75, o75_3 P) :: (nat_lit 77, o77_3 P) :: (nat_lit 78, o78_3 P) :: (nat_lit 79, o79_3 P) :: (nat_lit 81, o81_3 P) :: (nat_lit 82, o82_3 P) :: (nat_lit 84, o84_3 P) :: (nat_lit 85, o85_3 P) :: (nat_lit 86, o86_3 P) :: (nat_lit 87, o87_3 P) :: (nat_lit 88, o88_3 P) :: (nat_lit 89, o89_3 P) :: (nat_lit 90, o90_3 P) :: (nat_lit 91, o91_3 P) :: (nat_lit 92, o92_3 P) :: (nat_lit 93, o93_3 P) :: (nat_lit 94, o94_3 P) :: (nat_lit 95, o95_3 P) :: (nat_lit 96, o96_3 P) :: (nat_lit 97, o97_3 P) :: (nat_lit 98, o98_3 P) :: (nat_lit 100, o100_3 P) :: (nat_lit 101, o101_3 P) :: (nat_lit 103, o103_3 P) :: (nat_lit 104, o104_3 P) :: (nat_lit 105, o105_3 P) :: (nat_lit 108, o108_3 P) :: (nat_lit 109, o109_3 P) :: (nat_lit 110, o110_3 P) :: (nat_lit 112, o112_3 P) :: (nat_lit 113, o113_3 P) :: (nat_lit 115, o115_3 P) :: (nat_lit 116, o116_3 P) :: (nat_lit 117, o117_4 P) :: (nat_lit 119, o119_4 P) :: (nat_lit 120, o120_4 P) :: (nat_lit 122, o122_4 P) :: (nat_lit 123, o123_4 P) :: (nat_lit 124, o124_4 P) :: (nat_lit 127, o127_4 P) :: (nat_lit 128, o128_4 P) :: (nat_lit 129, o129_4 P) :: (nat_lit 131, o131_4 P) :: (nat_lit 132, o132_4 P) :: (nat_lit 134, o134_4 P) :: (nat_lit 135, o135_4 P) :: (nat_lit 136, o136_4 P) :: (nat_lit 138, o138_4 P) :: (nat_lit 139, o139_4 P) :: (nat_lit 141, o141_4 P) :: (nat_lit 142, o142_4 P) :: (nat_lit 143, o143_4 P) :: (nat_lit 145, o145_4 P) :: (nat_lit 146, o146_4 P) :: (nat_lit 148, o148_4 P) :: (nat_lit 149, o149_4 P) :: (nat_lit 150, o150_4 P) :: (nat_lit 152, o152_4 P) :: (nat_lit 153, o153_4 P) :: (nat_lit 155, o155_4 P) :: (nat_lit 156, o156_4 P) :: (nat_lit 157, o157_4 P) :: (nat_lit 159, o159_4 P) :: (nat_lit 160, o160_4 P) :: (nat_lit 162, o162_4 P) :: (nat_lit 163, o163_4 P) :: (nat_lit 164, o164_4 P) :: (nat_lit 166, o166_4 P) :: (nat_lit 167, o167_4 P) :: (nat_lit 169, o169_4 P) :: (nat_lit 170, o170_4 P) :: (nat_lit 171, o171_4 P) :: (nat_lit 173, o173_4 P) :: (nat_lit 174, o174_4 P) :: (nat_lit 176, o176_4 P) :: (nat_lit 177, o177_4 P) :: (nat_lit 178, o178_4 P) :: (nat_lit 180, o180_4 P) :: (nat_lit 181, o181_4 P) :: (nat_lit 183, o183_4 P) :: (nat_lit 184, o184_4 P) :: (nat_lit 185, o185_4 P) :: (nat_lit 187, o187_4 P) :: (nat_lit 188, o188_4 P) :: (nat_lit 190, o190_4 P) :: (nat_lit 191, o191_4 P) :: (nat_lit 192, o192_4 P) :: (nat_lit 194, o194_4 P) :: (nat_lit 195, o195_4 P) :: (nat_lit 197, o197_4 P) :: (nat_lit 198, o198_4 P) :: (nat_lit 199, o199_5 P) :: (nat_lit 201, o201_5 P) :: (nat_lit 202, o202_5 P) :: (nat_lit 204, o204_5 P) :: (nat_lit 205, o205_5 P) :: (nat_lit 206, o206_5 P) :: (nat_lit 208, o208_5 P) :: (nat_lit 209, o209_5 P) :: (nat_lit 211, o211_5 P) :: (nat_lit 212, o212_5 P) :: (nat_lit 213, o213_5 P) :: (nat_lit 215, o215_5 P) :: (nat_lit 216, o216_5 P) :: (nat_lit 218, o218_5 P) :: (nat_lit 219, o219_5 P) :: (nat_lit 220, o220_5 P) :: (nat_lit 222, o222_5 P) :: (nat_lit 223, o223_5 P) :: (nat_lit 225, o225_5 P) :: (nat_lit 226, o226_5 P) :: (nat_lit 227, o227_5 P) :: (nat_lit 229, o229_5 P) :: (nat_lit 230, o230_5 P) :: (nat_lit 232, o232_5 P) :: (nat_lit 233, o233_5 P) :: (nat_lit 234, o234_5 P) :: (nat_lit 236, o236_5 P) :: (nat_lit 237, o237_5 P) :: (nat_lit 239, o239_5 P) :: (nat_lit 240, o240_5 P) :: (nat_lit 241, o241_5 P) :: (nat_lit 243, o243_5 P) :: (nat_lit 244, o244_5 P) :: (nat_lit 246, o246_5 P) :: (nat_lit 247, o247_5 P) :: (nat_lit 248, o248_5 P) :: (nat_lit 250, o250_5 P) :: (nat_lit 251, o251_5 P) :: (nat_lit 253, o253_5 P) :: (nat_lit 254, o254_5 P) :: (nat_lit 255, o255_5 P) :: (nat_lit 257, o257_5 P) :: (nat_lit 258, o258_5 P) :: (nat_lit 260, o260_5 P) :: (nat_lit 261, o261_5 P) :: (nat_lit 262, o262_5 P) :: (nat_lit 264, o264_5 P) :: (nat_lit 265, o265_5 P) :: (nat_lit 267, o267_5 P) :: (nat_lit 268, o268_5 P) :: (nat_lit 269, o269_5 P) :: (nat_lit 272, o272_5 P) :: (nat_lit 273, o273_5 P) :: (nat_lit 274, o274_5 P) :: (nat_lit 277, o277_5 P) :: (nat_lit 278, o278_5 P) :: []
def hA : List Addr := [nat_lit 2, nat_lit 3, nat_lit 15, nat_lit 16, nat_lit 17, nat_lit 18, nat_lit 19, nat_lit 20, nat_lit 21, nat_lit 22, nat_lit 23, nat_lit 24, nat_lit 25, nat_lit 26, nat_lit 27, nat_lit 28, nat_lit 29, nat_lit 30, nat_lit 31, nat_lit 32, nat_lit 33, nat_lit 35, nat_lit 36, nat_lit 38, nat_lit 39, nat_lit 41, nat_lit 42, nat_lit 43, nat_lit 46, nat_lit 47, nat_lit 48, nat_lit 50, nat_lit 51, nat_lit 53, nat_lit 54, nat_lit 55, nat_lit 58, nat_lit 59, nat_lit 60, nat_lit 63, nat_lit 64, nat_lit 65, nat_lit 67, nat_lit 68, nat_lit 70, nat_lit 71, nat_lit 72, nat_lit 74, nat_lit 75, nat_lit 77, nat_lit 78, nat_lit 79, nat_lit 81, nat_lit 82, nat_lit 84, nat_lit 85, nat_lit 86, nat_lit 87, nat_lit 88, nat_lit 89, nat_lit 90, nat_lit 91, nat_lit 92, nat_lit 93, nat_lit 94, nat_lit 95, nat_lit 96, nat_lit 97, nat_lit 98, nat_lit 100, nat_lit 101, nat_lit 103, nat_lit 104, nat_lit 105, nat_lit 108, nat_lit 109, nat_lit 110, nat_lit 112, nat_lit 113, nat_lit 115, nat_lit 116, nat_lit 117, nat_lit 119, nat_lit 120, nat_lit 122, nat_lit 123, nat_lit 124, nat_lit 127, nat_lit 128, nat_lit 129, nat_lit 131, nat_lit 132, nat_lit 134, nat_lit 135, nat_lit 136, nat_lit 138, nat_lit 139, nat_lit 141, nat_lit 142, nat_lit 143, nat_lit 145, nat_lit 146, nat_lit 148, nat_lit 149, nat_lit 150, nat_lit 152, nat_lit 153, nat_lit 155, nat_lit 156, nat_lit 157, nat_lit 159, nat_lit 160, nat_lit 162, nat_lit 163, nat_lit 164, nat_lit 166, nat_lit 167, nat_lit 169, nat_lit 170, nat_lit 171, nat_lit 173, nat_lit 174, nat_lit 176, nat_lit 177, nat_lit 178, nat_lit 180, nat_lit 181, nat_lit 183, nat_lit 184, nat_lit 185, nat_lit 187, nat_lit 188, nat_lit 190, nat_lit 191, nat_lit 192, nat_lit 194, nat_lit 195, nat_lit 197, nat_lit 198, nat_lit 199, nat_lit 201, nat_lit 202, nat_lit 204, nat_lit 205, nat_lit 206, nat_lit 208, nat_lit 209, nat_lit 211, nat_lit 212, nat_lit 213, nat_lit 215, nat_lit 216, nat_lit 218, nat_lit 219, nat_lit 220, nat_lit 222, nat_lit 223, nat_lit 225, nat_lit 226, nat_lit 227, nat_lit 229, nat_lit 230, nat_lit 232, nat_lit 233, nat_lit 234, nat_lit 236, nat_lit 237, nat_lit 239, nat_lit 240, nat_lit 241, nat_lit 243, nat_lit 244, nat_lit 246, nat_lit 247, nat_lit 248, nat_lit 250, nat_lit 251, nat_lit 253, nat_lit 254, nat_lit 255, nat_lit 257, nat_lit 258, nat_lit 260, nat_lit 261, nat_lit 262, nat_lit 264, nat_lit 265, nat_lit 267, nat_lit 268, nat_lit 269, nat_lit 272, nat_lit 273, nat_lit 274, nat_lit 277, nat_lit 278]
def hX (s : Shared) : Bool := xlAt hq [] s && recOk [] s
abbrev hH : Hook := kHook hK hA (fun _ => by kernel_rfl)
def qs (w : World) : (OsState → (Bool × Nat × Option Value)) × (OsState → (Bool × Nat × Option Value)) := (fun os => ((boot_heap w.params).isNs mainGlobals && (Array.mk [] : Array GenState).size == 0, (boot_heap w.params).objs.size, (boot_heap w.params).nsMap mainGlobals "__annotations__"), fun os => (true, (nat_lit 11), (some (.ref 6))))
theorem qs_eq : HD.sz (nat_lit 11) (some (.ref 6)) = qs := by kernel_rfl
name_quick YK22s for qs by qs_eq
theorem is (w : World) : (Fast.YK22s w).1 = (Fast.YK22s w).2 := by kernel_rfl
theorem hs : HD.Ok (HD.sz (nat_lit 11) (some (.ref 6))) := HD.by1 Fast.YK22s_eq is
def qla (w : World) : (OsState → Bool) × (OsState → Bool) := (fun os => (staticsOk (importedModules pw.main.body) (boot_heap w.params) (Hf w.params) && namesBound pw (Hf w.params) && gensDone (Sf w os) && laidKept (boot_heap w.params) (Hf w.params)), fun os => true)
theorem qla_eq : HD.la pw Hf df kf = qla := by kernel_rfl
name_quick YK22la for qla by qla_eq
theorem ila (w : World) : (Fast.YK22la w).1 = (Fast.YK22la w).2 := by kernel_rfl
theorem hla : HD.Ok (HD.la pw Hf df kf) := HD.by1 Fast.YK22la_eq ila
def qlb (w : World) := ((fun os : OsState => openSeen hq hl (importedModules pw.main.body) hX true (Sf w os)), (fun _ : OsState => openGood hq hl))
theorem qlb_eq : HD.lb pw hq hl hX Hf df kf = qlb := by kernel_rfl
name_quick YK22lb for qlb by qlb_eq
theorem ilb (w : World) : (Fast.YK22lb w).1 = (Fast.YK22lb w).2 := by kernel_rfl
theorem hlb : HD.Ok (HD.lb pw hq hl hX Hf df kf) := HD.by1 Fast.YK22lb_eq ilb
def qlc (w : World) : (OsState → (List (Option Obj))) × (OsState → (List (Option Obj))) := (fun os => hA.map (Sf w os).heap.get?, fun os => (hK0 w.params).map fun p => some p.2)
theorem qlc_eq : HD.lc hH Hf df kf = qlc := by kernel_rfl
name_quick YK22lc for qlc by qlc_eq
theorem ilc (w : World) : (Fast.YK22lc w).1 = (Fast.YK22lc w).2 := by kernel_rfl
theorem hlc : HD.Ok (HD.lc hH Hf df kf) := HD.by1 Fast.YK22lc_eq ilc
theorem hleft : LeftO pw hq hl hX hH.obs hH.val 3408 := HD.left (by kernel_rfl) (by decide) (fun s => by kernel_rfl) hs hrun (by decide +kernel) hla hlb hlc
end K22
end
open PySem PySem.W PyProof.Rows
set_option maxRecDepth 100000 in
set_option maxHeartbeats 0 in
theorem PySem.Challenge.cw_keeper_k22_steps_told_holds : PySem.Challenge.rw_keeper_k22_steps_told.Holds := by
  w_on; o_law
  refine PySem.W.holds_open (q := K22.hq) (loose := K22.hl) (Xt := K22.hX) (XP := PySem.W.XL K22.hq []) (Yf := PySem.W.Hook.obs K22.hH) (Ya := PySem.W.Hook.val K22.hH) (YP := PySem.W.Hook.says K22.hH) (N := 3408) K22.hleft (PySem.W.Hook.of _) (PySem.W.Hook.keeps _) (fun s e => PySem.W.xl_of s (Bool.and_eq_true_iff.mp e).1) PySem.W.XL.keeps (by rfl) (by rfl) (by rfl) (fun s e => PySem.W.recFacts_of (Bool.and_eq_true_iff.mp e).2) (by rfl) (by assumption) (by decide +kernel) ⟨rfl, rfl, rfl, rfl, rfl, by decide +kernel⟩ ?hw ?hc
  case hw => w_witness2
  delta K22.hH
  k_fill
  refine K22.walk (l := PySem.Challenge.rw_keeper_k22_steps_told) rfl rfl (fun w h Y => PySem.W.kIn_of Y) ?F
  case F =>
    intro w mg fa h KX G hmg
    have T : ∃ t, K22.Txt (L2.KOf KX) mg t := by
      dsimp only [L2.KOf]
      refine' K22.txt_mk KX G ?a0 ?a1 ?a2 ?a3 ?a4 ?a5 ?a6 ?a7 ?a8 ?a9 ?a10 ?a11 ?a12 ?a13 ?a14 ?a15 ?a16 ?a17 ?a18 ?a19 ?a20 ?a21 ?a22 ?a23 ?a24 ?a25 ?a26 ?a27 ?a28 ?a29 ?a30 ?a31 ?a32 ?a33 ?a34 ?z_all ?z_bool ?z_dict ?z_enumerate ?z_int ?z_isinstance ?z_len ?z_list ?z_max ?z_min ?z_range ?z_str ?z_tuple ?z_zip ?g_MOST_KNOTS ?g_MOST_DEEP ?g_MOST_VARIABLE ?g_MOST_LETTERS ?g_LETTERS ?g_KIND_WORDS ?lk_KIND_WORDS ?vs_KIND_WORDS ?g_KIDS_DUE ?lk_KIDS_DUE ?sy_KIDS_DUE ?ks_KIDS_DUE ?rf_KIDS_DUE ?u0_KIDS_DUE ?v0_KIDS_DUE ?u1_KIDS_DUE ?v1_KIDS_DUE ?u2_KIDS_DUE ?v2_KIDS_DUE ?u3_KIDS_DUE ?v3_KIDS_DUE ?u4_KIDS_DUE ?v4_KIDS_DUE ?u5_KIDS_DUE ?v5_KIDS_DUE ?u6_KIDS_DUE ?v6_KIDS_DUE ?u7_KIDS_DUE ?v7_KIDS_DUE ?u8_KIDS_DUE ?v8_KIDS_DUE ?u9_KIDS_DUE ?v9_KIDS_DUE ?u10_KIDS_DUE ?v10_KIDS_DUE ?u11_KIDS_DUE ?v11_KIDS_DUE ?u12_KIDS_DUE ?v12_KIDS_DUE ?u13_KIDS_DUE ?v13_KIDS_DUE ?u14_KIDS_DUE ?v14_KIDS_DUE ?u15_KIDS_DUE ?v15_KIDS_DUE ?u16_KIDS_DUE ?v16_KIDS_DUE ?u17_KIDS_DUE ?v17_KIDS_DUE ?g_RULES ?lk_RULES ?sy_RULES ?ks_RULES ?rf_RULES ?u0_RULES ?v0_RULES ?u0_0_RULES ?v0_0_RULES ?u1_RULES ?v1_RULES ?u1_0_RULES ?v1_0_RULES ?u1_1_RULES ?v1_1_RULES ?u2_RULES ?v2_RULES ?u2_0_RULES ?v2_0_RULES ?u3_RULES ?v3_RULES ?u3_0_RULES ?v3_0_RULES ?u4_RULES ?v4_RULES ?u4_0_RULES ?v4_0_RULES
      (case a0 => apply L3.dfi; iterate 4 k_is)
      (case a1 => apply L3.dfi; iterate 4 k_is)
      (case a2 => apply L3.dfi; iterate 4 k_is)
      (case a3 => apply L3.dfi; iterate 4 k_is)
      (case a4 => apply L3.dfi; iterate 4 k_is)
      (case a5 => apply L3.dfi; iterate 4 k_is)
      (case a6 => apply L3.dfi; iterate 4 k_is)
      (case a7 => apply L3.dfi; iterate 4 k_is)
      (case a8 => apply L3.dfi; iterate 4 k_is)
      (case a9 => apply L3.dfi; iterate 4 k_is)
      (case a10 => apply L3.dfi; iterate 4 k_is)
      (case a11 => apply L3.dfi; iterate 4 k_is)
      (case a12 => apply L3.dfi; iterate 4 k_is)
      (case a13 => apply L3.dfi; iterate 4 k_is)
      (case a14 => apply L3.dfi; iterate 4 k_is)
      (case a15 => apply L3.dfi; iterate 4 k_is)
      (case a16 => apply L3.dfi; iterate 4 k_is)
      (case a17 => apply L3.dfi; iterate 4 k_is)
      (case a18 => apply L3.dfi; iterate 4 k_is)
      (case a19 => apply L3.dfi; iterate 4 k_is)
      (case a20 => apply L3.dfi; iterate 4 k_is)
      (case a21 => apply L3.dfi; iterate 4 k_is)
      (case a22 => apply L3.dfi; iterate 4 k_is)
      (case a23 => apply L3.dfi; iterate 4 k_is)
      (case a24 => apply L3.dfi; iterate 4 k_is)
      (case a25 => apply L3.dfi; iterate 4 k_is)
      (case a26 => apply L3.dfi; iterate 4 k_is)
      (case a27 => apply L3.dfi; iterate 4 k_is)
      (case a28 => apply L3.dfi; iterate 4 k_is)
      (case a29 => apply L3.dfi; iterate 4 k_is)
      (case a30 => apply L3.dfi; iterate 4 k_is)
      (case a31 => apply L3.dfi; iterate 4 k_is)
      (case a32 => apply L3.dfi; iterate 4 k_is)
      (case a33 => apply L3.dfi; iterate 4 k_is)
      (case a34 => apply L3.dfi; iterate 4 k_is)
      (case z_all => k_is)
      (case z_bool => k_is)
      (case z_dict => k_is)
      (case z_enumerate => k_is)
      (case z_int => k_is)
      (case z_isinstance => k_is)
      (case z_len => k_is)
      (case z_list => k_is)
      (case z_max => k_is)
      (case z_min => k_is)
      (case z_range => k_is)
      (case z_str => k_is)
      (case z_tuple => k_is)
      (case z_zip => k_is)
      (case g_MOST_KNOTS => k_is)
      (case g_MOST_DEEP => k_is)
      (case g_MOST_VARIABLE => k_is)
      (case g_MOST_LETTERS => k_is)
      (case g_LETTERS => k_is)
      (case g_KIND_WORDS => k_is)
      (case lk_KIND_WORDS => k_is)
      (case vs_KIND_WORDS => decide +kernel)
      (case g_KIDS_DUE => k_is)
      (case lk_KIDS_DUE => k_is)
      (case sy_KIDS_DUE => decide +kernel)
      (case ks_KIDS_DUE => kernel_rfl)
      (case rf_KIDS_DUE => rfl)
      (case u0_KIDS_DUE => k_is)
      (case v0_KIDS_DUE => decide +kernel)
      (case u1_KIDS_DUE => k_is)
      (case v1_KIDS_DUE => decide +kernel)
      (case u2_KIDS_DUE => k_is)
      (case v2_KIDS_DUE => decide +kernel)
      (case u3_KIDS_DUE => k_is)
      (case v3_KIDS_DUE => decide +kernel)
      (case u4_KIDS_DUE => k_is)
      (case v4_KIDS_DUE => decide +kernel)
      (case u5_KIDS_DUE => k_is)
      (case v5_KIDS_DUE => decide +kernel)
      (case u6_KIDS_DUE => k_is)
      (case v6_KIDS_DUE => decide +kernel)
      (case u7_KIDS_DUE => k_is)
      (case v7_KIDS_DUE => decide +kernel)
      (case u8_KIDS_DUE => k_is)
      (case v8_KIDS_DUE => decide +kernel)
      (case u9_KIDS_DUE => k_is)
      (case v9_KIDS_DUE => decide +kernel)
      (case u10_KIDS_DUE => k_is)
      (case v10_KIDS_DUE => decide +kernel)
      (case u11_KIDS_DUE => k_is)
      (case v11_KIDS_DUE => decide +kernel)
      (case u12_KIDS_DUE => k_is)
      (case v12_KIDS_DUE => decide +kernel)
      (case u13_KIDS_DUE => k_is)
      (case v13_KIDS_DUE => decide +kernel)
      (case u14_KIDS_DUE => k_is)
      (case v14_KIDS_DUE => decide +kernel)
      (case u15_KIDS_DUE => k_is)
      (case v15_KIDS_DUE => decide +kernel)
      (case u16_KIDS_DUE => k_is)
      (case v16_KIDS_DUE => decide +kernel)
      (case u17_KIDS_DUE => k_is)
      (case v17_KIDS_DUE => decide +kernel)
      (case g_RULES => k_is)
      (case lk_RULES => k_is)
      (case sy_RULES => decide +kernel)
      (case ks_RULES => kernel_rfl)
      (case rf_RULES => rfl)
      (case u0_RULES => k_is)
      (case v0_RULES => rfl)
      (case u0_0_RULES => k_is)
      (case v0_0_RULES => decide +kernel)
      (case u1_RULES => k_is)
      (case v1_RULES => rfl)
      (case u1_0_RULES => k_is)
      (case v1_0_RULES => decide +kernel)
      (case u1_1_RULES => k_is)
      (case v1_1_RULES => decide +kernel)
      (case u2_RULES => k_is)
      (case v2_RULES => rfl)
      (case u2_0_RULES => k_is)
      (case v2_0_RULES => decide +kernel)
      (case u3_RULES => k_is)
      (case v3_RULES => rfl)
      (case u3_0_RULES => k_is)
      (case v3_0_RULES => decide +kernel)
      (case u4_RULES => k_is)
      (case v4_RULES => rfl)
      (case u4_0_RULES => k_is)
      (case v4_0_RULES => decide +kernel)
    obtain ⟨t, T⟩ := T
    exact K22.fin T hmg
