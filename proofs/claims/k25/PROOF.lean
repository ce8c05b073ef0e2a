import PyProof.Rows.All
import Wide.All
import OpenK.AllK
import Wide.FinOn
import Lean
import PyProof.EqAt
import PyProof.EqKinds
import PyProof.TupleCall
import PyProof.ZipIter
import PyProof.Draws
import PyProof.TupleIter
import PySem.Value
import PyProof.NeKinds
import PyProof.ExcClass2
import PyProof.StationsW
import OpenK.KOwn
import KE.KIsAll
import PyProof.RulesAs
import PyProof.NsDelKeeps
import PyProof.PassesOwn
import PyProof.ExcArgsOwn
import PyProof.IsiH_list
import PyProof.EnumMake
import PyProof.EnumFor
import PyProof.WalksEnum
import PyProof.Rows.EnumRows
import PyProof.SumWalk
import PyProof.StrCalls
import PyProof.Rows.StrJoin2
import PyProof.WalkInts
import KE.KDictOf
import KE.KEqDict
import PyProof.StrCalls6
import PyProof.StrLaws
import PyProof.StrLawsIn
import PyProof.StrLawsChain
import PyProof.EqLayable
import PyProof.P3Eq
import PyProof.MeetsIn
import KE.KNest
import KE.KNestM
import PyProof.MeetsStr2
import PyProof.StrOps2
import PyProof.CallStr
import KE.KIntText
import KE.KRevIter
import PyProof.Rows.StrInSeq3
import PyProof.Rows.SeqMore2
import PySem.Challenge.RW_keeper_k25_whole_ways_meet
set_option Elab.async false
set_option linter.all false
set_option maxRecDepth 100000
set_option bootstrap.genMatcherCode false
set_option genSizeOf false
set_option genSizeOfSpec false
set_option maxHeartbeats 8000000
open PySem renaming wpAny_bind->aj,wpAny_pure->aU,wpAny_field->dy,wpAny_call_entry->iQ,wpAny_holding->gy,wpAny_truthy_bool->kH,wpAny_mono->fE
open PySem.Heap renaming get?_push_of_some->bD,lt_size->bL,get?_push_size->eD,get?_update_other->ka,get?_update_self->uW,size_push->mZ
open Bool renaming and_eq_true->cf,false_ne_true->d5,false_eq_true->pW
open List renaming size_toArray->cM,getElem?_eq_getElem->e8,mem_cons_of_mem->dX,mem_cons_self->eC,length_map->c_,not_mem_nil->fH,mem_append_right->js,mem_cons->eB,map_cons->eF,length_append->je,length_cons->hV,mem_of_getElem?->nP,mem_append_left->p_,lookup_cons->mP,getElem?_map->nY,getElem?_append_left->Ci,take_of_length_le->zD,append_nil->nX
open Nat renaming le_refl->bJ,le_trans->cS,lt_of_lt_of_le->gd,ne_of_lt->dN,zero_le->d4,not_lt_zero->jf
noncomputable section
section
namespace L2
open PySem PySem.Spec PyProof.Rows
theorem dw{n:Nat}(h:Nat.ble n 16777216=true):n<=sizeLine:=cS (Nat.le_of_ble_eq_true h) (by decide)
def HB(base:Heap)(A:Around):Prop:=A.handled=none\/∃a oe vs,A.handled=some (.ref a)/\base.get? a=some oe/\oe.data= .fields vs/\vs[2]?=some .none
def HBp(base:Heap)(pn:List (Addr×Obj))(A:Around):Prop:=A.handled=none\/∃a oe vs,A.handled=some (.ref a)/\(base.get? a=some oe\/(a,oe)∈pn)/\oe.data= .fields vs/\vs[2]?=some .none
theorem HB.toP{base:Heap}{pn:List (Addr×Obj)}{A:Around}(h:HB base A):HBp base pn A:=by
 rcases h with h|⟨a,oe,vs,e1,e2,b⟩;·exact .inl h
 ·exact .inr ⟨a,oe,vs,e1, .inl e2,b⟩
theorem C2:entryFor table "proto.unchain"=some Builtin.«proto.unchain»:=entryFor_of_tree (by kernel_rfl)
section
variable{prog:Program}{w:World}{A:Around}{E:Value->Shared->Prop}{s:Shared}{base:Heap}
theorem HB.mono{h h':Heap}(hb:HB h A)(c:∀a o,A.handled=some (.ref a)->h.get? a=some o->h'.get? a=some o):HB h' A:=by
 rcases hb with hb|⟨a,oe,vs,e1,e2,b⟩;·exact .inl hb
 ·exact .inr ⟨a,oe,vs,e1,c a oe e1 e2,b⟩
theorem Dr{n a:Addr}{oe:Obj}{vs:Array Value}{Q:Value->Shared->Prop}(b:s.heap.get? a=some oe)(hd:oe.data= .fields vs)(h2:vs[2]?=some .none)(h:Q .none s):wpAny (model prog w) A (runValue (.builtin "proto.unchain" ⟨[.ref n, .ref a, .ref a, .bool false],[]⟩)) Q E s:=by refine wpAny_runValue (codeAny_builtin C2 ?_);show wpAny _ _ (field (.ref a) 2>>=_) _ _ s;refine aj (dy b hd h2 ?_);rw[if_pos (show(Value.none==Value.none)=true by rfl)];exact aU h
theorem eX{f:Type}{Q:f->Shared->Prop}(hb:HB s.heap A)(d:∀h' e,(∀b o,s.heap.get? b=some o->h'.get? b=some o)->(∃o,h'.get? e=some o/\o.cls= .type "StopIteration")->E (.ref e) {s with heap:=h'}):wpAny (model prog w) A (newExc (.type "StopIteration") []>>=λe=>(raiseNew e:Sem f)) Q E s:=by
 refine aj ?_;simp only[newExc,newTuple];refine aj (wpAny_newObj_type ?_ (by size_fits));refine aj (m:=firstArgMember _ _) (wpAny_of_eq (a:=Value.none) (by first|rfl|(simp only[firstArgMember];rfl)) ?_);refine wpAny_newObj_type ?_ (by size_fits);simp only[raiseNew];refine aj (wpAny_handled ?_);rcases hb with hb|⟨a,oe,vs,hb,e1,e2,g⟩;·rw[hb];refine aj (aU (wpAny_throw (d _ _ (λb o e=>bD _ (bD _ e)) ⟨_,eD _ rfl,rfl⟩)))
 ·rw[hb];have c:=e1;have lt:=bL c;have ne:a≠(s.heap.push {cls:= .type "tuple",data:= .seq #[]}).objs.size:=by rw[mZ];exact dN (Nat.lt_succ_of_lt lt)
  dsimp only;rw[if_pos (by simpa using ne)];refine aj (gy (Dr (bD _ (bD _ c)) e2 g ?_));refine aj ?_;show wpAny (model prog w) A (setField (.ref _) 2 (.ref a)) _ _ _;refine wpAny_setField (eD _ rfl) rfl (by simp;lia) (wpAny_throw (d _ _ (λb o e=>?_) ⟨_,uW _ (eD _ rfl) (Obj.isFreed_of_fields (Obj.data_mapFields rfl _)),Obj.cls_mapFields _ _⟩));rw[ka _ _ ?_];·exact bD _ (bD _ e)
  ·have :=bL e;intro z;rw[<-z,mZ]at this;exact Nat.not_succ_lt_self this
theorem mL{Q:Bool->Shared->Prop}{h':Heap}{e:Addr}(a:∃o,h'.get? e=some o/\o.cls= .type "StopIteration")(h:Q true {s with heap:=h'}):wpAny (model prog w) A (isInstance (.ref e) (.type "StopIteration")) Q E {s with heap:=h'}:=by obtain⟨o,c,hc⟩:=a;exact wpAny_isInstance (T:="StopIteration") (b:=true) ⟨o,c,hc⟩ isSubtype_stop h
theorem HB.upd{it:Addr}{f:Obj->Obj}(hb:HB s.heap A)(b:∀a,A.handled=some (.ref a)->a≠it):HB (s.heap.update it f) A:=hb.mono λa o e1 e2=>(ka _ _ (Ne.symm (b a e1))).trans e2
theorem j9{it:Addr}{f:Obj->Obj}{h':Heap}(k:∀b o,(s.heap.update it f).get? b=some o->h'.get? b=some o):Heap.ExtBut it s.heap h':=λb o hb e=>k b o ((ka _ _ (Ne.symm hb)).trans e)
theorem kf{it l:Addr}{i:Nat}{items:Array Value}{Q:Option Value->Shared->Prop}(hb:HB s.heap A)(j:∀a,A.handled=some (.ref a)->a≠it)(b:s.heap.IsListIter it l i)(hl:s.heap.IsList l items)(h:items[i]?=none)(d:∀h',Heap.ExtBut it s.heap h'->Q none {s with heap:=h'}):wpAny (model prog w) A (pyNext (.ref it)) Q E s:=by obtain⟨o,c,hc,hd⟩:=id b;obtain⟨n,g,_,m,Xc⟩:=hl;unfold pyNext;refine aj (wpAny_attempt (wpAny_callSpecial?_slot (name:=Str.ofString "__next__") b.typeIs slot_listiter_next (iQ slot_listiter_next b.typeIs entry_listiter_next ?_ (args_listiter_next _))));show wpAny (model prog w) _ (field (.ref it) 0>>=_) _ _ s;refine aj (dy c hd (x:= .ref l) rfl ?_);show wpAny (model prog w) _ (if(Value.ref l==Value.none)=true then _ else _) _ _ s;rw[if_neg (show¬(Value.ref l==Value.none)=true from d5)];show wpAny (model prog w) _ (field (.ref it) 1>>=_) _ _ s;refine aj (dy c hd (x:= .int i 0) rfl ?_);show wpAny (model prog w) _ (seqItems? (.ref l)>>=_) _ _ s;refine aj (wpAny_seqItems g Xc ?_);simp only[Int.toNat_natCast,h];refine aj (wpAny_rule (aj (wpAny_setField c hd (by simp) ?_)));exact eX (A:=A.in1) (hb.upd j) λh' e k f=>aj (mL f (aU (d h' (j9 k))))
theorem next_tuple_end{it l:Addr}{i:Nat}{items:Array Value}{Q:Option Value->Shared->Prop}(hb:HB s.heap A)(j:∀a,A.handled=some (.ref a)->a≠it)(b:s.heap.IsTupleIter it l i)(hl:s.heap.IsTuple l items)(h:items[i]?=none)(d:∀h',Heap.ExtBut it s.heap h'->Q none {s with heap:=h'}):wpAny (model prog w) A (pyNext (.ref it)) Q E s:=by obtain⟨o,c,hc,hd⟩:=id b;obtain⟨n,g,_,m,Xc⟩:=hl;unfold pyNext;refine aj (wpAny_attempt (wpAny_callSpecial?_slot (name:=Str.ofString "__next__") b.typeIs F.slot_tuple_iterator_next (iQ F.slot_tuple_iterator_next b.typeIs F.entry_tuple_iterator_next ?_ (F.args_tuple_iterator_next_1 _))));show wpAny (model prog w) _ (field (.ref it) 0>>=_) _ _ s;refine aj (dy c hd (x:= .ref l) rfl ?_);show wpAny (model prog w) _ (if(Value.ref l==Value.none)=true then _ else _) _ _ s;rw[if_neg (show¬(Value.ref l==Value.none)=true from d5)];show wpAny (model prog w) _ (field (.ref it) 1>>=_) _ _ s;refine aj (dy c hd (x:= .int i 0) rfl ?_);show wpAny (model prog w) _ (seqItems? (.ref l)>>=_) _ _ s;refine aj (wpAny_seqItems g Xc ?_);simp only[Int.toNat_natCast,h];refine aj (wpAny_rule (aj (wpAny_setField c hd (by simp) ?_)));exact eX (A:=A.in1) (hb.upd j) λh' e k f=>aj (mL f (aU (d h' (j9 k))))
theorem uh{it:Addr}{x left step:Int}{Q:Option Value->Shared->Prop}(hb:HB s.heap A)(a:IsRangeIter s.heap it x left step)(hleft:left<=0)(f:∀h',Heap.ExtBut it s.heap h'->Q none {s with heap:=h'}):wpAny (model prog w) A (pyNext (.ref it)) Q E s:=by have c:s.TypeIs (.ref it) "range_iterator":=⟨_,a,rfl⟩;unfold pyNext;refine aj (wpAny_attempt (wpAny_callSpecial?_slot (name:=Str.ofString "__next__") c F.slot_range_iterator_next (iQ F.slot_range_iterator_next c F.entry_range_iterator_next ?_ (F.args_range_iterator_next_1 _))));show wpAny (model prog w) _ (field (.ref it) 0>>=_) _ _ s;refine aj (dy a rfl (x:=rawInt x) rfl ?_);show wpAny (model prog w) _ (field (.ref it) 1>>=_) _ _ s;refine aj (dy a rfl (x:=rawInt left) rfl ?_);show wpAny (model prog w) _ (field (.ref it) 2>>=_) _ _ s;refine aj (dy a rfl (x:=rawInt step) rfl ?_);show wpAny (model prog w) _ (if left<=0 then _ else _) _ _ s;rw[if_pos hleft];refine aj (wpAny_rule ?_);refine aj ?_;exact eX (A:=A.in1) hb λh' e k g=>aj (mL g (aU (f h' λb o _ d=>k b o d)))
theorem sW{it:Addr}{x:Str}{t:Tok}{i:Nat}{Q:Option Value->Shared->Prop}(hb:HB s.heap A)(h:∀a,A.handled=some (.ref a)->a≠it)(b:s.heap.IsStrIter it "str_ascii_iterator" x t i)(g:x.cps[i]?=none)(d:∀h',Heap.ExtBut it s.heap h'->Q none {s with heap:=h'}):wpAny (model prog w) A (pyNext (.ref it)) Q E s:=by obtain⟨o,c,hc,hd⟩:=id b;unfold pyNext;refine aj (wpAny_attempt (wpAny_callSpecial?_slot (name:=Str.ofString "__next__") b.typeIs F.slot_str_ascii_iterator_next (iQ F.slot_str_ascii_iterator_next b.typeIs F.entry_str_ascii_iterator_next ?_ (F.args_str_ascii_iterator_next_1 _))));show wpAny (model prog w) _ (field (.ref it) 0>>=_) _ _ s;refine aj (dy c hd (x:= .str x t) rfl ?_);show wpAny (model prog w) _ (field (.ref it) 1>>=_) _ _ s;refine aj (dy c hd (x:= .int i 0) rfl ?_);simp only[Int.toNat_natCast,g];refine aj (wpAny_rule (aj (wpAny_setField c hd (by simp) (aj (wpAny_letGo ?_)))));exact eX (A:=A.in1) (hb.upd h) λh' e k f=>aj (mL f (aU (d h' (j9 k))))
theorem u3{it:Addr}{x:Str}{t:Tok}{i:Nat}{Q:Option Value->Shared->Prop}(hb:HB s.heap A)(h:∀a,A.handled=some (.ref a)->a≠it)(b:s.heap.IsStrIter it "str_iterator" x t i)(g:x.cps[i]?=none)(d:∀h',Heap.ExtBut it s.heap h'->Q none {s with heap:=h'}):wpAny (model prog w) A (pyNext (.ref it)) Q E s:=by obtain⟨o,c,hc,hd⟩:=id b;unfold pyNext;refine aj (wpAny_attempt (wpAny_callSpecial?_slot (name:=Str.ofString "__next__") b.typeIs F.slot_str_iterator_next (iQ F.slot_str_iterator_next b.typeIs F.entry_str_iterator_next ?_ (F.args_str_iterator_next_1 _))));show wpAny (model prog w) _ (field (.ref it) 0>>=_) _ _ s;refine aj (dy c hd (x:= .str x t) rfl ?_);show wpAny (model prog w) _ (field (.ref it) 1>>=_) _ _ s;refine aj (dy c hd (x:= .int i 0) rfl ?_);simp only[Int.toNat_natCast,g];refine aj (wpAny_rule (aj (wpAny_setField c hd (by simp) (aj (wpAny_letGo ?_)))));exact eX (A:=A.in1) (hb.upd h) λh' e k f=>aj (mL f (aU (d h' (j9 k))))
theorem Qo{t:Addr}{items:Array Value}{Q:List Value->Shared->Prop}(hb:HB s.heap A)(ht:s.heap.IsTuple t items)(i:∀h',Heap.ExtBut s.heap.objs.size s.heap h'->Q items.toList {s with heap:=h'}):wpAny (model prog w) A (unpackItems (.ref t) items.size none) Q E s:=by
 have f:t≠s.heap.objs.size:=by obtain⟨o,m,_⟩:=ht;exact dN (bL m)
 have g:∀a,A.handled=some (.ref a)->a≠s.heap.objs.size:=λa c=>by
  rcases hb with hb|⟨a',oe,vs,e1,e2,_⟩;·rw[hb]at c;cases c
  ·rw[e1]at c;cases c;exact dN (bL e2)
 unfold unpackItems;refine aj ?_;unfold notIterableAtAll;refine aj (wpAny_specialOf ht.typeIs F.slot_tuple_iter.lookup (aU ?_));simp only[pW,if_false];refine aj (gy (wpAny_pyIter_tuple ht ?_));refine aj (gy (wpAny_draw_tuple f items.size 0 _ _ ⟨_,eD _ rfl,rfl,rfl⟩ (ht.push _) (by lia) λh₁ l d=>?_));rw[show List.take items.size (List.drop 0 items.toList)=items.toList by rw[List.drop_zero];exact zD (by simp),if_neg (by simp)];have n:h₁.IsTuple t items:=(ht.push _).extBut d.extBut f;have j:HB h₁ A:=hb.mono λa o c h=>d.extBut a o (g a c) (bD _ h);refine aj (gy (next_tuple_end (s:={s with heap:=h₁}) j g l n (by simp) λp k=>?_));simp only[Option.isSome_none,pW,if_false];exact aU (i p λb o hb e=>k b o hb (d.extBut b o hb (bD _ e)))
theorem PU{env:Env}{elts:List Expr}{x1}{b:Pos}{t:Addr}{items:Array Value}{Q:Unit->Shared->Prop}(hb:HB s.heap A)(ht:s.heap.IsTuple t items)(hn:(assignEach elts env).length=items.size)(a:(assignEach elts env).findIdx? (·.1)=none)(h:∀h',Heap.ExtBut s.heap.objs.size s.heap h'->wpAny (model prog w) A (assignInOrder ((assignEach elts env).map (·.2)) items.toList) Q E {s with heap:=h'}):wpAny (model prog w) A (assign (.Tuple elts x1 b) env (.ref t)) Q E s:=by rw[arm_assign_Tuple];refine aj (wpAny_standAt ?_);unfold unpack;rw[hn,a];exact aj (gy (Qo hb ht h))
end
theorem Eb{prog:Program}{w:World}{A:Around}{s:Shared}{Q:Option Value->Shared->Prop}{E:Value->Shared->Prop}{I:Addr}{a c:Int}{n i:Nat}(hi:i<n)(st:IsRangeIter s.heap I (a+(i:Nat)*c) ((n:Int)-(i:Nat)) c)(d:∀v h' tk,(∃t,v= .int (a+i*c) t)->IsRangeIter h' I (a+((i+1:Nat):Int)*c) ((n:Int)-((i+1:Nat):Int)) c->(∀b o,b∉[I]->s.heap.get? b=some o->h'.get? b=some o)->Q (some v) {s with heap:=h',toks:=tk}):wpAny (model prog w) A (pyNext (.ref I)) Q E s:=by refine wpAny_pyNext_range_item st (by lia) λh' f g=>d _ h' _ ⟨_,rfl⟩ ?_ λb o hb e=>g.extBut b o (λh=>hb (by simp[h])) e;rw[show a+((i+1:Nat):Int)*c=a+(i:Int)*c+c by push_cast;rw[Int.add_mul,Int.one_mul,Int.add_assoc],show(n:Int)-((i+1:Nat):Int)=(n:Int)-(i:Int)-1 by push_cast;lia];exact f
noncomputable def gA(A:Around):List Addr:=match A.handled with|some (.ref a)=>[a]|_=>[]
theorem gY{A:Around}{d:Addr}(h:d∈gA A):A.handled=some (.ref d):=by
 unfold gA at h;split at h;·rename_i a e;rw[List.mem_singleton.mp h];exact e
 ·cases h
theorem HB.frame{A:Around}{h h':Heap}(hb:HB h A)(k:∀b∈gA A,∀o,h.get? b=some o->h'.get? b=some o):HB h' A:=hb.mono λa o c d=>k a (by unfold gA;rw[c];simp) o d
theorem sS{prog:Program}{w:World}{A:Around}(I c:Addr)(p:c≠I)(items:Array Value)(j:∀a,A.handled=some (.ref a)->a≠I):Walks prog w A I (I::c::gA A) [I] items.size (λi v=>items[i]?=some v) (λi h=>h.IsListIter I c i/\h.IsList c items/\HB h A)where
 sub:=λb hb=>by simp at hb;simp[hb]
 frame:=λ_ _ _ st f=>⟨st.1.at λo e=>f I (by simp) o e,st.2.1.at λo e=>f c (by simp) o e,st.2.2.frame λb hb=>f b (by simp[hb])⟩;item:=λi s Q E hi st d=>by refine wpAny_pyNext_list_item st.1 st.2.1 (x:=items[i]) (by simp[hi]) λh' n g=>?_;exact d _ h' s.toks (by simp[hi]) ⟨n,st.2.1.extBut g.extBut p,st.2.2.mono λa o k l=>g.extBut a o (j a k) l⟩ λb o hb e=>g.extBut b o (λh=>hb (by simp[h])) e
 done:=λs Q E st d=>kf st.2.2 j st.1 st.2.1 (by simp) λh' m=>d h' s.toks λb o hb e=>m b o (λh=>hb (by simp[h])) e;self:=λ_ _ _ _ st d=>wpAny_pyIter_listiter st.1 d
noncomputable abbrev Key:=Sum Int Str
noncomputable def wm:Key->Value->Bool| .inl k,v=>Value.isInt k v| .inr x,v=>Value.isStrOf x v
noncomputable def aaP(w:World):Key->Int| .inl k=>hashInt k| .inr x=>hashStr w x
theorem cB:∀{k:Key}{v:Value},wm k v=true->(∃i t,k=Sum.inl i/\v=Value.int i t)\/(∃x t,k=Sum.inr x/\v=Value.str x t)| .inl i,v,h=>by obtain⟨t,e⟩:=Value.isInt_shape (k:=i) (v:=v) h;exact .inl ⟨i,t,rfl,e⟩| .inr x,v,h=>by obtain⟨t,e⟩:=Value.isStrOf_shape (x:=x) (v:=v) h;exact .inr ⟨x,t,rfl,e⟩
theorem IM(i:Int)(t:Tok):wm (.inl i) (.int i t)=true:=by simp[wm,Value.isInt]
theorem I_(x:Str)(t:Tok):wm (.inr x) (.str x t)=true:=by simp[wm,Value.isStrOf]
theorem Up(a b:Int):decide ((Sum.inl a:Key)=Sum.inl b)=(a==b):=by
 by_cases e:a=b;·subst e;simp
 ·have h:¬(Sum.inl a:Key)=Sum.inl b:=λq=>e (Sum.inl.inj q);rw[decide_eq_false h];exact(beq_eq_false_iff_ne.mpr e).symm
theorem Tt(a b:Str):decide ((Sum.inr a:Key)=Sum.inr b)=decide (a=b):=by
 by_cases e:a=b;·subst e;simp
 ·have h:¬(Sum.inr a:Key)=Sum.inr b:=λq=>e (Sum.inr.inj q);rw[decide_eq_false h,decide_eq_false e]
theorem Ui(a:Int)(b:Str):decide ((Sum.inl a:Key)=Sum.inr b)=false:=decide_eq_false (λq=>nomatch q)
theorem Wv(a:Str)(b:Int):decide ((Sum.inr a:Key)=Sum.inl b)=false:=decide_eq_false (λq=>nomatch q)
noncomputable def c8(prog:Program)(w:World):PySem.KeyKind prog w Key where
 is:=wm;hash:=aaP w;inj:=λv a b ha hb=>by
  rcases cB ha with⟨i,t,rfl,rfl⟩|⟨x,t,rfl,rfl⟩
  ·rcases cB hb with⟨j,u,rfl,e⟩|⟨y,u,rfl,e⟩;·injection e with e1 _;rw[e1]
   ·exact nomatch e
  ·rcases cB hb with⟨j,u,rfl,e⟩|⟨y,u,rfl,e⟩;·exact nomatch e
   ·injection e with e1 _;rw[e1]
 byValue:=λk v h=>by rcases cB h with⟨i,t,rfl,rfl⟩|⟨x,t,rfl,rfl⟩<;>rfl
 pyHash:=λc h=>by
  rcases cB c with⟨i,t,rfl,rfl⟩|⟨x,t,rfl,rfl⟩;·exact wpAny_pyHash_int h
  ·exact wpAny_pyHash_str h
 eqBool:=λd c h=>by
  rcases cB d with⟨i,t,rfl,rfl⟩|⟨x,t,rfl,rfl⟩
  ·rcases cB c with⟨j,u,rfl,rfl⟩|⟨y,u,rfl,rfl⟩;·rw[Up]at h;exact wpAny_eqBool_int h
   ·rw[Ui]at h;exact SeqAt.EqAt.int_str i t y u _ _ _ _ h
  ·rcases cB c with⟨j,u,rfl,rfl⟩|⟨y,u,rfl,rfl⟩;·rw[Wv]at h;exact SeqAt.EqAt.str_int x t j u _ _ _ _ h
   ·rw[Tt]at h;exact wpAny_eqBool_str h
 «strs»:=λk x t v h=>by
  rcases cB h with⟨i,u,rfl,e⟩|⟨y,u,rfl,e⟩;·exact nomatch e
  ·injection e with e1 _;subst e1;cases v<;>rfl
theorem Cz(prog:Program)(w:World)(i:Int)(t:Tok):(c8 prog w).is (.inl i) (.int i t)=true:=IM i t
theorem CM(prog:Program)(w:World)(x:Str)(t:Tok):(c8 prog w).is (.inr x) (.str x t)=true:=I_ x t
inductive V where|aP|bl(b:Bool)|int(i:Int)|str(x:Str)|Ke(b:Array UInt8)|V2(b:UInt64)|ref(a:Addr)|ty(n:String)deriving DecidableEq
noncomputable def RelV:V->Value->Prop| .aP,u=>u=Value.none| .bl b,u=>u=Value.bool b| .int i,u=>∃t,u=Value.int i t| .str x,u=>∃t,u=Value.str x t| .Ke b,u=>∃t,u=Value.bytes b t| .V2 b,u=>∃t,u=Value.float b t| .ref a,u=>u=Value.ref a| .ty n,u=>u=Value.type n
noncomputable abbrev Vals:List V->List Value->Prop:=Paired RelV
theorem Vals.length{xs:List V}{us:List Value}(r:Vals xs us):xs.length=us.length:=Paired.length r
theorem Vals.get:∀{xs:List V}{us:List Value}{i:Nat}{x:V},Vals xs us->xs[i]?=some x->∃u,us[i]?=some u/\RelV x u|_,_,_,_, .nil,e=>by simp at e|_,_,0,_, .cons r _,e=>by simp at e;subst e;exact⟨_,rfl,r⟩|_,_,i+1,x, .cons _ t,e=>by obtain⟨u,h1,h2⟩:=Vals.get (i:=i) (x:=x) t (by simpa using e);exact⟨u,by simpa using h1,h2⟩
theorem Vals.set{x:V}{u:Value}(r:RelV x u):∀{xs:List V}{us:List Value}(i:Nat),Vals xs us->Vals (xs.set i x) (us.set i u)|_,_,_, .nil=> .nil|_,_,0, .cons _ t=> .cons r t|_,_,i+1, .cons q t=> .cons q (Vals.set r i t)
theorem Vals.append:∀{xs a:List V}{us ws:List Value},Vals xs us->Vals a ws->Vals (xs++a) (us++ws)|_,_,_,_, .nil,s=>s|_,_,_,_, .cons r t,s=> .cons r (Vals.append t s)
theorem Vals.take:∀{xs:List V}{us:List Value}(n:Nat),Vals xs us->Vals (xs.take n) (us.take n)|_,_,0,_=> .nil|_,_,_+1, .nil=> .nil|_,_,n+1, .cons r t=> .cons r (Vals.take n t)
theorem Vals.drop:∀{xs:List V}{us:List Value}(n:Nat),Vals xs us->Vals (xs.drop n) (us.drop n)|_,_,0,r=>r|_,_,_+1, .nil=> .nil|_,_,n+1, .cons _ t=>Vals.drop n t
noncomputable def uP:Option V->Option Value->Prop|some v,some u=>RelV v u|none,none=>True|_,_=>False
noncomputable def KV{a:Type}:List (a×V)->List (a×Value)->Prop:=Paired λ(p:a×V)(q:a×Value)=>p.1=q.1/\RelV p.2 q.2
noncomputable def kV:Key->V| .inl i=> .int i| .inr x=> .str x
inductive QA where|tab(q:Str)(ln cl:Value)|code(q:Str)
inductive HO where/--a list -/|lst(xs:List V)/--a tuple (never changes) -/|tup(xs:List V)/--a dict whose keys are ints and texts; one whose keys are tuples of ints and texts (the empty one is both) -/|dK(aF:List (Key×V))|dT(aF:List (List Key×V))/--a set of ints: its members, its size -/|set(S:Int->Bool)(n:Nat)/--an instance of the class at C, its dict at dx, its attributes -/|ins(C dx:Addr)(fs:List (Str×V))/--the dict of the instance at x -/|own(x:Addr)/--the dict of an exception -/|xd(fs:List (Str×V))/--a bound method, f of x -/|met(f x:Addr)/--a range object lo, lo + 1, .. below hi -/|rng(lo hi:Int)/--a thing that is known to the object (the script; a dict while a loop walks it): read, never written while it is so -/|DK(o:Obj)(u:HO)/--a code object's table -/|uQ(ps:QA)/--any other thing, by what is true of its one object (a def of one's own: SetO a S n := HO.ext fun h => ..) -/|ext(φ:Heap->Prop)
noncomputable abbrev Hp:=Addr->Option HO
noncomputable def upd(H:Hp)(a:Addr)(o:HO):Hp:=λb=>if b=a then some o else H b
theorem aq{H:Hp}{a:Addr}{o:HO}:upd H a o a=some o:=by unfold upd;rw[if_pos rfl]
theorem bf{H:Hp}{a b:Addr}{o:HO}(h:b≠a):upd H a o b=H b:=by unfold upd;rw[if_neg h]
theorem RW{H:Hp}{a b:Addr}{o u:HO}(h:H a=some o)(h':H b=some u)(d:o≠u):a≠b:=by intro e;subst e;rw[h]at h';exact d (Option.some.inj h')
theorem aT{H:Hp}{a b:Addr}{o:HO}(h:H a=some o)(h':H b=none):a≠b:=by intro e;subst e;rw[h]at h';cases h'
section
variable(P:Program)(w:World)
noncomputable def cu(H:Hp)(h:Heap)(a:Addr):HO->Prop| .lst xs=>xs.length<=sizeLine/\∃(b:List Value)(n:Nat),Vals xs b/\h.get? a=some {cls:= .type "list",data:= .seq b.toArray n}| .tup xs=>xs.length<=sizeLine/\∃b:List Value,Vals xs b/\IsTup h a b.toArray| .dK aF=>aF.length<=sizeLine/\(a==sysModules)=false/\∃vs,KV aF vs/\h.DictOf (c8 P w) a vs| .dT aF=>aF.length<=sizeLine/\(a==sysModules)=false/\∃xs:List (List Key×Addr×Value),Paired (λ(p:List Key×V)(q:List Key×Addr×Value)=>p.1=q.1/\H q.2.1=some (.tup (p.1.map kV))/\RelV p.2 q.2.2) aF xs/\∃o es ep,h.get? a=some o/\o.ExactDict/\o.data= .dict es ep/\es.toList=xs.map (entryOfKey (tupleKind (c8 P w)))/\(xs.map (·.1)).Nodup| .set S n=>h.SetOf (intKind P w) a S n| .ins C dx fs=>H dx=some (.own a)/\fs.length<=1000/\dx≠a/\h.get? a=some (PySem.W.instObj C dx)/\∃mA,h.Ns1 dx mA/\(∀f,uP (fs.lookup f) (mA f))/\PySem.Within mA (fs.map (·.1))| .own _=>∃o,h.get? a=some o| .xd fs=>∃mA,h.Ns1 a mA/\∀f,uP (fs.lookup f) (mA f)| .rng lo hi=>∃t u v,h.get? a=some {cls:= .type "range",data:= .fields #[.int lo t, .int hi u, .int 1 v]}| .DK o u=>h.get? a=some o/\cu H h a u| .uQ (.tab q ln cl)=>h.get? a=some {cls:= .none,data:= .fields #[]}\/∃c,h.get? a=some {cls:= .none,data:= .fields #[ln,cl, .ref c]}/\H c=some (.uQ (.code q))| .uQ (.code q)=>h.CodeRec (.ref a) q| .met f x=>h.get? a=some (PySem.W.methodObj (.ref f) (.ref x))| .ext φ=>φ h/\(∃o,h.get? a=some o)/\∀h1 h2:Heap,φ h1->(∀o,h1.get? a=some o->h2.get? a=some o)->φ h2
def jd(H:Hp)(h:Heap):Prop:=∀a o,H a=some o->cu P w H h a o
end
section
variable{P:Program}{w:World}{H H':Hp}{h h':Heap}{a:Addr}{o:HO}
theorem cu.lt(x:cu P w H h a o):a<h.objs.size:=by
 cases o with
  |lst xs=>obtain⟨_,_,_,_,e⟩:=x;exact bL e
  |tup xs=>obtain⟨_,_,_,p⟩:=x;exact p.lt
  |dK aF=>obtain⟨_,_,_,_,o,_,_,e,_⟩:=x;exact bL e
  |dT aF=>obtain⟨_,_,_,_,o,_,_,e,_⟩:=x;exact bL e
  |set S n=>obtain⟨o,_,_,_,e,_⟩:=x;exact bL e
  |ins C dx fs=>obtain⟨_,_,_,e,_⟩:=x;exact bL e
  |own y=>obtain⟨_,e⟩:=x;exact bL e
  |xd fs=>obtain⟨_,⟨_,_,_,e,_⟩,_⟩:=x;exact bL e
  |rng lo hi=>obtain⟨_,_,_,e⟩:=x;exact bL e
  |DK ob u=>obtain⟨e,_⟩:=x;exact bL e
  |uQ ps=>cases ps with|tab q ln cl=>rcases x with e|⟨c,e,_⟩<;>exact bL e|code q=>obtain⟨c,o,vs,t,e1,e2,_⟩:=x;cases e1;exact bL e2
  |met f y=>exact bL (show h.get? a=some _ from x)
  |ext φ=>obtain⟨_,⟨_,e⟩,_⟩:=x;exact bL e
theorem Paired.VR{e g:Type}{F G:e->g->Prop}:∀{c:List e}{d:List g},Paired F c d->(∀a b,F a b->G a b)->Paired G c d|_,_, .nil,_=> .nil|_,_, .cons r t,f=> .cons (f _ _ r) (Paired.VR t f)
noncomputable def Fix:HO->Prop| .tup _=>True| .uQ _=>True|_=>False
noncomputable abbrev aac:={u:HO//Fix u}
theorem cu.pO(x:cu P w H h a o)(k:∀b u,(b=a\/H b=some (.own a))->h.get? b=some u->h'.get? b=some u)(j:∀b,H b=some (.own a)->H' b=some (.own a))(ht:∀(b:Addr)(u:aac),H b=some u.1->H' b=some u.1):cu P w H' h' a o:=by
 induction o with
  |lst xs=>obtain⟨z,g,n,r,e⟩:=x;exact⟨z,g,n,r,k _ _ (.inl rfl) e⟩
  |tup xs=>obtain⟨z,g,r,ob,e,c⟩:=x;exact⟨z,g,r,ob,k _ _ (.inl rfl) e,c⟩
  |dK aF=>obtain⟨z,y,vs,r,ob,es,ep,e,c⟩:=x;exact⟨z,y,vs,r,ob,es,ep,k _ _ (.inl rfl) e,c⟩
  |dT aF=>obtain⟨z,y,xs,r,ob,es,ep,e,c⟩:=x;exact⟨z,y,xs,Paired.VR r λp q z=>⟨z.1,ht _ ⟨.tup _,trivial⟩ z.2.1,z.2.2⟩,ob,es,ep,k _ _ (.inl rfl) e,c⟩
  |set S n=>obtain⟨ob,es,ep,t,e,c⟩:=x;exact⟨ob,es,ep,t,k _ _ (.inl rfl) e,c⟩
  |ins C dx fs=>obtain⟨d,z,ne,e,mA,⟨od,es,ep,e2,c⟩,r⟩:=x;exact⟨j _ d,z,ne,k _ _ (.inl rfl) e,mA,⟨od,es,ep,k _ _ (.inr d) e2,c⟩,r⟩
  |own y=>obtain⟨ob,e⟩:=x;exact⟨ob,k _ _ (.inl rfl) e⟩
  |xd fs=>obtain⟨mA,⟨od,es,ep,e,c⟩,r⟩:=x;exact⟨mA,⟨od,es,ep,k _ _ (.inl rfl) e,c⟩,r⟩
  |rng lo hi=>obtain⟨t,u,v,e⟩:=x;exact⟨t,u,v,k _ _ (.inl rfl) e⟩
  |DK ob u l=>obtain⟨e,q⟩:=x;exact⟨k _ _ (.inl rfl) e,l q⟩
  |uQ ps=>
   cases ps with
    |tab q ln cl=>
     rcases x with e|⟨c,e,r⟩;·exact .inl (k a _ (.inl rfl) e)
     ·exact .inr ⟨c,k a _ (.inl rfl) e,ht c ⟨.uQ (.code q),trivial⟩ r⟩
    |code q=>obtain⟨c,o,vs,t,e1,e2,i⟩:=x;cases e1;exact⟨_,o,vs,t,rfl,k a _ (.inl rfl) e2,i⟩
  |met f y=>have e:h.get? a=some (PySem.W.methodObj (.ref f) (.ref y)):=x;show h'.get? a=some (PySem.W.methodObj (.ref f) (.ref y));exact k a _ (.inl rfl) e
  |ext φ=>obtain⟨p,⟨o,e⟩,st⟩:=x;exact⟨st _ _ p λo q=>k _ _ (.inl rfl) q,⟨o,k _ _ (.inl rfl) e⟩,st⟩
theorem jd.lt(x:jd P w H h)(e:H a=some o):a<h.objs.size:=(x a o e).lt
theorem jd.fresh(x:jd P w H h)(e:h.objs.size<=a):H a=none:=by cases q:H a with|none=>rfl|some u=>exact absurd (gd (x.lt q) e) (Nat.lt_irrefl _)
theorem jd.kept(x:jd P w H h)(k:∀b u,h.get? b=some u->h'.get? b=some u):jd P w H h':=λa o e=>(x a o e).pO (λb u _ q=>k b u q) (λ_ q=>q) λ_ _ q=>q
theorem jd.laid(x:jd P w H h)(k:∀b u,h.get? b=some u->h'.get? b=some u)(d:h.objs.size<=a)(new:cu P w (upd H a o) h' a o):jd P w (upd H a o) h':=λb u e=>by
 have hn:=x.fresh d;by_cases hb:b=a;·subst hb;rw[aq]at e;cases e;exact new
 ·rw[bf hb]at e;exact(x b u e).pO (λc v _ q=>k c v q) (λc q=>by rw[bf (aT q hn)];exact q) λc xs q=>by rw[bf (aT q hn)];exact q
end
def Rd(H:Hp)(a:Addr)(u:HO):Prop:=H a=some u\/∃o,H a=some (.DK o u)
theorem Rd.ok{P:Program}{w:World}{H:Hp}{h:Heap}{a:Addr}{u:HO}(r:Rd H a u)(x:jd P w H h):cu P w H h a u:=by
 rcases r with r|⟨o,r⟩;·exact x a u r
 ·obtain⟨_,q⟩:=x a _ r;exact q
noncomputable def Zf:Option HO->Prop|some (.lst _)=>True|some (.dK _)=>True|some (.dT _)=>True|some (.set _ _)=>True|some (.ins _ _ _)=>True|some (.ext _)=>True|_=>False
section
variable{P:Program}{w:World}{H:Hp}{h h':Heap}{x e:Addr}{o':HO}
theorem jd.write(ok:jd P w H h)(d:Zf (H x))(g:e=x\/H e=some (.own x))(k:∀b u,b≠e->h.get? b=some u->h'.get? b=some u)(l:∃u,h'.get? e=some u)(new:cu P w (upd H x o') h' x o'):jd P w (upd H x o') h':=λb u q=>by
 have i:∀c y,H c=some (.own y)->c≠x:=λc y r z=>by subst z;rw[r]at d;exact d
 have n:∀(c:Addr)(u:aac),H c=some u.1->c≠x:=λc⟨u,f⟩r z=>by subst z;rw[show H c=some u from r]at d;cases u<;>first|exact d|exact f
 by_cases hb:b=x;·subst hb;rw[aq]at q;cases q;exact new
 ·rw[bf hb]at q;by_cases a:b=e
  ·have j:H b=some (.own x):=by
    rcases g with z|z;·exact absurd (a.trans z) hb
    ·rw[a];exact z
   rw[q]at j;cases j;obtain⟨v,m⟩:=l;exact⟨v,by rw[a];exact m⟩
  ·refine(ok b u q).pO (λc v hc r=>k c v ?_ r) (λc r=>by rw[bf (i c b r)];exact r) λc xs r=>by rw[bf (n c xs r)];exact r
   rcases hc with rfl|hc;·exact a
   ·rintro rfl;rcases g with z|z;·exact i c b hc z
    ·rw[hc]at z;cases z;exact hb rfl
end
structure Un(fs ex:List Addr)(H H':Hp)(h h':Heap):Prop where
 keep:∀b o,h.get? b=some o->H b=none->b∉fs->b∉ex->h'.get? b=some o
 slot:∀b o,h.get? b=some o->H b=none->b∈fs->b∉ex->∃sl,h'.get? b=some {o with slots:=sl}
 free:∀b o,h.get? b=some o->H b=none->b∉ex->H' b=none
 there:∀b o,h.get? b=some o->b∉ex->∃o',h'.get? b=some o'
 va:∀b xs,H b=some (.tup xs)->H' b=some (.tup xs)
 uc:∀b o u,H b=some (.DK o u)->H' b=some (.DK o u)
 uq:∀b ps,H b=some (.uQ ps)->H' b=some (.uQ ps)
section
variable{fs fs' ex ex':List Addr}{H H1 H2:Hp}{h h1 h2 h':Heap}{a x e:Addr}{o:HO}
theorem Un.any(u:Un fs ex H H1 h h1){b:Addr}{ob:Obj}(q:h.get? b=some ob)(n:H b=none)(c:b∉ex):∃sl,h1.get? b=some {ob with slots:=sl}:=by
 by_cases hb:b∈fs;·exact u.slot b ob q n hb c
 ·exact⟨ob.slots,u.keep b ob q n hb c⟩
theorem Un.kept(k:∀b u,h.get? b=some u->h'.get? b=some u):Un fs ex H H h h':=⟨λb ob q _ _ _=>k b ob q,λb ob q _ _ _=>⟨ob.slots,k b ob q⟩,λ_ _ _ n _=>n,λb ob q _=>⟨ob,k b ob q⟩,λ_ _ q=>q,λ_ _ _ q=>q,λ_ ps q=>(by rw[q])⟩
theorem Un.refl:Un fs ex H H h h:=Un.kept λ_ _ q=>q
theorem Un.laid(k:∀b u,h.get? b=some u->h'.get? b=some u)(c:h.objs.size<=a)(hn:H a=none):Un fs ex H (upd H a o) h h' where
 keep:=λb u q _ _ _=>k b u q;slot:=λb u q _ _ _=>⟨u.slots,k b u q⟩;free:=λb u q n _=>by rw[bf (dN (gd (bL q) c))];exact n
 there:=λb u q _=>⟨u,k b u q⟩;va:=λb xs q=>by rw[bf (aT q hn)];exact q
 uc:=λb u xs q=>by rw[bf (aT q hn)];exact q
 uq:=λb ps q=>(by rw[bf (aT q hn),q])
theorem Un.write(c:Zf (H x))(g:e=x\/H e=some (.own x))(k:∀b u,b≠e->h.get? b=some u->h'.get? b=some u)(i:∃u,h'.get? e=some u):Un fs ex H (upd H x o) h h':=by
 have f:∀b,H b=none->b≠x:=λb n z=>by subst z;rw[n]at c;exact c
 have hb:∀b,H b=none->b≠e:=λb n z=>by
  subst z;rcases g with r|r;·exact f b n r
  ·rw[n]at r;cases r
 have hm:∀b u,H b=some u->¬Zf (some u)->b≠x:=λb u q j z=>by subst z;rw[q]at c;exact j c
 refine⟨λb u q n _ _=>k b u (hb b n) q,λb u q n _ _=>⟨u.slots,k b u (hb b n) q⟩,λb u q n _=>by rw[bf (f b n)];exact n,λb u q _=>?_,λb xs q=>by rw[bf (hm b _ q λz=>z)];exact q,λb u xs q=>by rw[bf (hm b _ q λz=>z)];exact q,λb ps q=>(by rw[bf (hm b _ q λz=>z),q])⟩;by_cases d:b=e;·subst d;exact i
 ·exact⟨u,k b u d q⟩
end
noncomputable def trk(h:Heap)(H:Hp):List Addr:=(List.range h.objs.size).filter λa=>(H a).isSome
noncomputable def As(h:Heap)(H:Hp):Heap:=PySem.W.hideAll h (trk h H)
theorem vZ(h:Heap)(H:Hp):(As h H).objs.size=h.objs.size:=PySem.W.hideAll_size _ _
theorem ll{h:Heap}{H:Hp}{b:Addr}{o:Obj}(e:h.get? b=some o)(n:H b=none):(As h H).get? b=some o:=PySem.W.hideAll_get _ e λhm=>by have q:(H b).isSome=true:=(List.mem_filter.mp hm).2;rw[n]at q;simp at q
theorem He{h:Heap}{H:Hp}{b:Addr}{o:Obj}(e:(As h H).get? b=some o):h.get? b=some o/\H b=none:=by have e':h.get? b=some o:=PySem.W.of_hideAll (trk h H) e;refine⟨e',?_⟩;cases q:H b with|none=>rfl|some x=>have hm:b∈trk h H:=List.mem_filter.mpr ⟨List.mem_range.mpr (bL e'),by simp[q]⟩;have z:(As h H).get? b=none:=PySem.W.hideAll_none (trk h H) hm;rw[z]at e;cases e
noncomputable def Pw(g h:Heap)(L:Addr):List (Addr×Obj):=(List.range h.objs.size).filterMap λa=>if a=L\/(g.get? a).isSome=true then none else(h.get? a).map λo=>(a,o)
noncomputable def rest(g h:Heap)(L d:Addr):List (Addr×Obj):=(Pw g h L).filter λp=>decide (p.1≠d)
def YE(mg:Str->Option Value)(h:Heap):Prop:=∃bm ob,mg "__builtins__"=some (.ref bm)/\bm≠builtinsNs/\h.get? bm=some ob/\ob.cls= .type "module"/\ob.dict=some builtinsNs/\ob.data= .plain
theorem YE.keeps{mg:Str->Option Value}{h h':Heap}(x:YE mg h)(k:∀b o,h.get? b=some o->h'.get? b=some o):YE mg h':=let⟨bm,ob,a,b,c,d⟩:=x;⟨bm,ob,a,b,k _ _ c,d⟩
structure Mod(K:PySem.W.Frag)(mg:Str->Option Value)(base:Heap):Prop where
 JA:K.In base
 glob:base.Ns mainGlobals mg
 blt:∃mb,base.Ns builtinsNs mb/\∀x:Str,x≠"__name__"->mb x=bootBuiltins x
 nolimit:base.NoLimit
 bm:YE mg base
structure Cx where
 prog:Program
 w:World
 K:PySem.W.Frag
 mg:Str->Option Value
 base:Heap
 A:Around
 N:List Str
 cj:Shared
 H₀:Hp
 env:Env
 outer:List Env
 stack:List Env
 ex:List Addr
 fn:Str->Bool
 calm:Bool
 pn:List (Addr×Obj)
 xe:Value->Shared->Prop
noncomputable def jL(l:List Env):List Addr:=l.filterMap (·.frame)
noncomputable abbrev Cx.fs(X:Cx):List Addr:=jL X.outer
def X8(sc:Scope)(x:Str):Prop:=sc.names.lookup x=some .local\/sc.names.lookup x=some .cell\/sc.names.lookup x=some .free
def Loc(sc:Scope)(x:Str):Prop:=sc.names.lookup x=some .local\/sc.names.lookup x=some .cell
noncomputable def Y8(sc:Scope)(x:Str):Bool:=match sc.names.lookup x with|some .local=>true|some .cell=>true|_=>false
theorem cI{sc:Scope}{x:Str}(h:Y8 sc x=true):Loc sc x:=by
 unfold Y8 at h;split at h;·exact Or.inl (by assumption)
 ·exact Or.inr (by assumption)
 ·cases h
noncomputable def Look(env:Env)(h:Heap)(m:Str->Option Value)(x:Str)(u:Value):Prop:=(env.kindOf x=some .local/\m x=some u)\/((env.kindOf x=some .cell\/env.kindOf x=some .free)/\∃c,env.cells.lookup x=some c/\h.IsCell c (some u))
structure Cx.Ok(X:Cx):Prop where
 mod:Mod X.K X.mg X.base
 kind:X.env.scope.kind= .function
 glob:X.env.globals=mainGlobals
 blt:X.env.builtins=builtinsNs
 above:X.cj.heap.objs.size<=X.env.locals
 inj:∀x y c,X.env.cells.lookup x=some c->X.env.cells.lookup y=some c->x=y
 has:∀x,(X.env.kindOf x=some .cell\/X.env.kindOf x=some .free)->∃c,X.env.cells.lookup x=some c
 OQ:∀x c,X.fn x=true->X.env.cells.lookup x=some c->X.cj.heap.objs.size<=c
 hd:X.calm=true->HBp X.base X.pn X.A
 frames:X.A.frames=some X.stack
 Q_:X.stack=X.outer\/(X.stack=X.env::X.outer/\X.env.frame=some X.env.locals)
 RO:∀b∈X.ex,b≠X.env.locals/\∀x c,X.env.cells.lookup x=some c->c≠b
 bs:∀b o,X.base.get? b=some o->X.cj.heap.get? b=some o/\X.H₀ b=none
 Ba:X.base.objs.size<=X.cj.heap.objs.size
 pS:∀b o,X.base.get? b=some o->b∉X.ex
 vx:∀b∈X.ex,b∉X.fs
 gZ:X.cj.heap.FunFrames X.base X.outer
 Oq:∀b∈X.fs,X.H₀ b=none
structure Inv(X:Cx)(pins:List (Addr×Obj))(σ:List (Option V))(H:Hp)(s:Shared):Prop where
 ok:X.Ok
 os:s.os=X.cj.os
 bare:AllBare s.gens
 base:Un X.fs X.ex X.H₀ H X.cj.heap s.heap
 loc:∃m,s.heap.Ns X.env.locals m/\∀(i:Nat)(x:Str)(v:V),X.N[i]?=some x->σ[i]?=some (some v)->X8 X.env.scope x->∃u,RelV v u/\Look X.env s.heap m x u
 cell:∀x c,X.env.cells.lookup x=some c->∃v,s.heap.IsCell c v
 free:H X.env.locals=none
 eE:∀x c,X.env.cells.lookup x=some c->H c=none
 pin:∀p∈X.pn++pins,s.heap.get? p.1=some p.2/\H p.1=none/\p.1≠X.env.locals/\p.1∉X.fs/\∀v,p.2.data≠ .cell v
 bX:jd X.prog X.w H s.heap
 len:σ.length=X.N.length
section
variable{X:Cx}{pins:List (Addr×Obj)}{σ:List (Option V)}{H H':Hp}{s:Shared}{h':Heap}
theorem Cx.Ok.Ub(ok:X.Ok){b:Addr}{o:Obj}(e:X.base.get? b=some o):b∉X.fs:=λhb=>by have :=(ok.gZ.mem hb).1;rw[e]at this;cases this
theorem Inv.bs(I:Inv X pins σ H s):∀b o,X.base.get? b=some o->s.heap.get? b=some o/\H b=none:=λb o e=>⟨I.base.keep b o (I.ok.bs b o e).1 (I.ok.bs b o e).2 (I.ok.Ub e) (I.ok.pS b o e),I.base.free b o (I.ok.bs b o e).1 (I.ok.bs b o e).2 (I.ok.pS b o e)⟩
theorem Inv.bk(I:Inv X pins σ H s):∀b o,X.base.get? b=some o->s.heap.get? b=some o:=λb o e=>(I.bs b o e).1
theorem Inv.mod(I:Inv X pins σ H s):Mod X.K X.mg X.base:=I.ok.mod
theorem Inv.hb(I:Inv X pins σ H s)(hc:X.calm=true):HB s.heap X.A:=by
 rcases I.ok.hd hc with h|⟨a,oe,vs,e1,e2,b⟩;·exact .inl h
 ·exact .inr ⟨a,oe,vs,e1,e2.elim (I.bk a oe) λm=>(I.pin (a,oe) (p_ _ m)).1,b⟩
theorem Inv.EG(I:Inv X pins σ H s)(hc:X.calm=true){it:Addr}(d:it∈X.ex\/X.cj.heap.objs.size<=it)(e:∀p∈X.pn++pins,p.1≠it):∀a,X.A.handled=some (.ref a)->a≠it:=λa c z=>by
 subst z;rcases I.ok.hd hc with h|⟨b,oe,vs,e1,e2,f⟩;·rw[h]at c;cases c
 ·rw[e1]at c;cases c;rcases e2 with e2|e2
  ·rcases d with z|z;·exact I.ok.pS _ _ e2 z
   ·exact absurd (gd (bL e2) I.ok.Ba) (Nat.not_lt.mpr z)
  ·exact e _ (p_ _ e2) rfl
theorem Inv.kS(I:Inv X pins σ H s):X.K.In s.heap:=I.ok.mod.JA.keeps I.bk
theorem Inv.fr(I:Inv X pins σ H s):∃m,Fr X.base X.env.locals s.heap m:=let⟨m,hn,_⟩:=I.loc;⟨m,hn,I.bk,cS I.ok.Ba I.ok.above⟩
theorem Inv.lt(I:Inv X pins σ H s):X.env.locals<s.heap.objs.size:=let⟨_,hn,_⟩:=I.loc;hn.lt
theorem Inv.sz(I:Inv X pins σ H s):X.cj.heap.objs.size<=s.heap.objs.size:=cS I.ok.above (Nat.le_of_lt I.lt)
theorem Inv.abt(I:Inv X pins σ H s){a:Addr}(h:s.heap.objs.size<=a):a∉X.fs:=λhb=>by obtain⟨_,o,b,_⟩:=I.ok.gZ.mem hb;exact absurd (gd (bL b) (cS I.sz h)) (Nat.lt_irrefl _)
theorem Inv.Se(I:Inv X pins σ H s):∀x c,X.env.cells.lookup x=some c->c≠X.env.locals:=λx c e z=>by obtain⟨v,o,a,hd⟩:=I.cell x c e;obtain⟨m,⟨o',es,ep,d,b,_⟩,_⟩:=I.loc;rw[z,d]at a;cases a;rw[b]at hd;cases hd
theorem Inv.gZ(I:Inv X pins σ H s):s.heap.FunFrames X.base X.outer:=by
 have all:∀(l:List Env),(∀b∈jL l,b∈X.fs)->X.cj.heap.FunFrames X.base l->s.heap.FunFrames X.base l:=by intro l;induction l with|nil=>intro _ _;trivial|cons env r h=>intro c hl;obtain⟨d,⟨L,o,hf,hn,f,hd⟩,g⟩:=hl;have a:L∈X.fs:=c L (by unfold jL;rw[List.filterMap_cons,hf];exact eC);obtain⟨sl,e⟩:=I.base.slot L o f (I.ok.Oq L a) a λz=>I.ok.vx L z a;exact⟨d,⟨L,_,hf,hn,e,hd⟩,h (λb hb=>c b (by unfold jL;rw[List.filterMap_cons,hf];exact dX _ hb)) g⟩
 exact all X.outer (λ_ hb=>hb) I.ok.gZ
theorem Inv.stack(I:Inv X pins σ H s):s.heap.FunFrames X.base X.stack:=by
 rcases I.ok.Q_ with e|⟨e,hf⟩;·rw[e];exact I.gZ
 ·rw[e];obtain⟨m,hn,_⟩:=I.loc;refine .cons (by rw[I.ok.kind];decide) hf hn ?_ I.gZ;exact Heap.get?_none_of_le (cS I.ok.Ba I.ok.above)
theorem Inv.f7(I:Inv X pins σ H s):∀b∈jL X.stack,b∈X.env.locals::X.fs:=λb hb=>by
 rcases I.ok.Q_ with e|⟨e,hf⟩;·rw[e]at hb;exact dX _ hb
 ·rw[e]at hb;unfold jL at hb;rw[List.filterMap_cons,hf]at hb;exact hb
theorem Inv.zX(I:Inv X pins σ H s):∀b∈jL X.stack,H b=none:=λb hb=>by
 rcases List.mem_cons.mp (I.f7 b hb)with e|hb;·rw[e];exact I.free
 ·obtain⟨_,o,a,_⟩:=I.ok.gZ.mem hb;exact I.base.free b o a (I.ok.Oq b hb) λz=>I.ok.vx b z hb
theorem Inv.step{g':Array GenState}{t':Nat}{d':Drawn}{ch:List Addr}(I:Inv X pins σ H s)(g:∀b∈ch,(b∈X.ex\/X.cj.heap.objs.size<=b)/\b≠X.env.locals/\(∀x c,X.env.cells.lookup x=some c->c≠b)/\∀p∈X.pn++pins,p.1≠b)(keep:∀b o,b≠X.env.locals->b∉X.fs->b∉ch->s.heap.get? b=some o->H b=none->h'.get? b=some o)(slot:∀b o,b≠X.env.locals->b∈X.fs->b∉ch->s.heap.get? b=some o->H b=none->∃sl,h'.get? b=some {o with slots:=sl})(free:∀b o,b∉ch->s.heap.get? b=some o->H b=none->H' b=none)(there:∀b o,b∉ch->s.heap.get? b=some o->∃o',h'.get? b=some o')(va:∀b xs,H b=some (.tup xs)->H' b=some (.tup xs))(uc:∀b o u,H b=some (.DK o u)->H' b=some (.DK o u))(uq:∀b ps,H b=some (.uQ ps)->H' b=some (.uQ ps))(ns:∀m,s.heap.Ns X.env.locals m->h'.Ns X.env.locals m)(bX:jd X.prog X.w H' h')(B:AllBare g'):Inv X pins σ H' {s with heap:=h',gens:=g',drawn:=d',toks:=t'}:=by
 have w:∀b o,X.cj.heap.get? b=some o->b≠X.env.locals:=λb o e=>dN (gd (bL e) I.ok.above);have j:∀b o,X.cj.heap.get? b=some o->b∉X.ex->b∉ch:=λb o e a hb=>by
  rcases(g b hb).1 with z|z;·exact a z
  ·exact absurd (gd (bL e) z) (Nat.lt_irrefl _)
 have cellK:∀x c,X.env.cells.lookup x=some c->∀v,s.heap.IsCell c v->h'.IsCell c v:=λx c e v⟨o,f,hd⟩=>by
  have h:c∉ch:=λz=>(g c z).2.2.1 x c e rfl;by_cases hc:c∈X.fs;·obtain⟨sl,q⟩:=slot c o (I.Se x c e) hc h f (I.eE x c e);exact⟨_,q,hd⟩
  ·exact⟨o,keep c o (I.Se x c e) hc h f (I.eE x c e),hd⟩
 refine⟨I.ok,I.os,B,⟨λb o e n hb a=>?_,λb o e n hb a=>?_,λb o e n a=>?_,λb o e a=>?_,λb xs e=>va b xs (I.base.va b xs e),λb o xs e=>uc b o xs (I.base.uc b o xs e),λb ps e=>?_⟩,?_,λx c e=>?_,?_,λx c e=>?_,λp t=>?_,bX,I.len⟩;·exact keep b o (w b o e) hb (j b o e a) (I.base.keep b o e n hb a) (I.base.free b o e n a)
 ·obtain⟨sl,e1⟩:=I.base.slot b o e n hb a;obtain⟨C,e2⟩:=slot b _ (w b o e) hb (j b o e a) e1 (I.base.free b o e n a);exact⟨C,e2⟩
 ·obtain⟨o',e1⟩:=I.base.there b o e a;exact free b o' (j b o e a) e1 (I.base.free b o e n a)
 ·obtain⟨o',e1⟩:=I.base.there b o e a;exact there b o' (j b o e a) e1
 ·exact uq b ps (I.base.uq b ps e)
 ·obtain⟨m,hn,hl⟩:=I.loc;refine⟨m,ns m hn,λi x v e1 e2 A=>?_⟩;obtain⟨u,r,l⟩:=hl i x v e1 e2 A;refine⟨u,r,?_⟩;rcases l with l|⟨k,c,e,z⟩;·exact .inl l
  ·exact .inr ⟨k,c,e,cellK x c e _ z⟩
 ·obtain⟨v,z⟩:=I.cell x c e;exact⟨v,cellK x c e v z⟩
 ·obtain⟨m,⟨o,_,_,f,_⟩,_⟩:=I.loc;exact free _ o (λz=>(g _ z).2.1 rfl) f I.free
 ·obtain⟨v,o,f,hd⟩:=I.cell x c e;exact free c o (λz=>(g c z).2.2.1 x c e rfl) f (I.eE x c e)
 ·obtain⟨e,n,ne,y,d⟩:=I.pin p t;have h:p.1∉ch:=λz=>(g p.1 z).2.2.2 p t rfl;exact⟨keep p.1 p.2 ne y h e n,free p.1 p.2 h e n,ne,y,d⟩
theorem Inv.un{t':Nat}(I:Inv X pins σ H s)(u:Un X.fs [] H H' s.heap h')(bX:jd X.prog X.w H' h'):Inv X pins σ H' {s with heap:=h',toks:=t'}:=by obtain⟨m,⟨o,es,ep,a,r⟩,_⟩:=id I.loc;obtain⟨sl,g⟩:=u.any a I.free (by simp);exact I.step (g':=s.gens) (d':=s.drawn) (ch:=[]) (λ_ z=>nomatch z) (λb o _ hb _ e n=>u.keep b o e n hb (by simp)) (λb o _ hb _ e n=>u.slot b o e n hb (by simp)) (λb o _ e n=>u.free b o e n (by simp)) (λb o _ e=>u.there b o e (by simp)) u.va u.uc u.uq (λi hm=>by obtain⟨o',f,d,c,h⟩:=hm;rw[a]at c;cases c;exact⟨_,f,d,g,h⟩) bX I.bare
theorem Inv.call{g':Array GenState}{t':Nat}{d':Drawn}{ch:List Addr}(I:Inv X pins σ H s)(u:Un (jL X.stack) ch H H' s.heap h')(bX:jd X.prog X.w H' h')(j:AllBare g')(d:∀b∈ch,(b∈X.ex\/X.cj.heap.objs.size<=b)/\b≠X.env.locals/\(∀x c,X.env.cells.lookup x=some c->c≠b)/\∀p∈X.pn++pins,p.1≠b):Inv X pins σ H' {s with heap:=h',gens:=g',drawn:=d',toks:=t'}:=by obtain⟨m,⟨o,es,ep,f,r⟩,_⟩:=id I.loc;obtain⟨sl,a⟩:=u.any f I.free λz=>(d _ z).2.1 rfl;exact I.step (ch:=ch) d (λb o a hb hc e n=>u.keep b o e n (λz=>(List.mem_cons.mp (I.f7 b z)).elim a hb) hc) (λb o _ _ hc e n=>u.any e n hc) (λb o hc e n=>u.free b o e n hc) (λb o hc e=>u.there b o e hc) u.va u.uc u.uq (λl hm=>by obtain⟨o',i,h,g,k⟩:=hm;rw[f]at g;cases g;exact⟨_,i,h,a,k⟩) bX j
theorem Inv.turned{t':Nat}{it:Addr}(I:Inv X pins σ H s)(k:∀b o,b≠it->s.heap.get? b=some o->h'.get? b=some o)(hn:H it=none)(a:it≠X.env.locals)(h1:it∈X.ex\/X.cj.heap.objs.size<=it)(h2:∀x c,X.env.cells.lookup x=some c->c≠it)(h3:∀p∈X.pn++pins,p.1≠it):Inv X pins σ H {s with heap:=h',toks:=t'}:=by
 have d:∀b u,H b=some u->b≠it:=λb u e z=>by rw[z,hn]at e;cases e
 refine I.step (g':=s.gens) (d':=s.drawn) (ch:=[it]) (λb hb=>?_) (λb o _ _ hc e _=>k b o (λz=>hc (by simp[z])) e) (λb o _ _ hc e _=>⟨o.slots,k b o (λz=>hc (by simp[z])) e⟩) (λ_ _ _ _ n=>n) (λb o hc e=>⟨o,k b o (λz=>hc (by simp[z])) e⟩) (λ_ _ e=>e) (λ_ _ _ e=>e) (λb ps e=>(by rw[e])) (λm hm=>?_) (λb u e=>?_) I.bare
 ·have e:b=it:=by simpa using hb
  subst e;exact⟨h1,a,h2,h3⟩
 ·obtain⟨o,es,ep,f,r⟩:=hm;exact⟨o,es,ep,k _ o (Ne.symm a) f,r⟩
 ·refine(I.bX b u e).pO (λc v hc q=>k c v ?_ q) (λ_ q=>q) λ_ _ q=>q;rcases hc with z|z;·rw[z];exact d b u e
  ·exact d c _ z
theorem Inv.tok(I:Inv X pins σ H s)(t:Nat):Inv X pins σ H {s with toks:=t}:=I.un (h':=s.heap) (t':=t) Un.refl I.bX
theorem Inv.kept{t':Nat}(I:Inv X pins σ H s)(k:∀b u,s.heap.get? b=some u->h'.get? b=some u):Inv X pins σ H {s with heap:=h',toks:=t'}:=I.un (Un.kept k) (I.bX.kept k)
theorem Inv.laid{a:Addr}{o:HO}{t':Nat}(I:Inv X pins σ H s)(k:∀b u,s.heap.get? b=some u->h'.get? b=some u)(c:s.heap.objs.size<=a)(new:cu X.prog X.w (upd H a o) h' a o):Inv X pins σ (upd H a o) {s with heap:=h',toks:=t'}:=I.un (Un.laid k c (I.bX.fresh c)) (I.bX.laid k c new)
theorem Inv.write{x e:Addr}{o:HO}{t':Nat}(I:Inv X pins σ H s)(d:Zf (H x))(a:e=x\/H e=some (.own x))(k:∀b u,b≠e->s.heap.get? b=some u->h'.get? b=some u)(c:∃u,h'.get? e=some u)(new:cu X.prog X.w (upd H x o) h' x o):Inv X pins σ (upd H x o) {s with heap:=h',toks:=t'}:=I.un (Un.write d a k c) (I.bX.write d a k c new)
theorem Inv.weak{a:List (Option V)}(I:Inv X pins σ H s)(hl:a.length=σ.length)(w:∀(i:Nat)v,a[i]?=some (some v)->σ[i]?=some (some v)):Inv X pins a H s:=⟨I.ok,I.os,I.bare,I.base,let⟨m,hn,c⟩:=I.loc;⟨m,hn,λi x v e1 e2 b=>c i x v e1 (w i v e2) b⟩,I.cell,I.free,I.eE,I.pin,I.bX,hl.trans I.len⟩
theorem Inv.qN{a:List (Addr×Obj)}(I:Inv X pins σ H s)(h:∀p∈a,s.heap.get? p.1=some p.2/\H p.1=none/\p.1≠X.env.locals/\p.1∉X.fs/\∀v,p.2.data≠ .cell v):Inv X a σ H s:=⟨I.ok,I.os,I.bare,I.base,I.loc,I.cell,I.free,I.eE,λp b=>(List.mem_append.mp b).elim (λz=>I.pin p (p_ _ z)) (h p),I.bX,I.len⟩
theorem B3{N:List Str}(c:N.Nodup){i j:Nat}{x:Str}(a:N[i]?=some x)(b:N[j]?=some x):i=j:=by obtain⟨h1,e1⟩:=List.getElem?_eq_some_iff.mp a;obtain⟨h2,e2⟩:=List.getElem?_eq_some_iff.mp b;exact(List.getElem_inj c).mp (e1.trans e2.symm)
theorem vI{M:Model}{A:Around}{E:Value->Shared->Prop}{i:Nat}{x:Str}{v:V}{u:Value}{Q:Unit->Shared->Prop}(I:Inv X pins σ H s)(L:X.N.Nodup)(hi:X.N[i]?=some x)(g:Loc X.env.scope x)(r:RelV v u)(h:∀s',Inv X pins (σ.set i (some v)) H s'->(∃a,Heap.SameBut a s.heap s'.heap/\(a=X.env.locals\/X.env.cells.lookup x=some a))->Q () s')(hf:X.fn x=true\/X.env.scope.names.lookup x=some .local:=by first|exact .inl rfl|exact .inr rfl|assumption):wpAny M A (storeName X.env x u) Q E s:=by
 obtain⟨m,hn,hl⟩:=id I.loc;have T:(X.env.scope.kind== .class||(X.env.scope.kind== .module&&X.env.locals !=X.env.globals))=false:=by rw[I.ok.kind];rfl
 have R:i<σ.length:=by rw[I.len];exact(List.getElem?_eq_some_iff.mp hi).1
 have Se:=I.Se;have tracked:∀{a:Addr}{h':Heap},(∃o,s.heap.get? a=some o/\H a=none)->Heap.SameBut a s.heap h'->jd X.prog X.w H h':=λ{a h'}ha f b ob e=>by
  obtain⟨_,_,P⟩:=ha;refine(I.bX b ob e).pO (λc w hc q=>(f.2 c ?_).trans q) (λ_ q=>q) λ_ _ q=>q;rintro rfl;rcases hc with rfl|hc;·rw[P]at e;cases e
  ·rw[P]at hc;cases hc
 rcases g with l|l
 ·refine wpAny_storeName_local l hn (λh' U f=>?_) T;obtain⟨Z,_,_,W,_⟩:=id hn;refine h _ ⟨I.ok,I.os,I.bare,⟨λb o e n hb g=>?_,λb o e n hb g=>?_,I.base.free,λb o e g=>?_,I.base.va,I.base.uc,I.base.uq⟩,⟨_,U,λj y K e1 e2 B=>?_⟩,λy c e=>?_,I.free,I.eE,λp D=>?_,tracked ⟨Z,W,I.free⟩ f,by simpa using I.len⟩ ⟨_,f, .inl rfl⟩;·exact(f.2 b (dN (gd (bL e) I.ok.above))).trans (I.base.keep b o e n hb g)
  ·obtain⟨sl,e1⟩:=I.base.slot b o e n hb g;exact⟨sl,(f.2 b (dN (gd (bL e) I.ok.above))).trans e1⟩
  ·obtain⟨o',e1⟩:=I.base.there b o e g;exact⟨o',(f.2 b (dN (gd (bL e) I.ok.above))).trans e1⟩
  ·by_cases t:j=i;·subst t;rw[hi]at e1;cases e1;rw[List.getElem?_set_self R]at e2;cases e2;exact⟨u,r, .inl ⟨l,by simp⟩⟩
   ·rw[List.getElem?_set_ne (Ne.symm t)]at e2;obtain⟨J,G,q⟩:=hl j y K e1 e2 B;refine⟨J,G,?_⟩;rcases q with⟨k,e⟩|⟨k,c,e,z⟩;·refine .inl ⟨k,?_⟩;have :y≠x:=λe=>t (B3 L e1 (e▸hi));simp[this,e]
    ·exact .inr ⟨k,c,e,z.sameBut f (Se y c e)⟩
  ·obtain⟨w,z⟩:=I.cell y c e;exact⟨w,z.sameBut f (Se y c e)⟩
  ·obtain⟨e,n,ne,F,d⟩:=I.pin p D;exact⟨(f.2 p.1 ne).trans e,n,ne,F,d⟩
 ·have C:X.fn x=true:=by
   rcases hf with z|z;·exact z
   ·rw[z]at l;cases l
  obtain⟨c,hc⟩:=I.ok.has x (.inl l);obtain⟨w,z⟩:=I.cell x c hc;refine wpAny_storeName_cell I.ok.kind l hc z (λh' N f=>?_);obtain⟨oc,S,Y⟩:=id z;refine h {s with heap:=h'} ⟨I.ok,I.os,I.bare,⟨λb o e n hb g=>?_,λb o e n hb g=>?_,I.base.free,λb o e g=>?_,I.base.va,I.base.uc,I.base.uq⟩,⟨m,hn.sameBut f (Ne.symm (Se x c hc)),λj y K e1 e2 B=>?_⟩,λy c' e=>?_,I.free,I.eE,λp D=>?_,tracked ⟨oc,S,I.eE x c hc⟩ f,by simpa using I.len⟩ ⟨c,f, .inr hc⟩;·exact(f.2 b (dN (gd (bL e) (I.ok.OQ x c C hc)))).trans (I.base.keep b o e n hb g)
  ·obtain⟨sl,e1⟩:=I.base.slot b o e n hb g;exact⟨sl,(f.2 b (dN (gd (bL e) (I.ok.OQ x c C hc)))).trans e1⟩
  ·obtain⟨o',e1⟩:=I.base.there b o e g;exact⟨o',(f.2 b (dN (gd (bL e) (I.ok.OQ x c C hc)))).trans e1⟩
  ·by_cases t:j=i;·subst t;rw[hi]at e1;cases e1;rw[List.getElem?_set_self R]at e2;cases e2;exact⟨u,r, .inr ⟨.inl l,c,hc,N⟩⟩
   ·rw[List.getElem?_set_ne (Ne.symm t)]at e2;obtain⟨J,G,q⟩:=hl j y K e1 e2 B;refine⟨J,G,?_⟩;rcases q with q|⟨k,c',e,z'⟩;·exact .inl q
    ·refine .inr ⟨k,c',e,z'.sameBut f ?_⟩;rintro rfl;exact t (B3 L e1 (I.ok.inj _ _ _ e hc▸hi))
  ·by_cases O:c'=c;·subst O;exact⟨_,N⟩
   ·obtain⟨w2,z2⟩:=I.cell y c' e;exact⟨w2,z2.sameBut f O⟩
  ·obtain⟨e,n,ne,F,d⟩:=I.pin p D;refine⟨(f.2 p.1 ?_).trans e,n,ne,F,d⟩;intro q;rw[q,S]at e;have q':oc=p.2:=Option.some.inj e;exact d w (by rw[<-q'];exact Y)
theorem ju{M:Model}{A:Around}{E:Value->Shared->Prop}{i:Nat}{x:Str}{v:V}{u:Value}{Q:Unit->Shared->Prop}(I:Inv X pins σ H s)(b:X.N.Nodup)(hi:X.N[i]?=some x)(c:Loc X.env.scope x)(r:RelV v u)(h:∀s',Inv X pins (σ.set i (some v)) H s'->Q () s')(hf:X.fn x=true\/X.env.scope.names.lookup x=some .local:=by first|exact .inl rfl|exact .inr rfl|assumption):wpAny M A (storeName X.env x u) Q E s:=vI I b hi c r (λs' a _=>h s' a) hf
theorem Inv.MH{s':Shared}{ch:List Addr}(I:Inv X pins σ H s)(f:s'.os=s.os)(u:Un (jL X.stack) ch H H' s.heap s'.heap)(bX:jd X.prog X.w H' s'.heap)(d:AllBare s'.gens)(a:∀b∈ch,(b∈X.ex\/X.cj.heap.objs.size<=b)/\b≠X.env.locals/\(∀x c,X.env.cells.lookup x=some c->c≠b)/\∀p∈X.pn++pins,p.1≠b):Inv X pins σ H' s':=by obtain⟨h',g',d',t',o'⟩:=s';have e:o'=s.os:=f;subst e;exact I.call (g':=g') (t':=t') (d':=d') u bX d a
end
noncomputable abbrev XK:=Value->Option Addr->Hp->Prop
noncomputable abbrev St:=List (Option V)
noncomputable abbrev VK:=V->Hp->Prop
noncomputable abbrev TE:=St->Hp->VK->Prop
noncomputable abbrev TT:=St->Hp->(Bool->Hp->Prop)->Prop
noncomputable abbrev TA:=St->Hp->(List V->Hp->Prop)->Prop
structure Ends where
 nx:St->Hp->Prop
 rt:VK
 bk:St->Hp->Prop:=λ_ _=>False
 ct:St->Hp->Prop:=λ_ _=>False
noncomputable abbrev TS:=Ends->St->Hp->Prop
def EP(X:Cx)(pins:List (Addr×Obj))(σ:St)(Q:VK)(u:Value)(s':Shared):Prop:=∃v H',Inv X pins σ H' s'/\RelV v u/\Q v H'
def TP(X:Cx)(pins:List (Addr×Obj))(σ:St)(Q:Bool->Hp->Prop)(b:Bool)(s':Shared):Prop:=∃H',Inv X pins σ H' s'/\Q b H'
def AP(X:Cx)(pins:List (Addr×Obj))(σ:St)(Q:List V->Hp->Prop)(us:List Value)(s':Shared):Prop:=∃vs H',Inv X pins σ H' s'/\Vals vs us/\Q vs H'
noncomputable def SP(X:Cx)(pins:List (Addr×Obj))(D:Ends)(f:Flow)(s':Shared):Prop:=match f with| .next=>∃a H',Inv X pins a H' s'/\D.nx a H'| .brk=>∃a H',Inv X pins a H' s'/\D.bk a H'| .cont=>∃a H',Inv X pins a H' s'/\D.ct a H'| .ret u=>∃v a H',Inv X pins a H' s'/\RelV v u/\D.rt v H'
noncomputable def PE(X:Cx)(e:Expr)(t:TE):Prop:=∀(pins:List (Addr×Obj))(s:Shared)(σ:St)(H:Hp)(Q:VK),Inv X pins σ H s->t σ H Q->wpAny (model X.prog X.w) X.A (eval e X.env) (EP X pins σ Q) X.xe s
noncomputable def PT(X:Cx)(e:Expr)(t:TT):Prop:=∀(pins:List (Addr×Obj))(s:Shared)(σ:St)(H:Hp)(Q:Bool->Hp->Prop),Inv X pins σ H s->t σ H Q->wpAny (model X.prog X.w) X.A (isTrue e X.env (eval e X.env)) (TP X pins σ Q) X.xe s
noncomputable def PW(X:Cx)(e:Expr)(t:TT):Prop:=∀(whole:Sem Value)(pins:List (Addr×Obj))(s:Shared)(σ:St)(H:Hp)(Q:Bool->Hp->Prop),Inv X pins σ H s->t σ H Q->wpAny (model X.prog X.w) X.A (isTrue e X.env whole) (TP X pins σ Q) X.xe s
theorem PW.pt{X:Cx}{e:Expr}{t:TT}(h:PW X e t):PT X e t:=h _
noncomputable def PA(X:Cx)(es:List Expr)(t:TA):Prop:=∀(a:Pos)(pins:List (Addr×Obj))(s:Shared)(σ:St)(H:Hp)(Q:List V->Hp->Prop),Inv X pins σ H s->t σ H Q->wpAny (model X.prog X.w) X.A (spliced (backTo a (starEach es X.env))) (AP X pins σ Q) X.xe s
noncomputable def PS(X:Cx)(st:Stmt)(t:TS):Prop:=∀(pins:List (Addr×Obj))(s:Shared)(σ:St)(H:Hp)(D:Ends),Inv X pins σ H s->t D σ H->wpAny (model X.prog X.w) X.A (exec st X.env) (SP X pins D) X.xe s
noncomputable def gT(X:Cx)(st:List Stmt)(t:TS):Prop:=∀(pins:List (Addr×Obj))(s:Shared)(σ:St)(H:Hp)(D:Ends),Inv X pins σ H s->t D σ H->wpAny (model X.prog X.w) X.A (execs st X.env) (SP X pins D) X.xe s
theorem bQ{c:Type}{t:Sem c}{Q b:c->Shared->Prop}{M:Model}{A:Around}{E:Value->Shared->Prop}{s:Shared}(h:wpAny M A t Q E s)(d:∀a s,Q a s->b a s):wpAny M A t b E s:=fE h d λ_ _ x=>x
section
variable{X:Cx}
noncomputable def Pk(i:Nat):TE:=λσ H Q=>∃v,σ[i]?=some (some v)/\Q v H
noncomputable def tC(v:V):TE:=λ_ H Q=>Q v H
theorem Na{i:Nat}{x:Str}{j:Pos}(d:X.N[i]?=some x)(g:X8 X.env.scope x)(hd:(x==("__debug__":Str))=false:=by decide)(f:(x==("__classdict__":Str))=false:=by decide):PE X (.Name x j) (Pk i):=by
 intro pins s σ H Q I h;obtain⟨v,e,h⟩:=h;obtain⟨m,hn,hl⟩:=I.loc;obtain⟨u,r,l⟩:=hl i x v d e g;have fin:EP X pins σ Q u s:=⟨v,H,I,r,h⟩;rcases l with⟨a,hm⟩|⟨a,c,hc,b⟩;·exact wpAny_Name (wpAny_loadName_local I.ok.kind a hn hm fin) hd
 ·rcases a with a|a;·exact wpAny_Name (wpAny_loadName_cell I.ok.kind a hc b fin) hd
  ·exact wpAny_Name (wpAny_loadName_free I.ok.kind a hc b fin f) hd
theorem ah{i j a}:PE X (.Constant (.int i) j a) (tC (.int i)):=λ_ _ _ H _ I h=>wpAny_Constant_int ⟨.int i,H,I.tok _,⟨_,rfl⟩,h⟩
theorem oY{b j a}:PE X (.Constant (.bool b) j a) (tC (.bl b)):=λ_ _ _ H _ I h=>Constant_bool ⟨.bl b,H,I,rfl,h⟩
theorem jq{j a}:PE X (.Constant .none j a) (tC .aP):=λ_ _ _ H _ I h=>Constant_none ⟨.aP,H,I,rfl,h⟩
theorem aE{x j a}:PE X (.Constant (.str x) j a) (tC (.str x)):=λ_ _ _ H _ I h=>Calls.Constant_str ⟨.str x,H,I.tok _,⟨_,rfl⟩,h⟩
def Gl(X:Cx)(x:Str):Prop:=X.env.kindOf x=some .globalImplicit
theorem j4{E:Value->Shared->Prop}{pins:List (Addr×Obj)}{s:Shared}{σ:St}{H:Hp}{x:Str}{u:Value}{b:Pos}{Q:Value->Shared->Prop}(I:Inv X pins σ H s)(a:Gl X x)(hm:X.mg x=some u)(h:Q u s)(hd:(x==("__debug__":Str))=false:=by decide):wpAny (model X.prog X.w) X.A (eval (.Name x b) X.env) Q E s:=Calls.Name_function_global I.ok.kind a (Calls.loadGlobal_global (by rw[I.ok.glob];exact I.mod.glob.keeps I.bk) hm h) hd
theorem jt{E:Value->Shared->Prop}{pins:List (Addr×Obj)}{s:Shared}{σ:St}{H:Hp}{x:Str}{u:Value}{c:Pos}{Q:Value->Shared->Prop}(I:Inv X pins σ H s)(a:Gl X x)(hm:X.mg x=none)(b:bootBuiltins x=some u)(h:Q u s)(hn:x≠"__name__":=by decide)(hd:(x==("__debug__":Str))=false:=by decide):wpAny (model X.prog X.w) X.A (eval (.Name x c) X.env) Q E s:=by obtain⟨mb,h1,h2⟩:=I.mod.blt;exact Calls.Name_function_global I.ok.kind a (Calls.loadGlobal_builtin (by rw[I.ok.glob];exact I.mod.glob.keeps I.bk) hm (by rw[I.ok.blt];exact h1.keeps I.bk) ((h2 x hn).trans b) h) hd
theorem zH{x:Str}{v:V}{u:Value}{b:Pos}(a:Gl X x)(hm:X.mg x=some u)(r:RelV v u)(hd:(x==("__debug__":Str))=false:=by decide):PE X (.Name x b) (tC v):=λ_ _ _ H _ I h=>j4 I a hm ⟨v,H,I,r,h⟩ hd
theorem Qz{x:Str}{v:V}{u:Value}{c:Pos}(a:Gl X x)(hm:X.mg x=none)(b:bootBuiltins x=some u)(r:RelV v u)(hn:x≠"__name__":=by decide)(hd:(x==("__debug__":Str))=false:=by decide):PE X (.Name x c) (tC v):=λ_ _ _ H _ I h=>jt I a hm b ⟨v,H,I,r,h⟩ hn hd
variable{a b:Expr}{ta tb:TE}{pos:Pos}
noncomputable def PC(X:Cx)(op:CmpOp)(a b:Expr)(t:TE):Prop:=∀(pins:List (Addr×Obj))(s:Shared)(σ:St)(H:Hp)(Q:VK),Inv X pins σ H s->t σ H Q->wpAny (model X.prog X.w) X.A (eval a X.env) (λv c=>wpAny (model X.prog X.w) X.A (eval b X.env) (λu d=>wpAny (model X.prog X.w) X.A (compareOp op v u) (EP X pins σ Q) X.xe d) X.xe c) X.xe s
noncomputable def tB(t:TE):TT:=λσ H Q=>t σ H λx d=>∃c,x= .bl c/\Q c d
theorem T7{op:CmpOp}{t:TE}(h:PC X op a b t)(h1:behindInMarks op b=false:=by first|exact j _ (by decide) (by decide)|rfl):PT X (.Compare a [op] [b] pos) (tB t):=by intro pins s σ H Q I hw;refine wpAny_isTrue_Compare1 (bQ (h pins s σ H _ I hw) λv s1 h1=>bQ h1 λu s2 h2=>bQ h2 λc k i=>?_) h1;obtain⟨x,e,f,g,q1⟩:=i;obtain⟨d,rfl,q⟩:=q1;cases g;exact kH ⟨e,f,q⟩
theorem jA{e:Expr}{t:TE}(h:PE X e t)(g:∀whole,isTrue e X.env whole=(do let v<-whole;standAt e.pos;holding [v] (truthy v)):=by intro _;rfl):PT X e (tB t):=by intro pins s σ H Q I hw;refine isTrue_plain (bQ (h pins s σ H _ I hw) λv s1 j=>?_) (g _);obtain⟨x,c,f,i,q1⟩:=j;obtain⟨d,rfl,q⟩:=q1;cases i;exact kH ⟨c,f,q⟩
variable{tA tB':TT}{rest:List Expr}
noncomputable def abW(t u:TT):TT:=λσ H Q=>t σ H λc d=>if c=true then u σ d Q else Q false d
noncomputable def tOr(t u:TT):TT:=λσ H Q=>t σ H λc d=>if c=true then Q true d else u σ d Q
noncomputable def ab2(t:TT):TT:=λσ H Q=>t σ H λc d=>Q (!c) d
theorem PJ(ha:PT X a tA):PW X (.BoolOp .And [a] pos) tA:=by intro d pins s σ H Q I h;refine isTrue_and (bQ (ha pins s σ H Q I h) λc s1 e=>?_);cases c with|true=>exact isTrue_and_nil e|false=>exact e
theorem jj(ha:PT X a tA):PW X (.BoolOp .Or [a] pos) tA:=by intro d pins s σ H Q I h;refine isTrue_or (bQ (ha pins s σ H Q I h) λc s1 e=>?_);cases c with|false=>exact isTrue_or_nil e|true=>exact e
theorem U9(ha:PT X a tA)(hb:PW X (.BoolOp .And (b::rest) pos) tB'):PW X (.BoolOp .And (a::b::rest) pos) (abW tA tB'):=by intro f pins s σ H Q I h;refine isTrue_and (bQ (ha pins s σ H _ I h) λc s1 g=>?_);obtain⟨d,e,q1⟩:=g;cases c with|true=>exact hb f pins s1 σ d Q e q1|false=>exact⟨d,e,q1⟩
theorem lO(ha:PT X a tA)(hb:PW X (.BoolOp .Or (b::rest) pos) tB'):PW X (.BoolOp .Or (a::b::rest) pos) (tOr tA tB'):=by intro f pins s σ H Q I h;refine isTrue_or (bQ (ha pins s σ H _ I h) λc s1 g=>?_);obtain⟨d,e,q1⟩:=g;cases c with|true=>exact⟨d,e,q1⟩|false=>exact hb f pins s1 σ d Q e q1
theorem nE(ha:PT X a tA):PT X (.UnaryOp .Not a pos) (ab2 tA):=by intro pins s σ H Q I h;exact isTrue_not (ha pins s σ H (λc d=>Q (!c) d) I h)
noncomputable def X_(ta tb:TE):TE:=λσ H Q=>ta σ H λx d=>∃c,x= .bl c/\if c=true then tb σ d Q else Q (.bl false) d
noncomputable def aa8(ta tb:TE):TE:=λσ H Q=>ta σ H λx d=>∃c,x= .bl c/\if c=true then Q (.bl true) d else tb σ d Q
noncomputable def Za(ta:TE):TE:=λσ H Q=>ta σ H λx d=>∃c,x= .bl c/\Q (.bl (!c)) d
theorem jl{op}{t:TE}(h:PE X a t):PE X (.BoolOp op [a] pos) t:=λpins s σ H Q I hw=>BoolOp_one (h pins s σ H Q I hw)
theorem kQ(ha:PE X a ta)(hb:PE X (.BoolOp .And (b::rest) pos) tb):PE X (.BoolOp .And (a::b::rest) pos) (X_ ta tb):=by intro pins s σ H Q I h;refine BoolOp_and (bQ (ha pins s σ H _ I h) λv s1 g=>?_);obtain⟨x,d,e,f,q1⟩:=g;obtain⟨c,rfl,q1⟩:=q1;cases f;refine kH ?_;cases c with|true=>exact hb pins s1 σ d Q e q1|false=>exact⟨.bl false,d,e,rfl,q1⟩
theorem C9(ha:PE X a ta)(hb:PE X (.BoolOp .Or (b::rest) pos) tb):PE X (.BoolOp .Or (a::b::rest) pos) (aa8 ta tb):=by intro pins s σ H Q I h;refine BoolOp_or (bQ (ha pins s σ H _ I h) λv s1 g=>?_);obtain⟨x,d,e,f,q1⟩:=g;obtain⟨c,rfl,q1⟩:=q1;cases f;refine kH ?_;cases c with|false=>exact hb pins s1 σ d Q e q1|true=>exact⟨.bl true,d,e,rfl,q1⟩
theorem M3(ha:PE X a ta):PE X (.UnaryOp .Not a pos) (Za ta):=by intro pins s σ H Q I h;refine UnaryOp_ (bQ (ha pins s σ H _ I h) λv s1 g=>?_);obtain⟨x,d,e,f,q1⟩:=g;obtain⟨c,rfl,q1⟩:=q1;cases f;exact not_of (kH ⟨.bl (!c),d,e,rfl,q1⟩)
noncomputable def tIf(t:TT)(ta tb:TE):TE:=λσ H Q=>t σ H λc d=>if c=true then ta σ d Q else tb σ d Q
theorem ig{c:Expr}(hc:PT X c tA)(ha:PE X a ta)(hb:PE X b tb):PE X (.IfExp c a b pos) (tIf tA ta tb):=by intro pins s σ H Q I h;refine wpAny_IfExp (bQ (hc pins s σ H _ I h) λd s1 g=>?_);obtain⟨e,f,q1⟩:=g;cases d with|true=>exact ha pins s1 σ e Q f q1|false=>exact hb pins s1 σ e Q f q1
end
noncomputable def bN(K:PySem.W.Frag)(H:Hp)(a:Addr)(xs:List V):Prop:=Rd H a (.lst xs)\/∃(o:Obj)(b:Array Value)(n:Nat),K.lookup a=some o/\o.cls= .type "list"/\o.dict=none/\o.data= .seq b n/\b.size<=sizeLine/\Vals xs b.toList
noncomputable def bS(K:PySem.W.Frag)(H:Hp)(a:Addr)(xs:List V):Prop:=Rd H a (.tup xs)\/∃(o:Obj)(b:Array Value)(n:Nat),K.lookup a=some o/\o.cls= .type "tuple"/\o.data= .seq b n/\b.size<=sizeLine/\Vals xs b.toList
noncomputable def aa6:Value->Option V| .none=>some .aP| .bool b=>some (.bl b)| .int i _=>some (.int i)| .str x _=>some (.str x)| .bytes b _=>some (.Ke b)| .float b _=>some (.V2 b)| .ref a=>some (.ref a)| .type n=>some (.ty n)|_=>none
theorem RelV.abs{x:V}{u:Value}(r:RelV x u):aa6 u=some x:=by cases x with|aP=>cases r;rfl|bl _=>cases r;rfl|int _=>obtain⟨t,rfl⟩:=r;rfl|str _=>obtain⟨t,rfl⟩:=r;rfl|Ke _=>obtain⟨t,rfl⟩:=r;rfl|V2 _=>obtain⟨t,rfl⟩:=r;rfl|ref _=>cases r;rfl|ty _=>cases r;rfl
theorem RelV.inj{x y:V}{u:Value}(r:RelV x u)(q:RelV y u):x=y:=Option.some.inj (r.abs.symm.trans q.abs)
theorem Vals.inj:∀{xs a:List V}{us:List Value},Vals xs us->Vals a us->xs=a|_,_,_, .nil, .nil=>rfl|_,_,_, .cons r t, .cons b t'=>by rw[r.inj b,Vals.inj t t']
section
variable{X:Cx}{pins:List (Addr×Obj)}{σ:St}{H:Hp}{s:Shared}{a:Addr}{xs ys:List V}
theorem bN.of{K:PySem.W.Frag}(h:H a=some (.lst xs)):bN K H a xs:= .inl (.inl h)
theorem bS.of{K:PySem.W.Frag}(h:H a=some (.tup xs)):bS K H a xs:= .inl (.inl h)
theorem Inv.list(I:Inv X pins σ H s)(h:bN X.K H a xs):∃b:List Value,Vals xs b/\PlainL s.heap a b.toArray/\xs.length<=sizeLine:=by
 rcases h with h|⟨o,b,n,c,hc,hd,d,f,r⟩;·obtain⟨z,b,n,r,e⟩:=h.ok I.bX;exact⟨b,r,⟨_,n,e,rfl,rfl,rfl⟩,z⟩
 ·refine⟨b.toList,r,⟨o,n,I.kS a o c,hc,hd,by simpa using d⟩,?_⟩;have e:=r.length;simp only[Array.length_toList]at e;lia
theorem Inv.tuple(I:Inv X pins σ H s)(h:bS X.K H a xs):∃b:List Value,Vals xs b/\IsTup s.heap a b.toArray/\xs.length<=sizeLine:=by
 rcases h with h|⟨o,b,n,c,hc,d,f,r⟩;·obtain⟨z,b,r,p⟩:=h.ok I.bX;exact⟨b,r,p,z⟩
 ·refine⟨b.toList,r,⟨o,I.kS a o c,hc,n,by simpa using d⟩,?_⟩;have e:=r.length;simp only[Array.length_toList]at e;lia
theorem Inv.lY(I:Inv X pins σ H s)(h:bN X.K H a xs)(h':bN X.K H a ys):xs=ys:=by
 obtain⟨c,r,⟨o,n,e,_,_,d⟩,_⟩:=I.list h;obtain⟨its',f,⟨o',g,e',_,_,d'⟩,_⟩:=I.list h';rw[e]at e';cases e';rw[d]at d';injection d' with b _;have :c=its':=by simpa using congrArg Array.toList b
 subst this;exact r.inj f
theorem Inv.m_(I:Inv X pins σ H s)(h:bS X.K H a xs)(h':bS X.K H a ys):xs=ys:=by
 obtain⟨c,r,⟨o,e,_,n,d⟩,_⟩:=I.tuple h;obtain⟨its',f,⟨o',e',_,g,d'⟩,_⟩:=I.tuple h';rw[e]at e';cases e';rw[d]at d';injection d' with b _;have :c=its':=by simpa using congrArg Array.toList b
 subst this;exact r.inj f
end
noncomputable abbrev Cx.tS(X:Cx)(E:Value->Shared->Prop):Cx:={X with xe:=E}
noncomputable abbrev Cx.Nc(X:Cx):Cx:=X.tS λ_ _=>False
theorem Cx.Ok.tS{X:Cx}(ok:X.Ok)(E:Value->Shared->Prop):(X.tS E).Ok:=⟨ok.mod,ok.kind,ok.glob,ok.blt,ok.above,ok.inj,ok.has,ok.OQ,ok.hd,ok.frames,ok.Q_,ok.RO,ok.bs,ok.Ba,ok.pS,ok.vx,ok.gZ,ok.Oq⟩
theorem Cx.Ok.gf{X:Cx}{E:Value->Shared->Prop}(ok:(X.tS E).Ok):X.Ok:=⟨ok.mod,ok.kind,ok.glob,ok.blt,ok.above,ok.inj,ok.has,ok.OQ,ok.hd,ok.frames,ok.Q_,ok.RO,ok.bs,ok.Ba,ok.pS,ok.vx,ok.gZ,ok.Oq⟩
section
variable{X:Cx}{pins:List (Addr×Obj)}{σ:St}{H:Hp}{s:Shared}{E:Value->Shared->Prop}
theorem Inv.tS(I:Inv X pins σ H s)(E:Value->Shared->Prop):Inv (X.tS E) pins σ H s:=⟨I.ok.tS E,I.os,I.bare,I.base,I.loc,I.cell,I.free,I.eE,I.pin,I.bX,I.len⟩
theorem Inv.gf(I:Inv (X.tS E) pins σ H s):Inv X pins σ H s:=⟨I.ok.gf,I.os,I.bare,I.base,I.loc,I.cell,I.free,I.eE,I.pin,I.bX,I.len⟩
theorem SP.gf{D:Ends}{f:Flow}{s':Shared}(h:SP (X.tS E) pins D f s'):SP X pins D f s':=by cases f with|next=>obtain⟨a,H',I,q⟩:=h;exact⟨a,H',I.gf,q⟩|brk=>obtain⟨a,H',I,q⟩:=h;exact⟨a,H',I.gf,q⟩|cont=>obtain⟨a,H',I,q⟩:=h;exact⟨a,H',I.gf,q⟩|ret u=>obtain⟨v,a,H',I,r,q⟩:=h;exact⟨v,a,H',I.gf,r,q⟩
theorem gT.Nc{st:List Stmt}{t:TS}(h:gT X.Nc st t):gT X st t:=λpins s σ H D I hw=>fE (h pins s σ H D (I.tS _) hw) (λ_ _ q=>q.gf) λ_ _ z=>False.elim z
end
section
variable{X:Cx}{st:Stmt}{rest:List Stmt}{t u:TS}{e:Expr}{te:TE}{pos:Pos}
noncomputable def Y5:TS:=λD σ H=>D.nx σ H
noncomputable def ba(t u:TS):TS:=λD σ H=>t {D with nx:=u D} σ H
theorem aM:gT X [] Y5:=λ_ _ σ H _ I h=>wpAny_execs_nil ⟨σ,H,I,h⟩
theorem ag(h1:PS X st t)(h2:gT X rest u):gT X (st::rest) (ba t u):=by intro pins s σ H D I h;refine wpAny_execs_cons (bQ (h1 pins s σ H {D with nx:=u D} I h) λf s1 q=>?_);cases f with|next=>obtain⟨b,H',a,q⟩:=q;exact h2 pins s1 b H' D a q|ret v=>exact q|brk=>exact q|cont=>exact q
theorem ai(h1:PS X st t):gT X [st] t:=by intro pins s σ H D I h;refine wpAny_execs_cons (bQ (h1 pins s σ H D I h) λf s1 q=>?_);cases f with|next=>exact wpAny_execs_nil q|ret v=>exact q|brk=>exact q|cont=>exact q
theorem Inv.quiet{pins:List (Addr×Obj)}{σ:St}{H:Hp}{s:Shared}(I:Inv X pins σ H s):interactive X.env=false:=by simp[interactive,I.ok.kind]
noncomputable def Zm(te:TE):TS:=λD σ H=>te σ H λ_ a=>D.nx σ a
theorem xM(c:PE X e te)(d:swapsWith e none pos.line X.env=pure false:=by rfl):PS X (.Expr e pos) (Zm te):=by intro pins s σ H D I h;exact wpAny_Expr_any (bQ (c pins s σ H _ I h) λv s1⟨x,a,b,f,q1⟩=>⟨σ,a,b,q1⟩) I.quiet d
noncomputable def abT(te:TE):TS:=λD σ H=>te σ H D.rt
theorem aw(c:PE X e te):PS X (.Return (some e) pos) (abT te):=by intro pins s σ H D I h;exact wpAny_Return_some (bQ (c pins s σ H _ I h) λv s1⟨x,a,b,d,q1⟩=>⟨x,σ,a,b,d,q1⟩)
noncomputable def abm(c:TT)(t u:TS):TS:=λD σ H=>c σ H λb a=>if b=true then t D σ a else u D σ a
theorem bu{c:Expr}{a b:List Stmt}{i:TT}(hc:PT X c i)(ha:gT X a t)(hb:gT X b u):PS X (.If c a b pos) (abm i t u):=by intro pins s σ H D I h;refine wpAny_If (bQ (hc pins s σ H _ I h) λd s1 j=>?_);obtain⟨f,g,q1⟩:=j;cases d with|true=>exact ha pins s1 σ f D g q1|false=>exact hb pins s1 σ f D g q1
end
noncomputable abbrev TG:=V->St->Hp->(St->Hp->Prop)->Prop
noncomputable abbrev WE:=List V->St->Hp->(St->Hp->Prop)->Prop
noncomputable def PG(X:Cx)(target:Expr)(t:TG):Prop:=∀(pins:List (Addr×Obj))(s:Shared)(σ:St)(H:Hp)(v:V)(u:Value)(Q:St->Hp->Prop),Inv X pins σ H s->RelV v u->t v σ H Q->wpAny (model X.prog X.w) X.A (assign target X.env u) (λ_ s'=>∃a H',Inv X pins a H' s'/\Q a H') X.xe s
noncomputable def uX(X:Cx)(ts:List Expr)(t:WE):Prop:=∀(pins:List (Addr×Obj))(s:Shared)(σ:St)(H:Hp)(vs:List V)(us:List Value)(Q:St->Hp->Prop),Inv X pins σ H s->Vals vs us->t vs σ H Q->wpAny (model X.prog X.w) X.A (assignInOrder ((assignEach ts X.env).map (·.2)) us) (λ_ s'=>∃a H',Inv X pins a H' s'/\Q a H') X.xe s
noncomputable abbrev V_:=V->V->V->Hp->(Hp->Prop)->Prop
noncomputable def XZ(X:Cx)(t:V_):Prop:=∀(pins:List (Addr×Obj))(s:Shared)(σ:St)(H:Hp)(o i v:V)(b a u:Value)(Q:Hp->Prop),Inv X pins σ H s->RelV o b->RelV i a->RelV v u->t o i v H Q->wpAny (model X.prog X.w) X.A (setItem b a u) (λ_ s'=>∃H',Inv X pins σ H' s'/\Q H') X.xe s
noncomputable abbrev TIp:=V->V->Hp->VK->Prop
noncomputable def PIp(X:Cx)(op:Operator)(t:TIp):Prop:=∀(pins:List (Addr×Obj))(s:Shared)(σ:St)(H:Hp)(x y:V)(v u:Value)(Q:VK),Inv X pins σ H s->RelV x v->RelV y u->t x y H Q->wpAny (model X.prog X.w) X.A (inplaceOp op v u) (EP X pins σ Q) X.xe s
section
variable{X:Cx}{pos:Pos}
noncomputable def sj(i:Nat):TG:=λv σ H Q=>Q (σ.set i (some v)) H
theorem bI{i:Nat}{x:Str}(b:X.N.Nodup)(hi:X.N[i]?=some x)(c:Loc X.env.scope x)(hf:X.fn x=true\/X.env.scope.names.lookup x=some .local:=by first|exact .inl rfl|exact .inr rfl|assumption):PG X (.Name x pos) (sj i):=by intro pins s σ H v u Q I r h;exact wpAny_assign_Name (ju I b hi c r (λs' a=>⟨_,H,a,h⟩) hf)
noncomputable def Yo:WE:=λvs σ H Q=>vs=[]/\Q σ H
noncomputable def Kx(t:TG)(u:WE):WE:=λvs σ H Q=>∃v r,vs=v::r/\t v σ H λa H'=>u r a H' Q
theorem jV:uX X [] Yo:=by intro pins s σ H vs us Q I r h;obtain⟨e,h⟩:=h;subst e;cases r;exact assignInOrder_nil ⟨σ,H,I,h⟩
theorem cP{e:Expr}{es:List Expr}{t:TG}{u:WE}(h1:PG X e t)(h2:uX X es u)(c:(assignEach (e::es) X.env).map (·.2)=assign e X.env::(assignEach es X.env).map (·.2):=by rfl):uX X (e::es) (Kx t u):=by intro pins s σ H vs us Q I r h;obtain⟨v,g,e1,h⟩:=h;subst e1;cases r with|cons r rr=>rw[c];refine assignInOrder_cons (bQ (h1 pins s σ H _ _ _ I r h) λ_ s1 d=>?_);obtain⟨f,a,b,q1⟩:=d;exact h2 pins s1 f a _ _ Q b rr q1
noncomputable def ZD(K:PySem.W.Frag)(n:Nat)(t:WE):TG:=λv σ H Q=>∃a xs,v= .ref a/\bS K H a xs/\xs.length=n/\t xs σ H Q
theorem nV{es:List Expr}{k:Nat}{t:WE}{n:Nat}(hc:X.calm=true)(h:uX X es t)(hn:(assignEach es X.env).length=n:=by rfl)(f:(assignEach es X.env).findIdx? (·.1)=none:=by rfl):PG X (.Tuple es k pos) (ZD X.K n t):=by intro pins s σ H v u Q I r hw;obtain⟨a,xs,e1,hq,hl,hw⟩:=hw;subst e1;cases r;obtain⟨i,c,ht,j⟩:=I.tuple hq;refine PU (I.hb hc) (show s.heap.IsTuple a i.toArray from ht) (by simp[hn,<-hl,c.length]) f λh' g=>?_;have d:Inv X pins σ H {s with heap:=h'}:=I.kept (t':=s.toks) λb o e=>g b o (dN (bL e)) e;exact h pins _ σ H xs _ Q d (by simpa using c) hw
noncomputable def aaM(to d:TE)(t:V_):TG:=λv σ H Q=>to σ H λo a=>d σ a λi b=>t o i v b λc=>Q σ c
theorem MG{o i:Expr}{to d:TE}{t:V_}(m:PE X o to)(hi:PE X i d)(n:XZ X t)(ha:∀v,assign (.Subscript o i pos) X.env v=(do let a<-holding [v] (eval o X.env);let b<-holding [v,a] (eval i X.env);standAt pos;holding [v,a,b] (setItem a b v);release [v,a,b] []):=by intro _;rfl):PG X (.Subscript o i pos) (aaM to d t):=by intro pins s σ H v u Q I r h;rw[ha];refine aj (gy (bQ (m pins s σ H _ I h) λa s1 c=>?_));obtain⟨x,e,j,p,q1⟩:=c;refine aj (gy (bQ (hi pins s1 σ e _ j q1) λb s2 c=>?_));obtain⟨y,f,k,q,q2⟩:=c;refine aj (wpAny_standAt (aj (gy (bQ (n pins s2 σ f x y v a b u _ k p q r q2) λ_ w c=>?_))));obtain⟨g,l,q3⟩:=c;exact wpAny_release ⟨σ,g,l,q3⟩
noncomputable def Tg(b:TE)(g:TG):TS:=λD σ H=>b σ H λx a=>g x σ a D.nx
theorem K9{tg e:Expr}{a:TE}{g:TG}(d:PE X e a)(f:PG X tg g)(i:swapsWithSole [tg] e pos.line X.env=pure false:=by rfl)(hw:swappedStores [tg] e X.env=pure none:=by rfl)(h1:(assignEach [tg] X.env).map (·.2)=[assign tg X.env]:=by rfl):PS X (.Assign [tg] e pos) (Tg a g):=by intro pins s σ H D I h;refine wpAny_Assign_stores (bQ (d pins s σ H _ I h) λv s1 k=>?_) i hw;obtain⟨x,b,c,j,q1⟩:=k;rw[h1];exact bQ (f pins s1 σ b x v _ c j q1) λ_ s2 q=>q
theorem aH{i:Nat}{x:Str}{e:Expr}{a:TE}{pos':Pos}(f:X.N.Nodup)(hi:X.N[i]?=some x)(k:Loc X.env.scope x)(g:PE X e a)(j:swapsWith e (some (.Name x pos')) pos.line X.env=pure false:=by rfl)(hf:X.fn x=true\/X.env.scope.names.lookup x=some .local:=by first|exact .inl rfl|exact .inr rfl|assumption):PS X (.Assign [.Name x pos'] e pos) (Tg a (sj i)):=by intro pins s σ H D I h;refine wpAny_Assign_Name (bQ (g pins s σ H _ I h) λv s1 m=>?_) j;obtain⟨y,b,c,l,q1⟩:=m;exact ju c f hi k l (λs2 d=>⟨_,b,d,q1⟩) hf
noncomputable def ab3(i:Nat)(c:TE)(d:TIp):TS:=λD σ H=>∃x,σ[i]?=some (some x)/\c σ H λy a=>d x y a λz b=>D.nx (σ.set i (some z)) b
theorem Vx{i:Nat}{x:Str}{e:Expr}{f:TE}{op:Operator}{g:TIp}{pos':Pos}(t:X.N.Nodup)(hi:X.N[i]?=some x)(b:Loc X.env.scope x)(B:PE X e f)(C:PIp X op g)(hf:X.fn x=true\/X.env.scope.names.lookup x=some .local:=by first|exact .inl rfl|exact .inr rfl|assumption):PS X (.AugAssign (.Name x pos') op e pos) (ab3 i f g):=by
 intro pins s σ H D I h;obtain⟨v,e1,h⟩:=h;obtain⟨m,hn,hl⟩:=I.loc;have K:X8 X.env.scope x:=by rcases b with k|k;exact .inl k;exact .inr (.inl k)
 obtain⟨u,r,l⟩:=hl i x v hi e1 K;refine wpAny_AugAssign_Name ?_;have go:wpAny (model X.prog X.w) X.A (eval e X.env) (λw G=>wpAny (model X.prog X.w) X.A (inplaceOp op u w) (λr J=>wpAny (model X.prog X.w) X.A (storeName X.env x r) (λ_=>SP X pins D .next) X.xe J) X.xe G) X.xe s:=by refine bQ (B pins s σ H _ I h) λw s1 d=>?_;obtain⟨y,j,o,E,q1⟩:=d;refine bQ (C pins s1 σ j v y u w _ o r E q1) λz s2 d=>?_;obtain⟨M,n,p,F,q2⟩:=d;exact ju p t hi b F (λL q=>⟨_,n,q,q2⟩) hf
 rcases l with⟨a,hm⟩|⟨a,c,hc,A⟩;·exact wpAny_loadName_local I.ok.kind a hn hm go
 ·rcases a with a|a;·exact wpAny_loadName_cell I.ok.kind a hc A go
  ·rcases b with k|k;·have :X.env.scope.names.lookup x=some .free:=a;rw[k]at this;cases this
   ·have :X.env.scope.names.lookup x=some .free:=a;rw[k]at this;cases this
noncomputable def ipI(f:Int->Int->Int):TIp:=λx y H Q=>∃i j,x= .int i/\y= .int j/\Q (.int (f i j)) H
theorem TL:PIp X .Add (ipI λi j=>i+j):=by intro pins s σ H x y v u Q I a b h;obtain⟨i,j,e1,e2,q⟩:=h;subst e1;subst e2;obtain⟨t,rfl⟩:=a;obtain⟨t',rfl⟩:=b;exact iadd_int ⟨.int _,H,I.tok _,⟨_,rfl⟩,q⟩
end
section
variable{X:Cx}{pos:Pos}
noncomputable def UJ(c:TT)(tb:TS):TS:=λD σ H=>∃W:Nat->St->Hp->Prop,(∃m,W m σ H)/\∀m σ H,W m σ H->c σ H λb a=>if b=true then∃N:St->Hp->Prop,(∀e H',N e H'->∃d,d<m/\W d e H')/\tb {D with nx:=N,ct:=N,bk:=D.nx} σ a else D.nx σ a
theorem Nj{c:Expr}{body:List Stmt}{r:TT}{tb:TS}(q:PassesOwn (model X.prog X.w) X.A X.env X.xe)(hc:PT X c r)(hb:gT X body tb):PS X (.While c body [] pos) (UJ r tb):=by
 intro pins s σ H D I h;obtain⟨W,⟨w,w0⟩,turn⟩:=h;refine wpAny_While (codeAny_whileLoop (λn s'=>∃t H',Inv X pins t H' s'/\W n t H') ?_ w ⟨σ,H,I,w0⟩);rintro n s1⟨e,l,u,x⟩;refine wpAny_passesOwn q (bQ (hc pins s1 e l _ u (turn n e l x)) λb s2 y=>?_);obtain⟨m,o,q2⟩:=y;cases b with
  |true=>obtain⟨N,p,q2⟩:=q2;rw[if_pos rfl];refine wpAny_passesOwn q (bQ (hb pins s2 e m _ o q2) λf z q3=>?_);cases f with|next=>obtain⟨d,a,g,j⟩:=q3;obtain⟨i,hm,k⟩:=p d a j;exact⟨i,hm,d,a,g,k⟩|cont=>obtain⟨d,a,g,j⟩:=q3;obtain⟨i,hm,k⟩:=p d a j;exact⟨i,hm,d,a,g,k⟩|brk=>exact q3|ret v=>exact q3
  |false=>rw[if_neg d5];exact wpAny_execs_nil ⟨e,m,o,q2⟩
end
structure It where
 go:Nat->Hp->Prop
 wM:Nat->Hp->V->Hp->Prop
 stop:Nat->Hp->Prop
noncomputable def kK(X:Cx)(pins:List (Addr×Obj))(H:Hp)(b:Addr):Prop:=H b=none/\b≠X.env.locals/\b∉X.fs/\(b∈X.ex\/X.cj.heap.objs.size<=b)/\(∀x c,X.env.cells.lookup x=some c->c≠b)/\∀p∈X.pn++pins,p.1≠b
theorem Inv.DR{X:Cx}{pins:List (Addr×Obj)}{σ:St}{H H':Hp}{s:Shared}{b:Addr}(I:Inv X pins σ H s)(hb:s.heap.objs.size<=b)(hn:H' b=none):kK X pins H' b:=by
 refine⟨hn,Nat.ne_of_gt (gd I.lt hb),I.abt hb, .inr (cS I.sz hb),λx c e z=>?_,λp a z=>?_⟩;·obtain⟨v,q⟩:=I.cell x c e;exact absurd (gd q.lt (by rw[z];exact hb)) (Nat.lt_irrefl _)
 ·exact absurd (gd (bL (I.pin p a).1) (by rw[z];exact hb)) (Nat.lt_irrefl _)
structure Turn(P:Program)(w:World)(K:PySem.W.Frag)(tg:Expr)(J:It)(fp:List Addr)(it:Addr)(tn:Nat->Heap->Prop):Prop where
 mem:it∈fp
 obj:∀i h,tn i h->∀b∈fp,∃o,h.get? b=some o/\∀v,o.data≠ .cell v
 keep:∀i h h',tn i h->(∀b∈fp,∀o,h.get? b=some o->h'.get? b=some o)->tn i h'
 item:∀(X:Cx),X.prog=P->X.w=w->X.K=K->X.calm=true->∀(i:Nat)(pins:List (Addr×Obj))(s:Shared)(σ:St)(H:Hp)(E:Value->Shared->Prop),Inv X pins σ H s->(∀b∈fp,kK X pins H b)->tn i s.heap->J.go i H->wpAny (model P w) X.A (pyNext (.ref it)) (λr s1=>∃u,r=some u/\wpAny (model P w) X.A (letOwnedTupleGo tg (.ref it) u) (λ_ s2=>∃x H',Inv X pins σ H' s2/\RelV x u/\J.wM i H x H'/\tn (i+1) s2.heap/\∀b∈fp,H' b=none) E s1) E s
 done:∀(X:Cx),X.prog=P->X.w=w->X.K=K->X.calm=true->∀(i:Nat)(pins:List (Addr×Obj))(s:Shared)(σ:St)(H:Hp)(E:Value->Shared->Prop),Inv X pins σ H s->(∀b∈fp,kK X pins H b)->tn i s.heap->J.stop i H->wpAny (model P w) X.A (pyNext (.ref it)) (λr s1=>r=none/\Inv X pins σ H s1) E s
 self:∀(A:Around)(i:Nat)(s:Shared)(Q:Value->Shared->Prop)(E:Value->Shared->Prop),tn i s.heap->Q (.ref it) s->wpAny (model P w) A (pyIter (.ref it)) Q E s
noncomputable abbrev TI:=St->Hp->(It->Hp->Prop)->Prop
noncomputable def PIE(X:Cx)(pins:List (Addr×Obj))(σ:St)(tg:Expr)(R:It->Hp->Prop)(a:Value)(s2:Shared):Prop:=∃(it:Addr)(fp:List Addr)(tn:Nat->Heap->Prop)(J:It)(H':Hp),a= .ref it/\Inv X pins σ H' s2/\Turn X.prog X.w X.K tg J fp it tn/\tn 0 s2.heap/\(∀b∈fp,kK X pins H' b)/\R J H'
noncomputable def PI(X:Cx)(tg iter:Expr)(a:TI):Prop:=∀(pins:List (Addr×Obj))(s:Shared)(σ:St)(H:Hp)(R:It->Hp->Prop),Inv X pins σ H s->a σ H R->wpAny (model X.prog X.w) X.A (eval iter X.env) (λv s1=>wpAny (model X.prog X.w) X.A (pyIter v) (PIE X pins σ tg R) X.xe s1) X.xe s
theorem G4{M:Model}{A:Around}{E:Value->Shared->Prop}{s:Shared}{tg:Expr}{it:Addr}{u:Value}{o:Obj}{n:String}{vs:Array Value}{Q:Unit->Shared->Prop}(b:s.heap.get? it=some o)(hc:o.cls= .type n)(hd:o.data= .fields vs)(hn:["enumerate","zip","dict_itemiterator","dict_reverseitemiterator","odict_iterator","itertools.zip_longest","itertools.pairwise"].contains n=false)(a:Q () s):wpAny M A (letOwnedTupleGo tg (.ref it) u) Q E s:=by unfold letOwnedTupleGo;cases tg<;>first|exact aU a|(cases u<;>first|exact aU a|(refine aj (wpAny_load b ?_);rw[hc,hd];show wpAny M A (if(["enumerate","zip","dict_itemiterator","dict_reverseitemiterator","odict_iterator","itertools.zip_longest","itertools.pairwise"].contains n&&vs[0]?==some (rawInt _))=true then _ else _) Q E s;rw[if_neg (by intro h;rw[hn,Bool.false_and]at h;cases h)];exact aU a))
noncomputable def Itl(K:PySem.W.Frag)(a:Addr):It:=⟨λi H=>∃xs x,bN K H a xs/\xs[i]?=some x,λi H x H'=>H'=H/\∀xs,bN K H a xs->xs[i]?=some x,λi H=>∃xs,bN K H a xs/\xs.length<=i⟩
noncomputable def Itt(K:PySem.W.Frag)(a:Addr):It:=⟨λi H=>∃xs x,bS K H a xs/\xs[i]?=some x,λi H x H'=>H'=H/\∀xs,bS K H a xs->xs[i]?=some x,λi H=>∃xs,bS K H a xs/\xs.length<=i⟩
noncomputable def Xb(lo:Int)(n:Nat):It:=⟨λi _=>i<n,λi H x H'=>H'=H/\x= .int (lo+i),λi _=>n<=i⟩
theorem IY{P:Program}{w:World}{K:PySem.W.Frag}{tg:Expr}(a it:Addr):Turn P w K tg (Itl K a) [it] it (λi h=>h.IsListIter it a i)where
 mem:=by simp
 obj:=λi h st b hb=>by
  have e:b=it:=by simpa using hb
  subst e;obtain⟨o,e,c,d⟩:=st;exact⟨o,e,λv z=>by rw[d]at z;cases z⟩
 keep:=λi h h' st k=>st.at λo e=>k it (by simp) o e;item:=by intro X n hw m hc i pins s σ H E I hf st q;subst n hw m;obtain⟨xs,x,hq,r⟩:=q;obtain⟨F,t,p,D⟩:=I.list hq;obtain⟨u,B,G⟩:=t.get r;obtain⟨j,f1,f2,f,l,g⟩:=hf it (by simp);refine wpAny_pyNext_list_item st p.isList (x:=u) (by simpa using B) λh' DN sb=>?_;have y:Inv X pins σ H {s with heap:=h'}:=I.turned (t':=s.toks) (λb o hb e=>(sb.2 b hb).trans e) j f1 f l g;obtain⟨o,e,c,d⟩:=id DN;exact⟨u,rfl,G4 (s:={s with heap:=h'}) e c d (by decide) ⟨x,H,y,G,⟨rfl,λJ C=>by rw[I.lY C hq];exact r⟩,DN,λb hb=>(hf b hb).1⟩⟩
 done:=by intro X n hw m hc i pins s σ H E I hf st q;subst n hw m;obtain⟨xs,hq,r⟩:=q;obtain⟨F,t,p,D⟩:=I.list hq;obtain⟨j,f1,f2,f,l,g⟩:=hf it (by simp);have hl:=t.length;exact kf (I.hb hc) (I.EG hc f g) st p.isList (by simp;lia) λh' A=>⟨rfl,I.turned (t':=s.toks) (λb o hb e=>A b o hb e) j f1 f l g⟩
 self:=λ_ _ _ _ _ st h=>wpAny_pyIter_listiter st h
theorem D5{P:Program}{w:World}{K:PySem.W.Frag}{tg:Expr}(a it:Addr):Turn P w K tg (Itt K a) [it] it (λi h=>h.IsTupleIter it a i)where
 mem:=by simp
 obj:=λi h st b hb=>by
  have e:b=it:=by simpa using hb
  subst e;obtain⟨o,e,c,d⟩:=st;exact⟨o,e,λv z=>by rw[d]at z;cases z⟩
 keep:=λi h h' st k=>st.at λo e=>k it (by simp) o e;item:=by intro X n hw m hc i pins s σ H E I hf st q;subst n hw m;obtain⟨xs,x,hq,r⟩:=q;obtain⟨t,y,p,F⟩:=I.tuple hq;obtain⟨u,C,G⟩:=y.get r;obtain⟨j,f1,f2,f,l,g⟩:=hf it (by simp);refine wpAny_pyNext_tuple_item st (show s.heap.IsTuple a t.toArray from p) (x:=u) (by simpa using C) λh' DN sb=>?_;have A:Inv X pins σ H {s with heap:=h'}:=I.turned (t':=s.toks) (λb o hb e=>(sb.2 b hb).trans e) j f1 f l g;obtain⟨o,e,c,d⟩:=id DN;exact⟨u,rfl,G4 (s:={s with heap:=h'}) e c d (by decide) ⟨x,H,A,G,⟨rfl,λJ D=>by rw[I.m_ D hq];exact r⟩,DN,λb hb=>(hf b hb).1⟩⟩
 done:=by intro X n hw m hc i pins s σ H E I hf st q;subst n hw m;obtain⟨xs,hq,r⟩:=q;obtain⟨t,y,p,F⟩:=I.tuple hq;obtain⟨j,f1,f2,f,l,g⟩:=hf it (by simp);have hl:=y.length;exact next_tuple_end (I.hb hc) (I.EG hc f g) st (show s.heap.IsTuple a t.toArray from p) (by simp;lia) λh' B=>⟨rfl,I.turned (t':=s.toks) (λb o hb e=>B b o hb e) j f1 f l g⟩
 self:=λ_ _ _ _ _ st h=>wpAny_pyIter_tupleiter st h
theorem Fu{P:Program}{w:World}{K:PySem.W.Frag}{tg:Expr}(it:Addr)(lo:Int)(n:Nat):Turn P w K tg (Xb lo n) [it] it (λi h=>IsRangeIter h it (lo+(i:Nat)*1) ((n:Int)-(i:Nat)) 1)where
 mem:=by simp
 obj:=λi h st b hb=>by
  have e:b=it:=by simpa using hb
  subst e;exact⟨_,st,λv z=>by have u:Data.fields _=Data.cell v:=z;cases u⟩
 keep:=λi h h' st k=>k it (by simp) _ st;item:=by intro X j hw g hc i pins s σ H E I hf st l;subst j hw g;obtain⟨a,f1,f2,c,d,f⟩:=hf it (by simp);refine Eb l st λv h' tk q DN r=>?_;obtain⟨t,rfl⟩:=q;have m:Inv X pins σ H {s with heap:=h',toks:=tk}:=I.turned (λb o hb e=>r b o (by simpa using hb) e) a f1 c d f;refine⟨_,rfl,G4 (s:={s with heap:=h',toks:=tk}) (n:="range_iterator") DN rfl rfl (by decide) ⟨.int (lo+i),H,m,⟨t,?_⟩,⟨rfl,rfl⟩,DN,λb hb=>(hf b hb).1⟩⟩;rw[Int.mul_one]
 done:=by intro X j hw g hc i pins s σ H E I hf st l;subst j hw g;obtain⟨a,f1,f2,c,d,f⟩:=hf it (by simp);exact uh (I.hb hc) st (by have :n<=i:=l;lia) λh' p=>⟨rfl,I.turned (t':=s.toks) (λb o hb e=>p b o hb e) a f1 c d f⟩
 self:=λ_ _ _ _ _ st h=>wpAny_pyIter_rangeiter st h
section
variable{X:Cx}{tg:Expr}
noncomputable def Xj(K:PySem.W.Frag)(c:TE):TI:=λσ H R=>c σ H λx b=>∃a,x= .ref a/\(∃xs,bN K b a xs)/\R (Itl K a) b
noncomputable def abh(K:PySem.W.Frag)(c:TE):TI:=λσ H R=>c σ H λx b=>∃a,x= .ref a/\(∃xs,bS K b a xs)/\R (Itt K a) b
theorem j5{l:Expr}{d:TE}(hl:PE X l d):PI X tg l (Xj X.K d):=by
 intro pins s σ H R I h;refine bQ (hl pins s σ H _ I h) λv s1 i=>?_;obtain⟨x,f,c,g,q1⟩:=i;obtain⟨a,e,⟨xs,hq⟩,q⟩:=q1;subst e;cases g;obtain⟨k,m,p,j⟩:=c.list hq;refine wpAny_pyIter_list p.isList ?_;refine⟨s1.heap.objs.size,[s1.heap.objs.size],_,_,f,rfl,c.kept (t':=s1.toks) λb o e=>bD _ e,IY a _,⟨_,eD _ rfl,rfl,rfl⟩,λb hb=>?_,q⟩;have e:b=s1.heap.objs.size:=by simpa using hb
 subst e;exact c.DR (bJ _) (c.bX.fresh (bJ _))
theorem Fx{l:Expr}{d:TE}(hl:PE X l d):PI X tg l (abh X.K d):=by
 intro pins s σ H R I h;refine bQ (hl pins s σ H _ I h) λv s1 j=>?_;obtain⟨x,f,c,i,q1⟩:=j;obtain⟨a,e,⟨xs,hq⟩,q⟩:=q1;subst e;cases i;obtain⟨g,m,p,k⟩:=c.tuple hq;refine wpAny_pyIter_tuple (show s1.heap.IsTuple a g.toArray from p) ?_;refine⟨s1.heap.objs.size,[s1.heap.objs.size],_,_,f,rfl,c.kept (t':=s1.toks) λb o e=>bD _ e,D5 a _,⟨_,eD _ rfl,rfl,rfl⟩,λb hb=>?_,q⟩;have e:b=s1.heap.objs.size:=by simpa using hb
 subst e;exact c.DR (bJ _) (c.bX.fresh (bJ _))
theorem MS{pins:List (Addr×Obj)}{σ:St}{H:Hp}{s:Shared}{R:It->Hp->Prop}{E:Value->Shared->Prop}{lo hi:Int}{t u v:Tok}{tk:Nat}(I:Inv X pins σ H s)(h1:-(2^62)<=lo)(h2:lo<2^62)(h3:-(2^62)<=hi)(h4:hi<2^62)(q:R (Xb lo (hi-lo).toNat) H):wpAny (model X.prog X.w) X.A (pyIter (.ref s.heap.objs.size)) (PIE X pins σ tg R) E {s with heap:=s.heap.push {cls:= .type "range",data:= .fields #[.int lo t, .int hi u, .int 1 v]},toks:=tk}:=by
 refine wpAny_pyIter_range (IsRange.new ..) (small_one h1 h2 h3 h4) ?_;have a:Inv X pins σ H {s with heap:=s.heap.push {cls:= .type "range",data:= .fields #[.int lo t, .int hi u, .int 1 v]},toks:=tk}:=I.kept λb o e=>bD _ e;refine⟨(s.heap.push {cls:= .type "range",data:= .fields #[.int lo t, .int hi u, .int 1 v]}).objs.size,[(s.heap.push {cls:= .type "range",data:= .fields #[.int lo t, .int hi u, .int 1 v]}).objs.size],_,_,H,rfl,a.kept (t':=tk) λb o e=>bD _ e,Fu _ lo (hi-lo).toNat,?_,λb hb=>?_,q⟩
 ·have e1:lo+((0:Nat):Int)*1=lo:=by simp
  have e2:(((hi-lo).toNat:Nat):Int)-((0:Nat):Int)=Builtin.Range.rangeSize lo hi 1:=by rw[rangeSize_one];split<;>lia
  show IsRangeIter _ _ (lo+((0:Nat):Int)*1) ((((hi-lo).toNat:Nat):Int)-((0:Nat):Int)) 1;rw[e1,e2];exact eD _ rfl
 ·have e:b=(s.heap.push {cls:= .type "range",data:= .fields #[.int lo t, .int hi u, .int 1 v]}).objs.size:=by simpa using hb
  subst e;exact a.DR (bJ _) (a.bX.fresh (bJ _))
noncomputable def XH(b:TA):TI:=λσ H R=>b σ H λvs a=>∃j:Int,vs=[.int j]/\-(2^62)<=j/\j<2^62/\R (Xb 0 j.toNat) a
theorem gX{a:Expr}{c:TA}{p b:Pos}(f:Gl X "range")(hm:X.mg "range"=none)(ha:PA X [a] c)(g:starEach [a] X.env=[(false,eval a X.env)]:=by rfl):PI X tg (.Call (.Name "range" p) [a] [] b) (XH c):=by intro pins s σ H R I h;refine Call_ (jt I f hm boot_range (PyProof.Rows.callWith_type1 (bQ (ha b pins s σ H _ I h) λus s1 k=>?_) g rfl));obtain⟨vs,l,d,i,q1⟩:=k;obtain⟨j,e,q1,q2,q⟩:=q1;subst e;cases i with|cons r rr=>cases rr;obtain⟨t,rfl⟩:=r;exact call_range_1 (MS d (by lia) (by lia) q1 q2 (by simpa using q))
noncomputable def ab1(e:TI)(g:TG)(tb:TS):TS:=λD σ H=>e σ H λJ c=>∃W:Nat->Nat->St->Hp->Prop,(∃m,W 0 m σ c)/\∀i m σ H,W i m σ H->(J.stop i H/\D.nx σ H)\/(J.go i H/\∃N:St->Hp->Prop,(∀b H',N b H'->∃a,a<m/\W (i+1) a b H')/\∀x H',J.wM i H x H'->g x σ H' λf d=>tb {D with nx:=N,ct:=N,bk:=D.nx} f d)
noncomputable def nS(fp:List Addr)(h:Heap):List (Addr×Obj):=fp.filterMap λb=>(h.get? b).map λo=>(b,o)
theorem eV{fp:List Addr}{h:Heap}{b:Addr}{o:Obj}(hb:b∈fp)(e:h.get? b=some o):(b,o)∈nS fp h:=List.mem_filterMap.mpr ⟨b,hb,by rw[e];rfl⟩
theorem J6{fp:List Addr}{h:Heap}{p:Addr×Obj}(a:p∈nS fp h):p.1∈fp/\h.get? p.1=some p.2:=by obtain⟨b,hb,e⟩:=List.mem_filterMap.mp a;cases q:h.get? b with|none=>rw[q]at e;cases e|some o=>rw[q]at e;have e':(b,o)=p:=Option.some.inj e;subst e';exact⟨hb,q⟩
theorem Inv.pinned{pins:List (Addr×Obj)}{σ:St}{H:Hp}{s:Shared}{fp:List Addr}(I:Inv X pins σ H s)(hf:∀b∈fp,kK X pins H b)(c:∀b∈fp,∃o,s.heap.get? b=some o/\∀v,o.data≠ .cell v):Inv X (pins++nS fp s.heap) σ H s:=I.qN λp f=>(List.mem_append.mp f).elim (λz=>I.pin p (js _ z)) λz=>by obtain⟨hb,e⟩:=J6 z;obtain⟨a,f1,f2,_⟩:=hf p.1 hb;obtain⟨o,e',d⟩:=c p.1 hb;rw[e]at e';cases e';exact⟨e,a,f1,f2,d⟩
theorem Inv.jE{pins pl:List (Addr×Obj)}{σ:St}{H:Hp}{s:Shared}(I:Inv X (pins++pl) σ H s):Inv X pins σ H s:=I.qN λp a=>I.pin p (js _ (p_ _ a))
theorem gS{iter:Expr}{body:List Stmt}{O:TI}{g:TG}{tb:TS}{pos:Pos}(p:PassesOwn (model X.prog X.w) X.A X.env X.xe)(hc:X.calm=true)(hi:PI X tg iter O)(hg:PG X tg g)(hb:gT X body tb)(hs:∀x,foldedSetIterable iter X.env x=pure x:=by intro _;rfl):PS X (.For tg iter body [] pos) (ab1 O g tb):=by
 intro pins s σ H D I h;refine wpAny_For (bQ (hi pins s σ H _ I h) λv s1 h1=>bQ h1 λitv s2 h2=>?_) hs;obtain⟨it,fp,tn,J,P,e,R,T,VI,f2,W,⟨m0,w0⟩,turn⟩:=h2;subst e;have C:∀{H':Hp},(∀b∈fp,H' b=none)->∀b∈fp,kK X pins H' b:=λhn b hb=>⟨hn b hb,(f2 b hb).2⟩;refine codeAny_forLoop_any (λn s'=>∃i t H',Inv X pins t H' s'/\tn i s'.heap/\(∀b∈fp,H' b=none)/\W i n t H') ?_ m0 ⟨0,σ,P,R,VI,λb hb=>(f2 b hb).1,w0⟩;rintro n K⟨i,w,y,F,M,G,w3⟩;rcases turn i n w y w3 with⟨stop,qn⟩|⟨go,N,hN,step⟩;·refine wpAny_passesOwn p (bQ (T.done X rfl rfl rfl hc i pins K w y X.xe F (C G) M stop) λr s4 l=>?_);obtain⟨z,S⟩:=l;subst z;exact wpAny_execs_nil ⟨w,y,S,qn⟩
 ·refine wpAny_passesOwn p (bQ (T.item X rfl rfl rfl hc i pins K w y X.xe F (C G) M go) λr s4 l=>?_);obtain⟨u,z,h4⟩:=l;subst z;refine wpAny_passesOwn p (bQ h4 λ_ L l=>?_);obtain⟨x,E,U,r5,y5,B,Z⟩:=l;have V:=U.pinned (C Z) (T.obj _ _ B);refine wpAny_passesOwn p (bQ (hg _ L w E x u _ V r5 (step x E y5)) λ_ s6 l=>?_);obtain⟨σ6,Q,Y,q6⟩:=l;refine wpAny_passesOwn p (bQ (hb _ s6 σ6 Q _ Y q6) λf A k=>?_);have again:∀{j:St}{a:Hp},Inv X (pins++nS fp L.heap) j a A->N j a->∃m,m<n/\∃i t H',Inv X pins t H' A/\tn i A.heap/\(∀b∈fp,H' b=none)/\W i m t H':=λ{j a}c q=>by obtain⟨m',hm,w7⟩:=hN j a q;refine⟨m',hm,i+1,j,a,c.jE,T.keep _ _ _ B λb hb o e=>(c.pin (b,o) (js _ (js _ (eV hb e)))).1,λb hb=>?_,w7⟩;obtain⟨o,e,d⟩:=T.obj _ _ B b hb;exact(c.pin (b,o) (js _ (js _ (eV hb e)))).2.1
  cases f with|next=>obtain⟨j,a,c,q⟩:=k;exact again c q|cont=>obtain⟨j,a,c,q⟩:=k;exact again c q|brk=>obtain⟨j,a,c,k⟩:=k;exact⟨j,a,c.jE,k⟩|ret v=>obtain⟨x7,j,a,c,r7,k⟩:=k;exact⟨x7,j,a,c.jE,r7,k⟩
end
theorem N3{K:PySem.W.Frag}{a:Addr}{xs:List V}{g:TG}{tb:TS}{D:Ends}{σ:St}{H:Hp}(Pv:Nat->St->Hp->Prop)(j:Pv 0 σ H)(hl:∀i σ H,i<=xs.length->Pv i σ H->bN K H a xs)(k:∀i x σ H,xs[i]?=some x->Pv i σ H->g x σ H λd b=>tb {D with nx:=Pv (i+1),ct:=Pv (i+1),bk:=D.nx} d b)(hd:∀σ H,Pv xs.length σ H->D.nx σ H):∃W:Nat->Nat->St->Hp->Prop,(∃m,W 0 m σ H)/\∀i m σ H,W i m σ H->((Itl K a).stop i H/\D.nx σ H)\/((Itl K a).go i H/\∃N:St->Hp->Prop,(∀c H',N c H'->∃h,h<m/\W (i+1) h c H')/\∀x H',(Itl K a).wM i H x H'->g x σ H' λd b=>tb {D with nx:=N,ct:=N,bk:=D.nx} d b):=by
 refine⟨λi m σ H=>m=xs.length-i/\i<=xs.length/\Pv i σ H,⟨xs.length,by simp,d4 _,j⟩,?_⟩;rintro i m σ H⟨rfl,hi,p⟩;have q:=hl i σ H hi p;by_cases f:i<xs.length;·refine .inr ⟨⟨xs,xs[i],q,by simp[f]⟩,Pv (i+1),λc H' l=>⟨xs.length-(i+1),by lia,rfl,f,l⟩,λx H' y=>?_⟩;obtain⟨e,y⟩:=y;subst e;exact k i x σ _ (y xs q) p
 ·have e:i=xs.length:=by lia
  subst e;exact .inl ⟨⟨xs,q,bJ _⟩,hd σ H p⟩
theorem J4{lo:Int}{n:Nat}{g:TG}{tb:TS}{D:Ends}{σ:St}{H:Hp}(Pv:Nat->St->Hp->Prop)(h:Pv 0 σ H)(j:∀i σ H,i<n->Pv i σ H->g (.int (lo+i)) σ H λd a=>tb {D with nx:=Pv (i+1),ct:=Pv (i+1),bk:=D.nx} d a)(hd:∀σ H,Pv n σ H->D.nx σ H):∃W:Nat->Nat->St->Hp->Prop,(∃m,W 0 m σ H)/\∀i m σ H,W i m σ H->((Xb lo n).stop i H/\D.nx σ H)\/((Xb lo n).go i H/\∃N:St->Hp->Prop,(∀c H',N c H'->∃f,f<m/\W (i+1) f c H')/\∀x H',(Xb lo n).wM i H x H'->g x σ H' λd a=>tb {D with nx:=N,ct:=N,bk:=D.nx} d a):=by
 refine⟨λi m σ H=>m=n-i/\i<=n/\Pv i σ H,⟨n,by simp,d4 _,h⟩,?_⟩;rintro i m σ H⟨rfl,hi,p⟩;by_cases b:i<n;·refine .inr ⟨b,Pv (i+1),λc H' k=>⟨n-(i+1),by lia,rfl,b,k⟩,λx H' y=>?_⟩;obtain⟨e,y⟩:=y;subst e y;exact j i σ _ b p
 ·have e:i=n:=by lia
  subst e;exact .inl ⟨bJ _,hd σ H p⟩
noncomputable abbrev R2:=V->V->Hp->VK->Prop
noncomputable def ji(X:Cx)(f:Value->Value->Sem Value)(r:R2):Prop:=∀(pins:List (Addr×Obj))(s:Shared)(σ:St)(H:Hp)(x y:V)(v u:Value)(Q:VK),Inv X pins σ H s->RelV x v->RelV y u->r x y H Q->wpAny (model X.prog X.w) X.A (f v u) (EP X pins σ Q) X.xe s
noncomputable def UnR(X:Cx)(f:Value->Sem Value)(r:V->Hp->VK->Prop):Prop:=∀(pins:List (Addr×Obj))(s:Shared)(σ:St)(H:Hp)(x:V)(v:Value)(Q:VK),Inv X pins σ H s->RelV x v->r x H Q->wpAny (model X.prog X.w) X.A (f v) (EP X pins σ Q) X.xe s
noncomputable def jD(X:Cx)(f:Value)(r:List V->Hp->VK->Prop):Prop:=∀(pins:List (Addr×Obj))(s:Shared)(σ:St)(H:Hp)(xs:List V)(us:List Value)(Q:VK),Inv X pins σ H s->Vals xs us->r xs H Q->wpAny (model X.prog X.w) X.A (call f us) (EP X pins σ Q) X.xe s
noncomputable def Xa(r:R2)(c tb:TE):TE:=λσ H Q=>c σ H λx a=>tb σ a λy b=>r x y b Q
noncomputable def tUn(r:V->Hp->VK->Prop)(b:TE):TE:=λσ H Q=>b σ H λx a=>r x a Q
noncomputable def rI(C:Int->Int->Prop)(g:Int->Int->V):R2:=λx y H Q=>∃i j,x= .int i/\y= .int j/\C i j/\Q (g i j) H
noncomputable def QY(g:Int->Int->V):R2:=λx y H Q=>∃i j,x= .int i/\y= .int j/\Q (g i j) H
noncomputable def rU(g:Int->V):V->Hp->VK->Prop:=λx H Q=>∃i,x= .int i/\Q (g i) H
section
variable{X:Cx}{a b c:Expr}{ta tb tc:TE}{pos:Pos}
theorem TM(ha:PE X a ta)(hb:PE X b tb){pins:List (Addr×Obj)}{s:Shared}{σ:St}{H:Hp}{R:V->V->Hp->Prop}(I:Inv X pins σ H s)(h:ta σ H λx e=>tb σ e λy d=>R x y d){Q:Value->Shared->Prop}{f:Value->Value->Sem Value}(hf:∀v u s2 x y d,Inv X pins σ d s2->RelV x v->RelV y u->R x y d->wpAny (model X.prog X.w) X.A (f v u) Q X.xe s2):wpAny (model X.prog X.w) X.A (eval a X.env) (λv m=>wpAny (model X.prog X.w) X.A (eval b X.env) (λu n=>wpAny (model X.prog X.w) X.A (f v u) Q X.xe n) X.xe m) X.xe s:=by refine bQ (ha pins s σ H _ I h) λv s1 g=>?_;obtain⟨x,e,i,k,q1⟩:=g;refine bQ (hb pins s1 σ e _ i q1) λu s2 g=>?_;obtain⟨y,d,j,l,q2⟩:=g;exact hf v u s2 x y d j k l q2
theorem aQ{op:Operator}{r:R2}(f:ji X (binaryOp op) r)(ha:PE X a ta)(hb:PE X b tb):PE X (.BinOp a op b pos) (Xa r ta tb):=by intro pins s σ H Q I h;exact wpAny_BinOp (TM ha hb I h λv u s2 x y d e g i q=>f pins s2 σ d x y v u Q e g i q)
theorem Mx{op:UnaryOp}{r:V->Hp->VK->Prop}(f:UnR X (unaryOp op) r)(ha:PE X a ta):PE X (.UnaryOp op a pos) (tUn r ta):=by intro pins s σ H Q I h;exact UnaryOp_ (bQ (ha pins s σ H _ I h) λv s1⟨x,d,e,g,q1⟩=>f pins s1 σ d x v Q e g q1)
theorem opI{f:Value->Value->Sem Value}{C:Int->Int->Prop}{g:Int->Int->Int}(rule:∀(i j:Int)(t u:Tok)(s:Shared)(Q:Value->Shared->Prop)(E:Value->Shared->Prop),C i j->Q (.int (g i j) s.toks) {s with toks:=s.toks+1}->wpAny (model X.prog X.w) X.A (f (.int i t) (.int j u)) Q E s):ji X f (rI C λi j=> .int (g i j)):=by intro pins s σ H x y v u Q I d e h;obtain⟨i,j,rfl,rfl,hc,q⟩:=h;obtain⟨t,rfl⟩:=d;obtain⟨t',rfl⟩:=e;exact rule i j t t' s _ _ hc ⟨.int (g i j),H,I.tok _,⟨_,rfl⟩,q⟩
theorem YJ{f:Value->Value->Sem Value}{g:Int->Int->Int}(rule:∀(i j:Int)(t u:Tok)(s:Shared)(Q:Value->Shared->Prop)(E:Value->Shared->Prop),Q (.int (g i j) s.toks) {s with toks:=s.toks+1}->wpAny (model X.prog X.w) X.A (f (.int i t) (.int j u)) Q E s):ji X f (QY λi j=> .int (g i j)):=by intro pins s σ H x y v u Q I d e h;obtain⟨i,j,rfl,rfl,q⟩:=h;obtain⟨t,rfl⟩:=d;obtain⟨t',rfl⟩:=e;exact rule i j t t' s _ _ ⟨.int (g i j),H,I.tok _,⟨_,rfl⟩,q⟩
theorem QH{f:Value->Value->Sem Value}{g:Int->Int->Bool}(rule:∀(i j:Int)(t u:Tok)(s:Shared)(Q:Value->Shared->Prop)(E:Value->Shared->Prop),Q (.bool (g i j)) s->wpAny (model X.prog X.w) X.A (f (.int i t) (.int j u)) Q E s):ji X f (QY λi j=> .bl (g i j)):=by intro pins s σ H x y v u Q I d e h;obtain⟨i,j,rfl,rfl,q⟩:=h;obtain⟨t,rfl⟩:=d;obtain⟨t',rfl⟩:=e;exact rule i j t t' s _ _ ⟨.bl (g i j),H,I,rfl,q⟩
def abg(i j:Int):Prop:=0<j/\j<1073741824
def aaY(i j:Int):Prop:=0<=j/\j<=1000000/\i.natAbs<2^64
def V9(i j:Int):Prop:=(-(2^64)<i/\i<2^64)\/(-(2^64)<j/\j<2^64)
theorem V9.ok{i j:Int}(h:V9 i j):IntMulOk i j:=by
 rcases h with⟨h1,h2⟩|⟨h1,h2⟩;·exact .of_left (intBits_le_64 h1 h2)
 ·exact .of_right (intBits_le_64 h1 h2)
theorem cy:ji X (binaryOp .Add) (QY λi j=> .int (i+j)):=YJ λ_ _ _ _ _ _ _ q=>add_int q
theorem bM:ji X (binaryOp .Sub) (QY λi j=> .int (i-j)):=YJ λ_ _ _ _ _ _ _ q=>sub_int q
theorem yt:ji X (binaryOp .Mult) (rI V9 λi j=> .int (i*j)):=opI λ_ _ _ _ _ _ _ hc q=>mul_int q hc.ok
theorem Pr:ji X (binaryOp .FloorDiv) (rI abg λi j=> .int (i/j)):=opI λi j _ _ _ _ _ hc q=>by have h1:(0:Int)<j:=hc.1;have h2:j<1073741824:=hc.2;exact floordiv_int (by lia) (by rw[Int.fdiv_eq_ediv_of_nonneg i (by lia)];exact q) (.inl (PyProof.noPylong_small (by lia)))
theorem jx:ji X (binaryOp .Mod) (rI (λ_ j=>0<j) λi j=> .int (i%j)):=opI λi j _ _ _ _ _ hc q=>by have h1:(0:Int)<j:=hc;exact mod_int' (by lia) (by rw[Int.fmod_eq_emod_of_nonneg i (by lia)];exact q)
theorem Wb:ji X (binaryOp .Pow) (rI aaY λi j=> .int (i^j.toNat)):=opI λ_ _ _ _ _ _ _ hc q=>pow_int_small hc.1 hc.2.1 hc.2.2 q
theorem unI{f:Value->Sem Value}{g:Int->Int}(rule:∀(i:Int)(t:Tok)(s:Shared)(Q:Value->Shared->Prop)(E:Value->Shared->Prop),Q (.int (g i) s.toks) {s with toks:=s.toks+1}->wpAny (model X.prog X.w) X.A (f (.int i t)) Q E s):UnR X f (rU λi=> .int (g i)):=by intro pins s σ H x v Q I d h;obtain⟨i,rfl,q⟩:=h;obtain⟨t,rfl⟩:=d;exact rule i t s _ _ ⟨.int (g i),H,I.tok _,⟨_,rfl⟩,q⟩
theorem Ez:UnR X (unaryOp .USub) (rU λi=> .int (-i)):=unI λ_ _ _ _ _ q=>neg_int q
end
noncomputable def TN:V->V->Bool| .aP, .aP=>true| .aP, .int _=>true| .int _, .aP=>true| .aP, .bl _=>true| .bl _, .aP=>true| .aP, .str _=>true| .str _, .aP=>true| .int _, .int _=>true| .bl _, .bl _=>true| .str _, .str _=>true| .Ke _, .Ke _=>true| .int _, .str _=>true| .str _, .int _=>true| .bl _, .str _=>true| .str _, .bl _=>true|_,_=>false
noncomputable def rEq:R2:=λx y H Q=>TN x y=true/\Q (.bl (decide (x=y))) H
noncomputable def rNe:R2:=λx y H Q=>TN x y=true/\Q (.bl (!decide (x=y))) H
theorem Gn{i j:Int}:decide (V.int i=V.int j)=(i==j):=by rw[Bool.eq_iff_iff];simp
theorem Nl{i j:Bool}:decide (V.bl i=V.bl j)=(i==j):=by rw[Bool.eq_iff_iff];simp
theorem GI{i j:Str}:decide (V.str i=V.str j)=(i==j):=by rw[Bool.eq_iff_iff];simp
theorem Io{i j:Array UInt8}:decide (V.Ke i=V.Ke j)=(i.toList==j.toList):=by rw[Bool.eq_iff_iff];cases i;cases j;simp
section
variable{X:Cx}{a b c:Expr}{ta tb tc:TE}{pos:Pos}
theorem bH{pins:List (Addr×Obj)}{σ:St}{H:Hp}{s:Shared}{Q:VK}{k d:Bool}(I:Inv X pins σ H s)(q:Q (.bl k) H)(e:k=d):EP X pins σ Q (.bool d) s:=by subst e;exact⟨.bl k,H,I,rfl,q⟩
theorem bP:ji X (compareOp .Eq) rEq:=by
 intro pins s σ H x y v u Q I f d h;obtain⟨e,q⟩:=h;cases x with
  |aP=>cases f;cases y with|aP=>cases d;exact PySem.EqNone.eq_none_none (bH I q (by simp))|bl j=>cases d;exact PySem.EqNone.eq_none_bool (bH I q (by simp))|int j=>obtain⟨t',rfl⟩:=d;exact PySem.EqNone.eq_none_int (bH I q (by simp))|str j=>obtain⟨t',rfl⟩:=d;exact PySem.EqNone.eq_none_str (bH I q (by simp))|_=>exact absurd (show false=true from e) d5
  |bl i=>cases f;cases y with|aP=>cases d;exact PySem.EqNone.eq_bool_none (bH I q (by simp))|bl j=>cases d;exact eq_bool (bH I q Nl)|str j=>obtain⟨t',rfl⟩:=d;exact PySem.EqMixed.eq_bool_str (bH I q (by simp))|_=>exact absurd (show false=true from e) d5
  |int i=>obtain⟨t,rfl⟩:=f;cases y with|aP=>cases d;exact PySem.EqNone.eq_int_none (bH I q (by simp))|int j=>obtain⟨t',rfl⟩:=d;exact eq_int (bH I q Gn)|str j=>obtain⟨t',rfl⟩:=d;exact PySem.EqMixed.eq_int_str (bH I q (by simp))|_=>exact absurd (show false=true from e) d5
  |str i=>obtain⟨t,rfl⟩:=f;cases y with|aP=>cases d;exact PySem.EqNone.eq_str_none (bH I q (by simp))|bl j=>cases d;exact PySem.EqMixed.eq_str_bool (bH I q (by simp))|int j=>obtain⟨t',rfl⟩:=d;exact PySem.EqMixed.eq_str_int (bH I q (by simp))|str j=>obtain⟨t',rfl⟩:=d;exact eq_str (bH I q GI)|_=>exact absurd (show false=true from e) d5
  |Ke i=>obtain⟨t,rfl⟩:=f;cases y with|Ke j=>obtain⟨t',rfl⟩:=d;exact PySem.W.eq_bytes (bH I q Io)|_=>exact absurd (show false=true from e) d5
  |_=>cases y<;>exact absurd (show false=true from e) d5
theorem GN:ji X (compareOp .NotEq) rNe:=by
 intro pins s σ H x y v u Q I f d h;obtain⟨e,q⟩:=h;cases x with
  |aP=>cases f;cases y with|aP=>cases d;exact PySem.EqNone.ne_none_none (bH I q (by simp))|bl j=>cases d;exact PySem.EqNone.ne_none_bool (bH I q (by simp))|int j=>obtain⟨t',rfl⟩:=d;exact PySem.EqNone.ne_none_int (bH I q (by simp))|str j=>obtain⟨t',rfl⟩:=d;exact PySem.EqNone.ne_none_str (bH I q (by simp))|_=>exact absurd (show false=true from e) d5
  |bl i=>cases f;cases y with|aP=>cases d;exact PySem.EqNone.ne_bool_none (bH I q (by simp))|bl j=>cases d;exact ne_bool (bH I q (congrArg not Nl))|str j=>obtain⟨t',rfl⟩:=d;exact PySem.EqMixed.ne_bool_str (bH I q (by simp))|_=>exact absurd (show false=true from e) d5
  |int i=>obtain⟨t,rfl⟩:=f;cases y with|aP=>cases d;exact PySem.EqNone.ne_int_none (bH I q (by simp))|int j=>obtain⟨t',rfl⟩:=d;exact ne_int (bH I q (congrArg not Gn))|str j=>obtain⟨t',rfl⟩:=d;exact PySem.EqMixed.ne_int_str (bH I q (by simp))|_=>exact absurd (show false=true from e) d5
  |str i=>obtain⟨t,rfl⟩:=f;cases y with|aP=>cases d;exact PySem.EqNone.ne_str_none (bH I q (by simp))|bl j=>cases d;exact PySem.EqMixed.ne_str_bool (bH I q (by simp))|int j=>obtain⟨t',rfl⟩:=d;exact PySem.EqMixed.ne_str_int (bH I q (by simp))|str j=>obtain⟨t',rfl⟩:=d;exact ne_str (bH I q (congrArg not GI))|_=>exact absurd (show false=true from e) d5
  |Ke i=>obtain⟨t,rfl⟩:=f;cases y with|Ke j=>obtain⟨t',rfl⟩:=d;exact PySem.W.ne_bytes (bH I q (congrArg not Io))|_=>exact absurd (show false=true from e) d5
  |_=>cases y<;>exact absurd (show false=true from e) d5
theorem oD:ji X (compareOp .Lt) (QY λi j=> .bl (decide (i<j))):=QH λ_ _ _ _ _ _ _ q=>lt_int q
theorem vK:ji X (compareOp .LtE) (QY λi j=> .bl (decide (i<=j))):=QH λ_ _ _ _ _ _ _ q=>le_int q
theorem uH:ji X (compareOp .Gt) (QY λi j=> .bl (decide (j<i))):=QH λ_ _ _ _ _ _ _ q=>gt_int q
theorem N9:ji X (compareOp .GtE) (QY λi j=> .bl (decide (j<=i))):=QH λ_ _ _ _ _ _ _ q=>ge_int q
theorem JX:ji X (compareOp .In) (λx y H Q=>∃i j,x= .str i/\y= .str j/\Q (.bl (!(Builtin.Str.occurrences j i 0 j.length 1).isEmpty)) H):=by intro pins s σ H x y v u Q I d e h;obtain⟨i,j,rfl,rfl,q⟩:=h;obtain⟨t,rfl⟩:=d;obtain⟨t',rfl⟩:=e;exact in_str (bH I q rfl)
theorem OA:ji X (compareOp .Is) (λx y H Q=>y= .aP/\Q (.bl (decide (x= .aP))) H):=by intro pins s σ H x y v u Q I d e h;obtain⟨rfl,q⟩:=h;cases e;refine is_none_gen (bH I q ?_);cases x<;>first|(cases d;rfl)|(obtain⟨t,rfl⟩:=d;rfl)
theorem A9:ji X (compareOp .IsNot) (λx y H Q=>y= .aP/\Q (.bl (!decide (x= .aP))) H):=by intro pins s σ H x y v u Q I d e h;obtain⟨rfl,q⟩:=h;cases e;refine isnot_none_gen (bH I q ?_);cases x<;>first|(cases d;rfl)|(obtain⟨t,rfl⟩:=d;rfl)
theorem aG(b:Expr){op:CmpOp}(h:op≠ .In:=by decide)(h2:op≠ .NotIn:=by decide):behindInMarks op b=false:=by
 have e1:(op==CmpOp.In)=false:=by cases op<;>first|rfl|exact absurd rfl h
 have e2:(op==CmpOp.NotIn)=false:=by cases op<;>first|rfl|exact absurd rfl h2
 cases b<;>simp[behindInMarks,e1,e2]
theorem cK{op:CmpOp}{r:R2}(f:ji X (compareOp op) r)(ha:PE X a ta)(hb:PE X b tb)(hm:behindInMarks op b=false):PE X (.Compare a [op] [b] pos) (Xa r ta tb):=by intro pins s σ H Q I h;exact wpAny_Compare1 (TM ha hb I h λv u s2 x y d e g i q=>f pins s2 σ d x y v u Q e g i q) hm
noncomputable def Kv(t:TE):TT:=λσ H Q=>t σ H λx H'=>∃k,x= .bl k/\Q k H'
theorem aD{op:CmpOp}{r:R2}(m:ji X (compareOp op) r)(ha:PE X a ta)(hb:PE X b tb)(hm:behindInMarks op b=false):PT X (.Compare a [op] [b] pos) (Kv (Xa r ta tb)):=by intro pins s σ H Q I h;refine wpAny_isTrue_Compare1 (bQ (ha pins s σ H _ I h) λv s1⟨x,d,i,n,q1⟩=>bQ (hb pins s1 σ d _ i q1) λu s2⟨y,f,j,o,q2⟩=>bQ (m pins s2 σ f x y v u _ j n o q2) λc q⟨z,g,l,p,k,e,q3⟩=>?_) hm;subst e;cases p;exact kH ⟨g,l,q3⟩
noncomputable def MC(r h:R2)(ta tb tc:TE):TE:=λσ H Q=>ta σ H λx e=>tb σ e λy f=>r x y f λz d=>∃k,z= .bl k/\(if k=true then tc σ d λi g=>h y i g Q else Q (.bl false) d)
theorem LJ{op f:CmpOp}{r j:R2}(w:ji X (compareOp op) r)(A:ji X (compareOp f) j)(ha:PE X a ta)(hb:PE X b tb)(hc:PE X c tc)(hm:lastMarks [op,f] [b,c]=false:=by with_unfolding_all rfl):PE X (.Compare a [op,f] [b,c] pos) (MC r j ta tb tc):=by intro pins s σ H Q I h;refine Compare_chain (bQ (ha pins s σ H _ I h) λv s1⟨x,m,p,B,q1⟩=>chain_link (bQ (hb pins s1 σ m _ p q1) λu s2⟨y,n,q,l,q2⟩=>bQ (w pins s2 σ n x y v u _ q B l q2) λd E⟨z,g,i,C,k,e,q3⟩=>?_)) hm;subst e;cases C;refine kH ?_;cases k with|false=>exact ite_ff ⟨.bl false,g,i,rfl,q3⟩|true=>exact ite_tt (chain_last (bQ (hc pins E σ g _ i q3) λG F⟨J,o,t,D,q4⟩=>A pins F σ o y J u G Q t l D q4))
theorem DF{op f:CmpOp}{r j:R2}(B:ji X (compareOp op) r)(C:ji X (compareOp f) j)(ha:PE X a ta)(hb:PE X b tb)(hc:PE X c tc)(hm:lastMarks [op,f] [b,c]=false:=by with_unfolding_all rfl):PT X (.Compare a [op,f] [b,c] pos) (Kv (MC r j ta tb tc)):=by intro pins s σ H Q I h;refine isTrue_chain (bQ (ha pins s σ H _ I h) λv s1⟨x,m,q,F,q1⟩=>test_link (bQ (hb pins s1 σ m _ q q1) λu s2⟨y,n,t,l,q2⟩=>bQ (B pins s2 σ n x y v u _ t F l q2) λd L⟨z,g,i,G,k,e,q3⟩=>?_)) hm;subst e;cases G;refine kH ?_;cases k with|false=>obtain⟨R,e',D⟩:=q3;cases e';exact ite_ff ⟨g,i,D⟩|true=>refine ite_tt (test_last (bQ (hc pins L σ g _ i q3) λN M⟨O,o,w,J,q4⟩=>bQ (C pins M σ o y O u N _ w l J q4) λd' T P=>?_));obtain⟨U,p,A,K,S,e2,E⟩:=P;subst e2;cases K;exact kH ⟨p,A,E⟩
theorem ni:(sizeLine:Nat)<2^63:=by rw[sizeLine_eq];decide
theorem gg:ji X (binaryOp .Add) (λx y H Q=>∃i j,x= .str i/\y= .str j/\i.length+j.length<=sizeLine/\Q (.str (i++j)) H):=by intro pins s σ H x y v u Q I e f h;obtain⟨i,j,rfl,rfl,d,q⟩:=h;obtain⟨t,rfl⟩:=e;obtain⟨t',rfl⟩:=f;exact add_str (λt' tk=>⟨.str (i++j),H,I.tok _,⟨_,rfl⟩,q⟩) d
theorem vals1{x:V}{us:List Value}(r:Vals [x] us):∃u,us=[u]/\RelV x u:=by cases r with|cons d e=>cases e;exact⟨_,rfl,d⟩
end
structure Wo(h:Heap)(x dx C:Addr)(mA:Str->Option Value):Prop where
 obj:h.get? x=some (PySem.W.instObj C dx)
 ns:h.Ns1 dx mA
 ne:dx≠x
theorem IK{h:Heap}{dx:Addr}{mA:Str->Option Value}(n:h.Ns1 dx mA):∃od,h.get? dx=some od/\∀name,PySem.W.lookIn name od=some (mA name):=by
 obtain⟨o,es,ep,d,hd,b,_,hm⟩:=n;refine⟨o,d,λname=>?_⟩;have e:=hm name;unfold nsFind findBy at e;rw[<-Array.find?_toList]at e;unfold PySem.W.lookIn;rw[hd];dsimp only;split;·rename_i y q;rw[q]at e;exact congrArg some e
 ·rename_i q;rw[q]at e;have a:es.toList.any (·.refKey)=false:=by rw[List.any_eq_false];intro y f;obtain⟨z,t,c⟩:=b y (Array.mem_toList_iff.mp f);simp[DictEntry.refKey,c]
  have a':¬es.toList.any (·.refKey)=true:=by rw[a];exact d5
  rw[if_neg a'];exact congrArg some e
theorem Wo.look{h:Heap}{x dx C:Addr}{mA:Str->Option Value}(I:Wo h x dx C mA):∃od,PySem.W.InstAt h x (PySem.W.instObj C dx) C (some od)/\∀name,PySem.W.lookIn name od=some (mA name):=let⟨od,a,hl⟩:=IK I.ns;⟨od,⟨I.obj,rfl,rfl,a⟩,hl⟩
section
variable{prog:Program}{w:World}{A:Around}{E:Value->Shared->Prop}{s:Shared}{K:PySem.W.Frag}{x dx C f:Addr}{mA:Str->Option Value}{name:Str}{v:Value}
end
theorem uP.some_of{v:V}{o:Option Value}(r:uP (some v) o):∃u,o=some u/\RelV v u:=by cases o with|none=>exact(show False from r).elim|some u=>exact⟨u,rfl,r⟩
section
variable{P:Program}{w:World}{H H':Hp}{h h':Heap}{a C dx:Addr}{fs fs':List (Str×V)}
theorem Pz(bX:jd P w H h)(e:H a=some (.ins C dx fs)):∃mA,Wo h a dx C mA/\(∀f,uP (fs.lookup f) (mA f))/\PySem.Within mA (fs.map (·.1))/\fs.length<=1000/\H dx=some (.own a):=by obtain⟨d,z,ne,ob,mA,n,r,q⟩:=(show cu P w H h a (.ins C dx fs)from bX a _ e);exact⟨mA,⟨ob,n,ne⟩,r,q,z,d⟩
end
structure Cls(K:PySem.W.Frag)(C:Addr):Prop where
 pg:PySem.W.plainGet K C Str.empty=true
 hd:PySem.W.hasDictIn K C=true
 po:PySem.W.plainOver K C=true
 sa:PySem.W.findIn K (.ref C) "__setattr__"=some (some (.builtin "object.__setattr__"))
theorem Cls.get{K:PySem.W.Frag}{C:Addr}(c:Cls K C)(f:Str):PySem.W.plainGet K C f=true:=c.pg
structure Con(K:PySem.W.Frag)(C:Addr)(f:Str)(v:V)(u:Value):Prop where
 at_:PySem.W.findIn K (.ref C) f=some (some u)
 rel:RelV v u
 get:PySem.W.specialIn K u "__get__"=some none
 cp:PySem.W.copiedNames.contains f=false
structure Meth(K:PySem.W.Frag)(C:Addr)(m:Str)(f:Addr):Prop where
 at_:PySem.W.findIn K (.ref C) m=some (some (.ref f))
 fn:PySem.W.isFn K (.ref f)=true
 kp:PySem.W.keepIn K (.ref f)=true
section
variable{X:Cx}{pins:List (Addr×Obj)}{σ:St}{H:Hp}{s:Shared}{a C dx:Addr}{fs:List (Str×V)}{f:Str}{v:V}{A:Around}{E:Value->Shared->Prop}
end
section
variable{X:Cx}{o e value:Expr}{f:Str}{pos pos' EZ:Pos}{ta tv:TE}
end
section
variable{X:Cx}{pins:List (Addr×Obj)}{σ:St}{H:Hp}{s:Shared}{A:Around}{E:Value->Shared->Prop}{Q:Value->Shared->Prop}{c:Value}{b:Bool}
inductive kb(K:PySem.W.Frag)(H:Hp):V->Value->Prop where|aP:kb K H .aP (.type "NoneType")|bl(x:Bool):kb K H (.bl x) (.type "bool")|int(i:Int):kb K H (.int i) (.type "int")|str(x:Str):kb K H (.str x) (.type "str")|V2(x:UInt64):kb K H (.V2 x) (.type "float")|lst{a:Addr}{xs:List V}(e:H a=some (.lst xs)):kb K H (.ref a) (.type "list")|DK{a:Addr}{o:Obj}{xs:List V}(e:H a=some (.DK o (.lst xs))):kb K H (.ref a) (.type "list")|tup{a:Addr}{xs:List V}(e:H a=some (.tup xs)):kb K H (.ref a) (.type "tuple")|dK{a:Addr}{aF:List (Key×V)}(e:H a=some (.dK aF)):kb K H (.ref a) (.type "dict")|dT{a:Addr}{aF:List (List Key×V)}(e:H a=some (.dT aF)):kb K H (.ref a) (.type "dict")|ins{a C dx:Addr}{fs:List (Str×V)}(e:H a=some (.ins C dx fs))(cl:Cls K C)(ha:PySem.W.findIn K (.ref C) "__class__"=some (some (.builtin "object.__class__")))(hn:PySem.W.specialIn K (.builtin "object.__class__") "__get__"=some (some (.builtin "getset_descriptor.__get__")))(htk:PySem.W.takesIn K (.builtin "object.__class__")=some true)(hm:PySem.W.mroIn K C (.type "object")=some true):kb K H (.ref a) (.ref C)
theorem Jo{x:V}{u t:Value}(I:Inv X pins σ H s)(f:RelV x u)(ty:kb X.K H x t)(e:PySem.W.kitOne X.K t c=some b)(h:∀tk,Q (.bool b) {s with toks:=tk}):wpAny (model X.prog X.w) A (call (.builtin "isinstance") [u,c]) Q E s:=by cases ty with|aP=>cases(show u=Value.none from f);exact PySem.W.kia_one PySem.W.kitx_none I.kS True.intro e (λz=>nomatch z) h|bl y=>cases(show u=Value.bool y from f);exact PySem.W.kia_one PySem.W.kitx_bool I.kS True.intro e (λz=>nomatch z) h|int i=>obtain⟨t,q⟩:=(show∃t,u=Value.int i t from f);cases q;exact PySem.W.kia_one PySem.W.kitx_int I.kS True.intro e (λz=>nomatch z) h|str y=>obtain⟨t,q⟩:=(show∃t,u=Value.str y t from f);cases q;exact PySem.W.kia_one PySem.W.kitx_str I.kS True.intro e (λz=>nomatch z) h|V2 y=>obtain⟨t,q⟩:=(show∃t,u=Value.float y t from f);cases q;exact PySem.W.kia_one PySem.W.kitx_float I.kS True.intro e (λz=>nomatch z) h|@lst a xs d=>cases(show u=Value.ref a from f);obtain⟨_,_,n,_,h1⟩:=(show cu X.prog X.w H s.heap a (.lst xs)from I.bX a _ d);exact PySem.W.kia_one PySem.W.kitx_list I.kS ⟨_,h1,rfl⟩ e (λz=>nomatch z) h|@DK a ob xs d=>cases(show u=Value.ref a from f);obtain⟨_,_,_,n,_,h1⟩:=(show cu X.prog X.w H s.heap a (.DK ob (.lst xs))from I.bX a _ d);exact PySem.W.kia_one PySem.W.kitx_list I.kS ⟨_,h1,rfl⟩ e (λz=>nomatch z) h|@tup a xs d=>cases(show u=Value.ref a from f);obtain⟨_,_,_,p⟩:=(show cu X.prog X.w H s.heap a (.tup xs)from I.bX a _ d);obtain⟨o,h1,h2,_⟩:=p;exact PySem.W.kia_one PySem.W.kitx_tuple I.kS ⟨o,h1,h2⟩ e (λz=>nomatch z) h|@dK a aF d=>cases(show u=Value.ref a from f);obtain⟨_,_,vs,_,p⟩:=(show cu X.prog X.w H s.heap a (.dK aF)from I.bX a _ d);obtain⟨o,es,ep,h1,h2,_⟩:=p;exact PySem.W.kia_one PySem.W.kitx_dict I.kS ⟨o,h1,h2.1⟩ e (λz=>nomatch z) h|@dT a aF d=>cases(show u=Value.ref a from f);obtain⟨_,_,xs,_,o,es,ep,h1,h2,_⟩:=(show cu X.prog X.w H s.heap a (.dT aF)from I.bX a _ d);exact PySem.W.kia_one PySem.W.kitx_dict I.kS ⟨o,h1,h2.1⟩ e (λz=>nomatch z) h|@ins a C dx fs d cl ha hn htk hm=>cases(show u=Value.ref a from f);obtain⟨mA,O,_⟩:=Pz I.bX d;obtain⟨od,J,_⟩:=O.look;exact PySem.W.kia_one (PySem.W.kitx_own (cl.get _) cl.hd ha hn htk hm) I.kS J e (λz=>nomatch z) h
end
structure cZ(k:Nat)(A:Around):Prop where
 dp:A.depth+3*k+5<recursionLimit
 un:A.units+16*k+200<cLine
 hd:130<=k->A.handled=none
theorem cZ.mono{j k:Nat}{A:Around}(r:cZ k A)(h:j<=k):cZ j A:=⟨by have :=r.dp;lia,by have :=r.un;lia,λz=>r.hd (by lia)⟩
theorem cZ.deeper{k:Nat}{A:Around}(r:cZ (k+1) A)(env:Env):cZ k (A.deeper env):=⟨by have :=r.dp;show A.depth+1+3*k+5<_;lia,by have :=r.un;show A.units+3+16*k+200<_;lia,λz=>r.hd (by lia)⟩
theorem cZ.depth{k:Nat}{A:Around}(r:cZ k A):A.depth<recursionLimit:=by have :=r.dp;lia
theorem cZ.units{k:Nat}{A:Around}(r:cZ k A):A.units+64<cLine:=by have :=r.un;lia
noncomputable def IH:TA:=λ_ H Q=>Q [] H
noncomputable def Bg(c:TE)(tr:TA):TA:=λσ H Q=>c σ H λx a=>tr σ a λxs b=>Q (x::xs) b
section
variable{X:Cx}{e:Expr}{es:List Expr}{te:TE}{t:TA}{pos:Pos}
theorem af:PA X [] IH:=λ_ _ _ _ H Q I h=>Calls.spliced_nil ⟨[],H,I, .nil,h⟩
theorem aa(ha:PE X e te)(f:PA X es t)(g:starEach (e::es) X.env=(false,eval e X.env)::starEach es X.env:=by rfl):PA X (e::es) (Bg te t):=by intro pos pins s σ H Q I h;rw[g];show wpAny _ _ (spliced ((false,eval e X.env)::backTo pos (starEach es X.env))) _ _ s;refine Calls.spliced_cons (bQ (ha pins s σ H _ I h) λu s1 k=>?_);obtain⟨x,a,c,i,q1⟩:=k;exact bQ (f pos pins s1 σ a _ c q1) λus s2⟨xs,b,d,j,q2⟩=>⟨x::xs,b,d, .cons i j,q2⟩
noncomputable def VY(t:TA):TE:=λσ H Q=>t σ H λxs a=>xs.length<=sizeLine/\∀p,a p=none->Q (.ref p) (upd a p (.tup xs))
noncomputable def UT(t:TA):TE:=λσ H Q=>t σ H λxs a=>xs.length<=sizeLine/\∀p,a p=none->Q (.ref p) (upd a p (.lst xs))
theorem aZ{x1}(h:PA X es t):PE X (.Tuple es x1 pos) (VY t):=by intro pins s σ H Q I hq;refine wpAny_Tuple_spliced (bQ (h pos pins s σ H _ I hq) λus s1⟨xs,a,c,r,z,q⟩=>⟨by rw[<-r.length];exact z,?_⟩);have hf:a s1.heap.objs.size=none:=c.bX.fresh (bJ _);refine⟨.ref s1.heap.objs.size,upd a s1.heap.objs.size (.tup xs),c.laid (t':=s1.toks) (λb u e=>bD _ e) (bJ _) ?_,rfl,q _ hf⟩;exact⟨z,us,r,⟨_,eD _ rfl,rfl,_,rfl⟩⟩
theorem cA(h:PA X es t):PE X (.List es pos) (UT t):=by intro pins s σ H Q I hq;refine wpAny_List_spliced (bQ (h pos pins s σ H _ I hq) λus s1⟨xs,a,c,r,z,q⟩=>⟨by rw[<-r.length];exact z,?_⟩);have hf:a s1.heap.objs.size=none:=c.bX.fresh (bJ _);refine⟨.ref s1.heap.objs.size,upd a s1.heap.objs.size (.lst xs),c.laid (t':=s1.toks) (λb u e=>bD _ e) (bJ _) ?_,rfl,q _ hf⟩;exact⟨z,us,0,r,eD _ rfl⟩
end
noncomputable abbrev Sp:=List V->Hp->VK->XK->Prop
noncomputable abbrev oJ:=Option Value->List Env->Hp->Shared->XK->Value->Shared->Prop
structure Cb(P:Program)(w:World)(K:PySem.W.Frag)(mg:Str->Option Value)(base:Heap)(A:Around)(outer:List Env)(s:Shared)(H:Hp):Prop where
 frames:A.frames=some outer
 mod:Mod K mg base
 bs:∀b o,base.get? b=some o->s.heap.get? b=some o/\H b=none
 Ba:base.objs.size<=s.heap.objs.size
 gZ:s.heap.FunFrames base outer
 Oq:∀b∈jL outer,H b=none
 bX:jd P w H s.heap
 bare:AllBare s.gens
 Xc:HB base A
noncomputable def CE(outer:List Env)(P:Program)(w:World)(H:Hp)(s:Shared)(Q:VK)(u:Value)(s':Shared):Prop:=∃v H',s'.os=s.os/\AllBare s'.gens/\Un (jL outer) [] H H' s.heap s'.heap/\jd P w H' s'.heap/\RelV v u/\Q v H'
noncomputable def CR(CX:oJ)(hh:Option Value)(outer:List Env)(P:Program)(w:World)(H:Hp)(s:Shared)(Q:VK)(E:XK)(r:Result)(s':Shared):Prop:=match r with| .ok (.ret u)=>CE outer P w H s Q u s'| .ok _=>False| .error e=>CX hh outer H s E e s'
structure m9(P:Program)(w:World)(K:PySem.W.Frag)(mg:Str->Option Value)(base:Heap)(CX:oJ)(k:Nat)(f:Addr)(fd:FuncData)(ps:List Str)(sp:Sp):Prop where
 len:∀vs H Q E,sp vs H Q E->vs.length=ps.length
 run:∀(A:Around)(outer:List Env)(s:Shared)(H:Hp)(args:Args)(us:List Value)(vs:List V)(Q:VK)(E:XK),cZ k A->Cb P w K mg base A outer s H->BindsTo s fd args (ps.zip us)->Vals vs us->sp vs H Q E->codeAny (model P w) A (.call (.ref f) args) (CR CX A.handled outer P w H s Q E) s
theorem m9.mono{P:Program}{w:World}{K:PySem.W.Frag}{mg:Str->Option Value}{base:Heap}{CX:oJ}{j k:Nat}{f:Addr}{fd:FuncData}{ps:List Str}{sp:Sp}(F:m9 P w K mg base CX j f fd ps sp)(h:j<=k):m9 P w K mg base CX k f fd ps sp:=⟨F.len,λA outer s H args us vs Q E a=>F.run A outer s H args us vs Q E (a.mono h)⟩
section
variable{X:Cx}{pins:List (Addr×Obj)}{σ:St}{H:Hp}{s s':Shared}
theorem Inv.after{Q:VK}{u:Value}(I:Inv X pins σ H s)(h:CE X.stack X.prog X.w H s Q u s'):EP X pins σ Q u s':=by obtain⟨v,H',os,bare,un,bX,r,q⟩:=h;obtain⟨hh,g,d,t,a⟩:=s';obtain rfl:a=s.os:=os;exact⟨v,H',I.call (h':=hh) (g':=g) (d':=d) (t':=t) (ch:=[]) un bX bare (λb z=>absurd z (by simp)),r,q⟩
end
noncomputable def X6(sp:Sp)(b:List V)(E:XK)(t:TA):TE:=λσ H Q=>t σ H λvs a=>sp (vs++b) a Q E
noncomputable def Binds(K:PySem.W.Frag)(fd:FuncData)(ps:List Str)(ds:List Value):Prop:=∀(s:Shared)(us:List Value),K.In s.heap->(us++ds).length=ps.length->BindsTo s fd ⟨us,[]⟩ (ps.zip (us++ds))
theorem Binds.all{K:PySem.W.Frag}{fd:FuncData}{ps:List Str}(h:∀us:List Value,us.length=ps.length->bindArgs fd ⟨us,[]⟩=pure (ps.zip us)):Binds K fd ps []:=λs us _ hl=>by rw[nX]at hl⊢;exact .of_eq (h us hl)
def Passes(CX:oJ)(X:Cx)(E:XK):Prop:=∀(pins:List (Addr×Obj))(σ:St)(H:Hp)(s:Shared)(e:Value)(s':Shared),Inv X pins σ H s->CX X.A.handled X.stack H s E e s'->X.xe e s'
section
variable{X:Cx}{CX:oJ}{k:Nat}{f C:Addr}{fd:FuncData}{ps:List Str}{sp:Sp}{dvs:List V}{ds:List Value}{E:XK}{x m:Str}{p pos apos:Pos}{e o:Expr}{es:List Expr}{ta:TE}{t:TA}
end
noncomputable def PK(X:Cx)(a:List Keyword)(t:TA):Prop:=∀(b:Pos)(pins:List (Addr×Obj))(s:Shared)(σ:St)(H:Hp)(Q:List V->Hp->Prop),Inv X pins σ H s->t σ H Q->wpAny (model X.prog X.w) X.A (evalAll ((backToKw b (keywordEach a X.env)).map (·.2))) (AP X pins σ Q) X.xe s
section
variable{X:Cx}{CX:oJ}{k:Nat}{f C:Addr}{fd:FuncData}{ps ks:List Str}{sp:Sp}{E:XK}{x m:Str}{p pos apos abU:Pos}{e o:Expr}{es:List Expr}{Yd:List Keyword}{te ta:TE}{t tk:TA}{nm:Option Str}
theorem Uz:PK X [] IH:=λ_ _ _ _ H Q I h=>wpAny_evalAll_nil ⟨[],H,I, .nil,h⟩
theorem O5(ha:PE X e te)(g:PK X Yd t):PK X (⟨nm,e,abU⟩::Yd) (Bg te t):=by intro pos pins s σ H Q I h;show wpAny _ _ (evalAll ((do let v<-eval e X.env;standAt pos;pure v)::(backToKw pos (keywordEach Yd X.env)).map (·.2))) _ _ s;refine wpAny_evalAll_cons (aj (bQ (ha pins s σ H _ I h) λu s1⟨x,a,c,i,q1⟩=>aj (wpAny_standAt (aU ?_))));exact bQ (g pos pins s1 σ a _ c q1) λus s2⟨xs,b,d,j,q2⟩=>⟨x::xs,b,d, .cons i j,q2⟩
end
structure aN(N P:List Str)(sc:Scope):Prop where
 kind:sc.kind= .function
 co:sc.isCoroutine=false
 gen:sc.isGenerator=false
 nd:N.Nodup
 pre:N.take P.length=P
 par:∀x∈P,sc.names.lookup x=some .local\/sc.names.lookup x=some .cell
 Wl:∀y∈sc.names,y.2≠ .free
theorem wR{kindOf:Str->Option NameKind}{x:Str}:∀{binds:List (Str×Value)}{m:Str->Option Value},(∀v,(x,v)∉binds)->bindL kindOf binds m x=m x
 |[],_,_=>rfl
 |(n,v)::r,m,h=>by
  unfold bindL;rw[wR λw hw=>h w (dX _ hw)];split
  ·have :x≠n:=by rintro rfl;exact h v eC
   simp[this]
  ·rfl
theorem vJ{kindOf:Str->Option NameKind}{x:Str}:∀{binds:List (Str×Value)}{m:Str->Option Value},(∀v,(x,v)∉binds)->bindC kindOf binds m x=m x
 |[],_,_=>rfl
 |(n,v)::r,m,h=>by
  unfold bindC;rw[vJ λw hw=>h w (dX _ hw)];split;·rfl
  ·have :x≠n:=by rintro rfl;exact h v eC
   simp[this]
theorem wL{kindOf:Str->Option NameKind}{x:Str}{v:Value}:∀{P:List Str}{vs:List Value}{i:Nat}{m:Str->Option Value},P.Nodup->P[i]?=some x->vs[i]?=some v->kindOf x=some .local->bindL kindOf (P.zip vs) m x=some v|[],_,_,_,_,h,_,_=>by simp at h|_::_,[],_,_,_,_,h,_=>by simp at h|p::P,w::vs,0,m,nd,h1,h2,a=>by simp at h1 h2;subst h1;subst h2;show bindL kindOf ((p,w)::P.zip vs) m p=_;unfold bindL;rw[wR λv b=>(List.nodup_cons.mp nd).1 (List.of_mem_zip b).1,if_pos a];simp|p::P,w::vs,i+1,m,nd,h1,h2,a=>by show bindL kindOf ((p,w)::P.zip vs) m x=_;unfold bindL;exact wL (i:=i) (List.nodup_cons.mp nd).2 (by simpa using h1) (by simpa using h2) a
theorem vQ{kindOf:Str->Option NameKind}{x:Str}{v:Value}:∀{P:List Str}{vs:List Value}{i:Nat}{m:Str->Option Value},P.Nodup->P[i]?=some x->vs[i]?=some v->kindOf x≠some .local->bindC kindOf (P.zip vs) m x=some v|[],_,_,_,_,h,_,_=>by simp at h|_::_,[],_,_,_,_,h,_=>by simp at h|p::P,w::vs,0,m,nd,h1,h2,a=>by simp at h1 h2;subst h1;subst h2;show bindC kindOf ((p,w)::P.zip vs) m p=_;unfold bindC;rw[vJ λv b=>(List.nodup_cons.mp nd).1 (List.of_mem_zip b).1,if_neg a];simp|p::P,w::vs,i+1,m,nd,h1,h2,a=>by show bindC kindOf ((p,w)::P.zip vs) m x=_;unfold bindC;exact vQ (i:=i) (List.nodup_cons.mp nd).2 (by simpa using h1) (by simpa using h2) a
noncomputable def start(N:List Str)(vs:List V):St:=vs.map some++List.replicate (N.length-vs.length) none
noncomputable def eS(CX:oJ)(P:Program)(w:World)(K:PySem.W.Frag)(mg:Str->Option Value)(base:Heap)(N:List Str)(qual:Str)(scope:Scope)(f:Addr)(cd:Value)(A:Around)(outer:List Env)(s:Shared)(H:Hp)(E:XK):Cx where prog:=P;w:=w;K:=K;mg:=mg;base:=base;A:=A.deeper (envOfC qual scope s.heap.objs.size f cd);N:=N;cj:=s;H₀:=H;env:=envOfC qual scope s.heap.objs.size f cd;outer:=outer;stack:=envOfC qual scope s.heap.objs.size f cd::outer;ex:=[];calm:=true;fn:=λ_=>true;pn:=[];xe:=λe s'=>wpAny (model P w) (A.deeper (envOfC qual scope s.heap.objs.size f cd)) (leaving (envOfC qual scope s.heap.objs.size f cd) e) (λ_ a=>CX A.handled outer H s E e a) (λe' a=>CX A.handled outer H s E e' a) s'
theorem Cn{sc:Scope}{n:Nat}{x:Str}(h:sc.names.lookup x=some .cell):∃c,(cellsFrom n sc.names []).lookup x=some c:=by have q:=PySem.W.cellsFrom_some sc.names n [] (.inl h);exact Option.isSome_iff_exists.mp q
theorem JD{CX:oJ}{P:Program}{w:World}{K:PySem.W.Frag}{mg:Str->Option Value}{base:Heap}{N ps:List Str}{qual:Str}{scope:Scope}{f:Addr}{cd:Value}{A:Around}{outer:List Env}{s s1:Shared}{H:Hp}{E:XK}{us:List Value}{vs:List V}(S:aN N ps scope)(e0:Cb P w K mg base A outer s H)(hl:vs.length=ps.length)(r:Vals vs us)(x:InCallC s s.heap.objs.size (bindL (envOfC qual scope s.heap.objs.size f cd).kindOf (ps.zip us) λ_=>none) (cellsFrom (s.heap.objs.size+1) scope.names []) (bindC (envOfC qual scope s.heap.objs.size f cd).kindOf (ps.zip us) λ_=>none) s1):Inv (eS CX P w K mg base N qual scope f cd A outer s H E) [] (start N vs) H s1:=by
 have B:ps.length<=N.length:=by have :=congrArg List.length S.pre;rw[List.length_take]at this;lia
 obtain⟨h1,tk,rfl,l⟩:=x.done;have j:∀b:Addr,b∉(eS CX P w K mg base N qual scope f cd A outer s H E).ex:=λb z=>absurd (show b∈([]:List Addr)from z) (by simp);refine⟨⟨e0.mod,S.kind,rfl,rfl,bJ _,λy z c h1 h2=>?_,λy d=>?_,λy c _ h=>?_,λ_=>e0.Xc.toP,Around.frames_deeper e0.frames, .inr ⟨rfl,rfl⟩,λb z=>absurd z (j b),e0.bs,e0.Ba,λb _ _=>j b,λb z=>absurd z (j b),e0.gZ,e0.Oq⟩,rfl,e0.bare,Un.kept l,⟨_,x.toInCall.ns,λi y v h1 h2 h3=>?_⟩,λy c h=>⟨_,x.cell y c h⟩,e0.bX.fresh (bJ _),λy c h=>?_,λp g=>absurd (show p∈([]:List (Addr×Obj))from g) (by simp),e0.bX.kept l,?_⟩;·exact name_of_addr x.apart (PySem.mem_of_lookup h1) (PySem.mem_of_lookup h2)
 ·have d:scope.names.lookup y=some .cell\/scope.names.lookup y=some .free:=d;rcases d with d|d;·exact Cn d
  ·exact absurd rfl (S.Wl _ (PySem.mem_of_lookup d))
 ·exact Nat.le_of_lt (x.above y c (PySem.mem_of_lookup h))
 ·have hi:i<vs.length:=by
   unfold start at h2;by_cases hi:i<vs.length;·exact hi
   ·rw[List.getElem?_append_right (by simpa using hi)]at h2;rw[List.getElem?_replicate]at h2;split at h2<;>cases h2
  have ha:vs[i]?=some v:=by unfold start at h2;rw[Ci (by simpa using hi),nY]at h2;cases e:vs[i]? with|none=>rw[e]at h2;cases h2|some a=>rw[e]at h2;cases h2;rfl
  obtain⟨u,m,t⟩:=r.get ha;have g:ps[i]?=some y:=by rw[<-S.pre,List.getElem?_take_of_lt (by lia)];exact h1
  have o:ps.Nodup:=by rw[<-S.pre];exact S.nd.sublist (List.take_sublist _ _)
  refine⟨u,t,?_⟩;rcases S.par y (nP g)with k|k;·exact .inl ⟨k,wL o g m k⟩
  ·obtain⟨c,e⟩:=Cn (n:=s.heap.objs.size+1) k;refine .inr ⟨.inl k,c,e,?_⟩;have q:=x.cell y c e;rw[vQ o g m (by show scope.names.lookup y≠_;rw[k];decide)]at q;exact q
 ·exact e0.bX.fresh (Nat.le_of_lt (x.above y c (PySem.mem_of_lookup h)))
 ·unfold start;show _=N.length;rw[je,c_,List.length_replicate];lia
theorem Hz{CX:oJ}{P:Program}{w:World}{K:PySem.W.Frag}{mg:Str->Option Value}{base:Heap}{k:Nat}{f:Addr}{name qual:Str}{params:Arguments}{body:List Stmt}{scope:Scope}{g kV doc pm cF ct oc:Value}{an od:Option Addr}{DL:Array (Option Value)}{N ps:List Str}{sp:Sp}(C:K.lookup f=some ⟨oc,od, .func (PySem.W.fnOf name qual params body scope g kV doc pm an cF ct),DL⟩)(l:PySem.W.codeIn K cF qual=true)(S:aN N ps scope)(len:∀vs H Q E,sp vs H Q E->vs.length=ps.length)(j:∀(A:Around)(outer:List Env)(s:Shared)(H:Hp)(vs:List V)(Q:VK)(E:XK),cZ k (A.deeper (envOfC qual scope s.heap.objs.size f cF))->sp vs H Q E->∃t,gT (eS CX P w K mg base N qual scope f cF A outer s H E) body t/\t {nx:=λ_ H'=>Q .aP H',rt:=Q} (start N vs) H):m9 P w K mg base CX (k+1) f (PySem.W.fnOf name qual params body scope g kV doc pm an cF ct) ps sp:=by
 refine⟨len,λA outer s H args us vs Q E h e0 hb r i=>?_⟩;have hl:=len _ _ _ _ i;have KX:K.In s.heap:=e0.mod.JA.keeps λb o e=>(e0.bs b o e).1;have B:s.heap.NoLimit:=e0.mod.nolimit.keeps λb o e=>(e0.bs b o e).1;have p:∀y∈ps.zip us,scope.names.lookup y.1=some .local\/(scope.names.lookup y.1=some .cell/\((cellsFrom (s.heap.objs.size+1) scope.names []).lookup y.1).isSome=true):=λ⟨n,v⟩z=>by
  rcases S.par n (List.of_mem_zip z).1 with q|q;·exact .inl q
  ·exact .inr ⟨q,PySem.W.cellsFrom_some _ _ _ (.inl q)⟩
 refine codeAny_call_function h.depth (KX _ _ C) rfl S.co S.gen rfl (PySem.W.codeRec_of KX l) (hb _ _ _ _ ?_);refine wpAny_newFunctionEnv_cells S.kind p λenv m s1 x=>?_;subst m;refine⟨B.keeps x.toInCall.keep,codeAny_func ?_⟩;obtain⟨t,ht,hq⟩:=j A outer s H vs Q E (h.deeper _) i;have I:Inv (eS CX P w K mg base N qual scope f cF A outer s H E) [] (start N vs) H s1:=JD S e0 hl r x;refine fE (ht [] s1 (start N vs) H _ I hq) (λfl s' a=>?_) λe s' a=>a;have fin:∀{c:St}{H':Hp}{v:V}{u:Value},Inv (eS CX P w K mg base N qual scope f cF A outer s H E) [] c H' s'->RelV v u->Q v H'->CE outer P w H s Q u s':=λ{c H' v u}J d q=>⟨v,H',J.os,J.bare,J.base,J.bX,d,q⟩;cases fl with|ret u=>obtain⟨v,c,H',J,d,q⟩:=a;exact fin J d q|next=>obtain⟨c,H',J,q⟩:=a;exact fin (v:=V.aP) (u:=Value.none) J rfl q|brk=>obtain⟨_,_,_,q⟩:=a;exact False.elim q|cont=>obtain⟨_,_,_,q⟩:=a;exact False.elim q
section
variable{X:Cx}{x:Str}{p pos:Pos}{e:Expr}{es:List Expr}{t:TA}{id T:String}{r:List V->Hp->VK->Prop}
noncomputable def tCB(r:List V->Hp->VK->Prop)(t:TA):TE:=λσ H Q=>t σ H λvs a=>r vs a Q
theorem bw(hc:jD X (.builtin id) r)(f:Gl X x)(hm:X.mg x=none)(i:bootBuiltins x=some (.builtin id))(ha:PA X (e::es) t)(hn:x≠"__name__":=by decide)(c:(x==("__debug__":Str))=false:=by decide)(d:starEach (e::es) X.env=(false,eval e X.env)::starEach es X.env:=by rfl)(g:(backTo pos (starEach es X.env)).any (·.1)=false:=by rfl):PE X (.Call (.Name x p) (e::es) [] pos) (tCB r t):=by intro pins s σ H Q I h;refine wpAny_Call_Name_kw (jt I f hm i ?_ hn c);exact PyProof.Rows.callWith_builtin1 (bQ (ha pos pins s σ H _ I h) λus s1⟨vs,a,b,j,q1⟩=>hc pins s1 σ a vs us Q b j q1) d g
theorem oh(hc:jD X (.type T) r)(f:Gl X x)(hm:X.mg x=none)(i:bootBuiltins x=some (.type T))(ha:PA X (e::es) t)(hn:x≠"__name__":=by decide)(c:(x==("__debug__":Str))=false:=by decide)(d:starEach (e::es) X.env=(false,eval e X.env)::starEach es X.env:=by rfl)(g:(backTo pos (starEach es X.env)).any (·.1)=false:=by rfl):PE X (.Call (.Name x p) (e::es) [] pos) (tCB r t):=by intro pins s σ H Q I h;refine wpAny_Call_Name_kw (jt I f hm i ?_ hn c);exact PyProof.Rows.callWith_type1 (bQ (ha pos pins s σ H _ I h) λus s1⟨vs,a,b,j,q1⟩=>hc pins s1 σ a vs us Q b j q1) d g
end
end L2
end
section
namespace HT
open PySem PyProof.Rows
section
open PySem.SeqAt
open PySem.AutoSeq1(wpAny_loadPart')
open PySem.MeetsSeq PySem.MeetsSeq2 PySem.MeetsSeq3
end
section
variable{prog:Program}{w:World}{A:Around}{E:Value->Shared->Prop}{s:Shared}
theorem QG{t b:Addr}{vs ws:List Value}{Q:Value->Shared->Prop}(ht:IsTup s.heap t vs.toArray)(hb:IsTup s.heap b ws.toArray)(i:vs≠[])(h1:ws=[]->Q (.ref t) s)(h2:ws≠[]->Q (.ref s.heap.objs.size) {s with heap:=s.heap.push {cls:= .type "tuple",data:= .seq (vs++ws).toArray}})(hsz:vs.length+ws.length<=sizeLine):wpAny (model prog w) A (binaryOp .Add (.ref t) (.ref b)) Q E s:=by
 obtain⟨⟨cls,d,data,sl⟩,a,hc,n,hd⟩:=id ht;obtain⟨⟨l,f,data2,k⟩,c,g,j,h⟩:=id hb;simp only at hc hd g h;subst hc hd g h;have e:vs.toArray++ws.toArray=(vs++ws).toArray:=by simp
 by_cases hw:ws=[];·exact concat_meets ⟨_,a,rfl⟩ ⟨_,c,rfl⟩ noFill_tuple_add seq_tuple_add PySem.F.slot_tuple_add PySem.F.entry_tuple_add (PySem.F.args_tuple_add_2 _ _) (tuple_addW1 t b vs.toArray ws.toArray n j d f sl k (by simpa using i) (by simp[hw])) ⟨a,c,h1 hw⟩
 ·refine concat_meets ⟨_,a,rfl⟩ ⟨_,c,rfl⟩ noFill_tuple_add seq_tuple_add PySem.F.slot_tuple_add PySem.F.entry_tuple_add (PySem.F.args_tuple_add_2 _ _) (tuple_addW2 t b vs.toArray ws.toArray n j d f sl k (by simpa using i) (by simpa using hw) (by rw[cM,cM];exact hsz)) ⟨a,c,?_⟩;rw[e];exact h2 hw
noncomputable def cX(n d:Nat):Option Int->Nat|none=>d|some v=>if v<0 then(v+(n:Int)).toNat else min v.toNat n
theorem lh(n d:Nat):cX n d none=d:=rfl
theorem rG(n d k:Nat):cX n d (some (k:Int))=min k n:=by show(if(k:Int)<0 then((k:Int)+(n:Int)).toNat else min (k:Int).toNat n)=min k n;rw[if_neg (by lia),Int.toNat_natCast]
theorem KC(n d:Nat)(hd:d<=n)(o:Option Int):cX n d o<=n:=by
 cases o with
  |none=>exact hd
  |some v=>
   show(if v<0 then(v+(n:Int)).toNat else min v.toNat n)<=n;by_cases a:v<0;·rw[if_pos a];lia
   ·rw[if_neg a];exact Nat.min_le_right _ _
theorem Ik(v:Int)(n d:Nat):(if v<0 then max (v+(n:Int)) 0 else min v (n:Int))=((cX n d (some v):Nat):Int):=by
 show(if v<0 then max (v+(n:Int)) 0 else min v (n:Int))=(((if v<0 then(v+(n:Int)).toNat else min v.toNat n):Nat):Int);by_cases a:v<0;·simp only[if_pos a];lia
 ·simp only[if_neg a];lia
theorem Ej(lo hi:Option Int)(n:Nat):Builtin.Slice.sliceAdjust lo hi 1 (n:Int)=(((cX n 0 lo:Nat):Int),((cX n n hi:Nat):Int)):=by
 have h1:¬((1:Int)<0):=by lia
 unfold Builtin.Slice.sliceAdjust;simp only[h1,if_false];refine Prod.ext ?_ ?_;·cases lo with|none=>rfl|some v=>exact Ik v n 0
 ·cases hi with|none=>rfl|some v=>exact Ik v n n
theorem Fw(i j:Nat):Builtin.Slice.slicePlaces (i:Int) (j:Int) 1=j-i:=by
 unfold Builtin.Slice.slicePlaces;have h1:(1:Int)>0:=by lia
 simp only[h1,if_true,Int.ediv_one];split<;>lia
theorem ub{v:Value}{o:Option Int}{Q:Option Int->Shared->Prop}(p:IsPart v o)(h:Q o s):wpAny (model prog w) A (Builtin.Slice.slicePartIndex v) Q E s:=by cases p with|none=>exact slicePart_none h|int i t=>exact slicePart_int h
theorem ik{sl:Addr}{c d:Value}{lo hi:Option Int}{n:Nat}{Q:Int×Int×Nat->Shared->Prop}(e:s.heap.IsSliceOf sl c d .none)(pl:IsPart c lo)(f:IsPart d hi)(h:Q (((cX n 0 lo:Nat):Int),1,cX n n hi-cX n 0 lo) s):wpAny (model prog w) A (Builtin.Slice.sliceApplied (.ref sl) (pure (n:Int))) Q E s:=by obtain⟨os,b,g,a⟩:=id e;unfold Builtin.Slice.sliceApplied Builtin.Slice.sliceFields;refine aj (aj (dy b a (x:=c) rfl (aj (dy b a (x:=d) rfl (aj (dy b a (x:= .none) rfl (aU ?_)))))));refine aj (slicePart_none ?_);show wpAny _ _ (if((1:Int)==0)=true then _ else _) _ _ s;rw[if_neg (by decide)];refine aj (ub pl (aj (ub f (aj (aU ?_)))));show wpAny _ _ (match Builtin.Slice.sliceAdjust lo hi 1 (n:Int)with|(lo,hi)=>pure (lo,(1:Int),Builtin.Slice.slicePlaces lo hi 1)) _ _ s;rw[Ej lo hi n];show wpAny _ _ (pure (((cX n 0 lo:Nat):Int),(1:Int),Builtin.Slice.slicePlaces ((cX n 0 lo:Nat):Int) ((cX n n hi:Nat):Int) 1)) _ _ s;rw[Fw];exact aU h
theorem NF(xs:Array Value)(i k:Nat):((List.range k).filterMap λ(m:Nat)=>xs[((i:Int)+(m:Int)*1).toNat]?).toArray=((xs.toList.drop i).take k).toArray:=by
 have e:(λ(m:Nat)=>xs[((i:Int)+(m:Int)*1).toNat]?)=λm=>xs[i+m]?:=by
  funext m;have :((i:Int)+(m:Int)*1).toNat=i+m:=by lia
  rw[this]
 rw[e];have :=pick_run xs i k;rw[List.filterMap_map]at this;have e2:((λx=>xs[x]?)∘λx=>i+x)=λm=>xs[i+m]?:=rfl;rw[e2]at this;rw[this]
theorem mr{t sl:Addr}{items:Array Value}{c d:Value}{lo hi:Option Int}{Q:Value->Shared->Prop}(ht:IsTup s.heap t items)(b:s.heap.IsSliceOf sl c d .none)(pl:IsPart c lo)(j:IsPart d hi)(hw:¬(cX items.size 0 lo=0/\cX items.size items.size hi=items.size))(h:Q (.ref s.heap.objs.size) {s with heap:=s.heap.push {cls:= .type "tuple",data:= .seq ((items.toList.drop (cX items.size 0 lo)).take (cX items.size items.size hi-cX items.size 0 lo)).toArray}})(hsz:items.size<=sizeLine):wpAny (model prog w) A (getItem (.ref t) (.ref sl)) Q E s:=by
 have a:sizeOk (.seq ((items.toList.drop (cX items.size 0 lo)).take (cX items.size items.size hi-cX items.size 0 lo)).toArray):=by show((items.toList.drop (cX items.size 0 lo)).take (cX items.size items.size hi-cX items.size 0 lo)).toArray.size<=sizeLine;rw[cM,List.length_take,List.length_drop,Array.length_toList];lia
 have l:cX items.size items.size hi<=items.size:=KC _ _ (bJ _) hi;obtain⟨os,i,f,k⟩:=id b;have e:s.TypeIs (.ref sl) "slice":=⟨os,i,f⟩;unfold getItem;try with_reducible refine gy ?_
 first|refine aj (aU ?_)|skip
 refine aj (wpAny_sequenceKey ht.typeIs (by decide) ?_);refine aj (wpAny_callSpecial?_slot (name:=Str.ofString "__getitem__") ht.typeIs PyProof.Rows.slot_tuple_getitem (iQ PyProof.Rows.slot_tuple_getitem ht.typeIs entry_tuple_getitem ?_ (args_tuple_getitem _ _)));show wpAny _ _ (Builtin.Tuple.tupleItemsOf (.ref t)>>=_) _ _ s;refine aj (tupleItemsOf_ ht ?_);refine aj (wpAny_typeOf e ?_);rw[if_pos (by decide)];refine aj (ik b pl j ?_);have g:¬((((cX items.size 0 lo:Nat):Int)==0&&(1:Int)==1&&(cX items.size items.size hi-cX items.size 0 lo)==items.size)=true):=by intro q;rw[cf,cf]at q;have q1:((cX items.size 0 lo:Nat):Int)=0:=eq_of_beq q.1.1;have q2:cX items.size items.size hi-cX items.size 0 lo=items.size:=eq_of_beq q.2;exact hw ⟨by lia,by lia⟩
 show wpAny _ _ (if(((cX items.size 0 lo:Nat):Int)==0&&(1:Int)==1&&(cX items.size items.size hi-cX items.size 0 lo)==items.size)=true then _ else _) _ _ s;rw[if_neg g,NF];first|exact aj (m:=Builtin.Tuple.tupleExact _) (wpAny_newObj_type (aU ⟨_,rfl,aU h⟩) a)|exact aj (m:=Builtin.Tuple.tupleExact _) (wpAny_newObj_type (aj (aU (aU ⟨_,rfl,aU h⟩))) a)|exact aj (aj (m:=Builtin.Tuple.tupleExact _) (wpAny_newObj_type (aU (aU ⟨_,rfl,aU h⟩)) a))|exact aj (aj (m:=Builtin.Tuple.tupleExact _) (wpAny_newObj_type (aU ⟨_,rfl,aU h⟩) a))
end
end HT
end
section
namespace L2
open PySem PySem.Spec PyProof.Rows
noncomputable abbrev TO:=St->Hp->(Option Int->Hp->Prop)->Prop
noncomputable def PO(X:Cx)(e:Option Expr)(t:TO):Prop:=∀(pins:List (Addr×Obj))(s:Shared)(σ:St)(H:Hp)(Q:Option Int->Hp->Prop),Inv X pins σ H s->t σ H Q->wpAny (model X.prog X.w) X.A (evalPart e X.env) (λu s'=>∃o H',Inv X pins σ H' s'/\IsPart u o/\Q o H') X.xe s
noncomputable def QT:TO:=λ_ H Q=>Q none H
noncomputable def XD(t:TE):TO:=λσ H Q=>t σ H λx a=>∃i,x= .int i/\Q (some i) a
section
variable{X:Cx}{e:Expr}{te:TE}{lo hi:Option Expr}{tl th:TO}{pos p2:Pos}
theorem cJ:PO X none QT:=by intro pins s σ H Q I h;rw[evalPart_none];exact aU ⟨none,H,I, .none,h⟩
theorem eL(h:PE X e te):PO X (some e) (XD te):=by intro pins s σ H Q I hw;rw[evalPart_some];refine bQ (h pins s σ H _ I hw) λu s1 d=>?_;obtain⟨x,a,b,c,q1⟩:=d;obtain⟨i,rfl,q⟩:=q1;obtain⟨t,rfl⟩:=c;exact⟨some i,a,b, .int i t,q⟩
noncomputable def P5(X:Cx)(r:V->Option Int->Option Int->Hp->VK->Prop):Prop:=∀(pins:List (Addr×Obj))(s:Shared)(σ:St)(H:Hp)(x:V)(v a b:Value)(lo hi:Option Int)(sl:Addr)(Q:VK),Inv X pins σ H s->RelV x v->s.heap.IsSliceOf sl a b .none->IsPart a lo->IsPart b hi->r x lo hi H Q->∃T id,typeLookup (.type T) "__getitem__"=pure (some (.builtin id))/\s.TypeIs v T/\wpAny (model X.prog X.w) X.A (getItem v (.ref sl)) (EP X pins σ Q) X.xe s
noncomputable def tSl(r:V->Option Int->Option Int->Hp->VK->Prop)(te:TE)(tl th:TO):TE:=λσ H Q=>te σ H λx a=>tl σ a λl b=>th σ b λu c=>r x l u c Q
theorem ip{r:V->Option Int->Option Int->Hp->VK->Prop}(y:P5 X r)(t:PE X e te)(hl:PO X lo tl)(z:PO X hi th):PE X (.Subscript e (.Slice lo hi none p2) pos) (tSl r te tl th):=by intro pins s σ H Q I h;refine Subscript_ (bQ (t pins s σ H _ I h) λv s1 f=>?_);obtain⟨x,i,k,B,q1⟩:=f;refine wpAny_Slice (bQ (hl pins s1 σ i _ k q1) λc s2⟨l,j,m,pl,q2⟩=>bQ (z pins s2 σ j _ m q2) λd a f=>?_);obtain⟨u,g,n,A,q3⟩:=f;rw[evalPart_none];refine aU ?_;have o:Inv X pins σ g {a with heap:=a.heap.push {cls:= .type "slice",data:= .fields #[c,d, .none]}}:=n.kept (t':=a.toks) λb ob q=>bD _ q;obtain⟨T,id,p,ht,w⟩:=y pins {a with heap:=a.heap.push {cls:= .type "slice",data:= .fields #[c,d, .none]}} σ g x v c d l u a.heap.objs.size Q o B (Heap.IsSliceOf.new ..) pl A q3;show wpAny (model X.prog X.w) X.A (subscriptTail e (.Slice lo hi none p2) v (.ref a.heap.objs.size)) (EP X pins σ Q) X.xe {a with heap:=a.heap.push {cls:= .type "slice",data:= .fields #[c,d, .none]}};exact tail_any (ops:=[.ref a.heap.objs.size,v]) ht p w (by with_unfolding_all rfl)
noncomputable def iK(xs:List V)(lo hi:Option Int):List V:=(xs.drop (HT.cX xs.length 0 lo)).take (HT.cX xs.length xs.length hi-HT.cX xs.length 0 lo)
theorem oM(xs:List V)(lo hi:Option Int):(iK xs lo hi).length<=xs.length:=by unfold iK;rw[List.length_take,List.length_drop];lia
noncomputable def abi(K:PySem.W.Frag):V->Option Int->Option Int->Hp->VK->Prop:=λx lo hi H Q=>∃a xs,x= .ref a/\bS K H a xs/\¬(HT.cX xs.length 0 lo=0/\HT.cX xs.length xs.length hi=xs.length)/\∀p,H p=none->Q (.ref p) (upd H p (.tup (iK xs lo hi)))
theorem VN:P5 X (abi X.K):=by
 intro pins s σ H x v k l lo hi sl Q I j d pl i h;obtain⟨a,xs,rfl,f,hw,q⟩:=h;cases j;obtain⟨g,r,ht,c⟩:=I.tuple f;have hlen:g.toArray.size=xs.length:=by rw[cM];exact r.length.symm
 refine⟨"tuple",_,PyProof.Rows.slot_tuple_getitem.lookup,ht.typeIs,?_⟩;refine HT.mr ht d pl i (by rw[hlen];exact hw) ?_ (by rw[hlen];exact c);rw[hlen];refine⟨.ref s.heap.objs.size,_,I.laid (t':=s.toks) (o:= .tup (iK xs lo hi)) (λb ob q=>bD _ q) (bJ _) ?_,rfl,q _ (I.bX.fresh (bJ _))⟩;exact⟨cS (oM xs lo hi) c,_,(r.drop (HT.cX xs.length 0 lo)).take (HT.cX xs.length xs.length hi-HT.cX xs.length 0 lo),IsTup.new _ _⟩
noncomputable def Rk(K:PySem.W.Frag):R2:=λx y H Q=>∃a b xs c,x= .ref a/\y= .ref b/\bS K H a xs/\bS K H b c/\xs≠[]/\xs.length+c.length<=sizeLine/\(c=[]->Q (.ref a) H)/\(c≠[]->∀p,H p=none->Q (.ref p) (upd H p (.tup (xs++c))))
theorem Vals.qE{xs:List V}{us:List Value}(r:Vals xs us):us=[]↔xs=[]:=by cases r with|nil=>simp|cons _ _=>simp
theorem Hd:ji X (binaryOp .Add) (Rk X.K):=by intro pins s σ H x y v u Q I j k h;obtain⟨a,b,xs,l,rfl,rfl,ha,hb,g,f,q1,q2⟩:=h;cases j;cases k;obtain⟨m,d,i,_⟩:=I.tuple ha;obtain⟨n,c,p2,_⟩:=I.tuple hb;refine HT.QG i p2 (λz=>g (d.qE.mp z)) (λz=>⟨.ref a,H,I,rfl,q1 (c.qE.mp z)⟩) (λz=>?_) (by rw[<-d.length,<-c.length];exact f);refine⟨.ref s.heap.objs.size,_,I.laid (t':=s.toks) (o:= .tup (xs++l)) (λb ob q=>bD _ q) (bJ _) ?_,rfl,q2 (λw=>z (c.qE.mpr w)) _ (I.bX.fresh (bJ _))⟩;exact⟨by rw[je];exact f,_,d.append c,IsTup.new _ _⟩
end
noncomputable def RM(n:Nat)(i:Int):Option Nat:=if 0<=i then(if i<n then some i.toNat else none)else if-(n:Int)<=i then some (i+n).toNat else none
noncomputable def kZ{a:Type}(xs:List a)(i:Int):Option a:=(RM xs.length i).bind λj=>xs[j]?
theorem Hb{n:Nat}{i:Int}{j:Nat}(h:RM n i=some j):seqIndex? i n=some j/\j<n/\-(n:Int)<=i/\i<n:=by
 unfold RM at h;by_cases a:0<=i
 ·rw[if_pos a]at h;by_cases h1:i<n;·rw[if_pos h1]at h;have e:i.toNat=j:=Option.some.inj h;exact⟨by rw[seqIndex_of a h1,e],by lia,by lia,h1⟩
  ·rw[if_neg h1]at h;cases h
 ·rw[if_neg a]at h;by_cases h1:-(n:Int)<=i;·rw[if_pos h1]at h;have e:(i+n).toNat=j:=Option.some.inj h;exact⟨by rw[seqIndex_neg (by lia) h1,e],by lia,h1,by lia⟩
  ·rw[if_neg h1]at h;cases h
theorem A0{a:Type}{xs:List a}{i:Int}{v:a}(h:kZ xs i=some v):∃j,seqIndex? i xs.length=some j/\xs[j]?=some v/\j<xs.length/\-(xs.length:Int)<=i/\i<xs.length:=by unfold kZ at h;cases e:RM xs.length i with|none=>rw[e]at h;cases h|some j=>rw[e]at h;obtain⟨h1,h2,h3,h4⟩:=Hb e;exact⟨j,h1,h,h2,h3,h4⟩
theorem aO{a:Type}{xs:List a}{j:Nat}{v:a}(h:xs[j]?=some v):kZ xs (j:Int)=some v:=by
 have b:j<xs.length:=(List.getElem?_eq_some_iff.mp h).1;have e:RM xs.length (j:Int)=some j:=by unfold RM;rw[if_pos (by lia),if_pos (by lia)];simp
 unfold kZ;rw[e];exact h
def OY(b:Expr):Prop:=∀o i,subscripted b false o i=operate [o,i] (getItem o i)
noncomputable def IxR(X:Cx)(r:R2):Prop:=∀(value slice:Expr)(pins:List (Addr×Obj))(s:Shared)(σ:St)(H:Hp)(x y:V)(v u:Value)(Q:VK),Inv X pins σ H s->RelV x v->RelV y u->r x y H Q->subscripted slice false v u=operate [v,u] (getItem v u)->wpAny (model X.prog X.w) X.A (subscriptTail value slice v u) (EP X pins σ Q) X.xe s
noncomputable def MtR(X:Cx)(id:String)(r:V->List V->Hp->VK->Prop):Prop:=∀(pins:List (Addr×Obj))(s:Shared)(σ:St)(H:Hp)(x:V)(xs:List V)(v:Value)(us:List Value)(Q:VK),Inv X pins σ H s->RelV x v->Vals xs us->r x xs H Q->wpAny (model X.prog X.w) X.A (call (.builtin id) (v::us)) (EP X pins σ Q) X.xe s
section
variable{X:Cx}{a b:Expr}{ta tb:TE}{pos:Pos}
theorem aS{r:R2}(e:IxR X r)(ha:PE X a ta)(hb:PE X b tb)(f:OY b):PE X (.Subscript a b pos) (Xa r ta tb):=by intro pins s σ H Q I h;exact Subscript_ (TM ha hb I h λv u s2 x y c d g i q=>e a b pins s2 σ c x y v u Q d g i q (f _ _))
noncomputable def aaN(K:PySem.W.Frag):R2:=λx y H Q=>∃p xs i v,x= .ref p/\y= .int i/\bN K H p xs/\kZ xs i=some v/\Q v H
noncomputable def abu(K:PySem.W.Frag):R2:=λx y H Q=>∃p xs i v,x= .ref p/\y= .int i/\bS K H p xs/\kZ xs i=some v/\Q v H
noncomputable def aaJ:R2:=λx y H Q=>∃z i c,x= .str z/\y= .int i/\z.length<=sizeLine/\kZ z.cps.toList i=some c/\Q (.str ⟨#[c]⟩) H
theorem cT:IxR X (aaN X.K):=by
 intro value slice pins s σ H x y v u Q I m n h f;obtain⟨p,xs,i,z,rfl,rfl,hq,g,q⟩:=h;cases m;obtain⟨t,rfl⟩:=n;obtain⟨k,r,pl,o⟩:=I.list hq;obtain⟨j,h1,h2,h3,h4,h5⟩:=A0 g;obtain⟨w,d,l⟩:=r.get h2;have hl:=r.length;have hn:=ni;have fin:EP X pins σ Q w s:=⟨z,H,I,l,q⟩;by_cases e:0<=i
 ·have c:i.toNat=j:=by rw[seqIndex_of e h5]at h1;exact Option.some.inj h1
  exact item_listR pl.isList e (by lia) (by rw[c];simpa using d) fin f
 ·have c:(i+(k.toArray.size:Int)).toNat=j:=by rw[seqIndex_neg (by lia) h4]at h1;rw[cM,<-hl];exact Option.some.inj h1
  exact subscriptTail_builtinR (x:=w) pl.isList.typeIs slot_list_getitem.lookup (wpAny_getItem_list_neg (Q:=λr s'=>r=w/\EP X pins σ Q r s') pl.isList (by lia) (by rw[cM]<;>lia) (by lia) (by rw[c];simpa using d) ⟨rfl,fin⟩) f
theorem aR:IxR X (abu X.K):=by intro value slice pins s σ H x y v u Q I g k h e;obtain⟨p,xs,i,z,rfl,rfl,hq,d,q⟩:=h;cases g;obtain⟨t,rfl⟩:=k;obtain⟨m,r,pl,l⟩:=I.tuple hq;obtain⟨j,h1,h2,h3,h4,h5⟩:=A0 d;obtain⟨w,c,f⟩:=r.get h2;have hl:=r.length;have hn:=ni;have fin:EP X pins σ Q w s:=⟨z,H,I,f,q⟩;exact subscriptTail_builtinR (x:=w) pl.typeIs slot_tuple_getitem.lookup (getItem_tuple (j:=j) (Q:=λr s'=>r=w/\EP X pins σ Q r s') pl (by lia) (by lia) (by rw[cM,<-hl];exact h1) (by simpa using c) ⟨rfl,fin⟩) e
theorem FF:IxR X aaJ:=by
 intro value slice pins s σ H x y v u Q I f g h e;obtain⟨z,i,c,rfl,rfl,k,d,q⟩:=h;obtain⟨t,rfl⟩:=f;obtain⟨t',rfl⟩:=g;obtain⟨j,h1,h2,h3,h4,h5⟩:=A0 d;have hl:z.cps.toList.length=z.length:=by simp[Str.length]
 rw[hl]at h1 h4 h5;have hn:=ni;exact tail_any (typeIs_str s z t) slot_str_getitem.lookup (getItem_str (c:=c) (by have e1:decide (i< -(2^63:Int))=false:=decide_eq_false (by lia);have e2:decide (i>=2^63)=false:=decide_eq_false (by lia);rw[e1,e2,Bool.or_false]) (by rw[h1];simpa using h2) ⟨.str ⟨#[c]⟩,H,I.tok _,⟨_,rfl⟩,q⟩) e
theorem DU(c:List Value)(n j:Nat)(u:Value):Obj.mapSeq (·.setIfInBounds j u) {cls:= .type "list",data:= .seq c.toArray n}={cls:= .type "list",data:= .seq (c.set j u).toArray n}:=by simp[Obj.mapSeq]
theorem Inv.lst{pins:List (Addr×Obj)}{σ:St}{H:Hp}{s:Shared}{p:Addr}{xs:List V}(I:Inv X pins σ H s)(h:H p=some (.lst xs)):∃(c:List Value)(n:Nat),Vals xs c/\s.heap.get? p=some {cls:= .type "list",data:= .seq c.toArray n}/\xs.length<=sizeLine:=by obtain⟨z,c,n,r,e⟩:=I.bX p _ h;exact⟨c,n,r,e,z⟩
theorem Inv.TV{pins:List (Addr×Obj)}{σ:St}{H:Hp}{s:Shared}{p:Addr}{xs d:List V}{g its':List Value}{n c:Nat}{f:Obj->Obj}(I:Inv X pins σ H s)(h:H p=some (.lst xs))(i:s.heap.get? p=some {cls:= .type "list",data:= .seq g.toArray n})(hf:f {cls:= .type "list",data:= .seq g.toArray n}={cls:= .type "list",data:= .seq its'.toArray c})(r:Vals d its')(j:d.length<=sizeLine)(t:Nat):Inv X pins σ (upd H p (.lst d)) {s with heap:=s.heap.update p f,toks:=t}:=by
 have e:(s.heap.update p f).get? p=some {cls:= .type "list",data:= .seq its'.toArray c}:=by rw[uW f i (by rw[hf]<;>rfl),hf]
 refine I.write (x:=p) (e:=p) (by rw[h];trivial) (.inl rfl) (λb u hb q=>(ka _ _ (Ne.symm hb)).trans q) ⟨_,e⟩ ?_;exact⟨j,its',c,r,e⟩
noncomputable def XJ:V->V->V->Hp->(Hp->Prop)->Prop:=λo i v H Q=>∃p xs k j,o= .ref p/\i= .int k/\H p=some (.lst xs)/\RM xs.length k=some j/\Q (upd H p (.lst (xs.set j v)))
theorem set_list:XZ X XJ:=by
 intro pins s σ H o i v z y u Q I ro ri x h;obtain⟨p,xs,k,j,rfl,rfl,g,m,q⟩:=h;cases ro;obtain⟨t,rfl⟩:=ri;obtain⟨l,n,r,d,w⟩:=I.lst g;obtain⟨h1,h2,h3,h4⟩:=Hb m;have hl:=r.length;have hn:=ni;have e:Inv X pins σ (upd H p (.lst (xs.set j v))) {s with heap:=s.heap.update p (Obj.mapSeq (·.setIfInBounds j u))}:=I.TV g d (DU l n j u) (r.set x j) (by rw[List.length_set];exact w) s.toks;by_cases f:0<=k
 ·have c:k.toNat=j:=by rw[seqIndex_of f h4]at h1;exact Option.some.inj h1
  exact PySem.W.ki_setAt d f (by lia) (by rw[cM,<-hl];exact h4) (by rw[c];exact⟨_,e,q⟩)
 ·have c:(k+(l.toArray.size:Int)).toNat=j:=by rw[seqIndex_neg (by lia) h3]at h1;rw[cM,<-hl];exact Option.some.inj h1
  exact PySem.W.ki_setBack d (by lia) (by rw[cM,<-hl];exact h3) (by lia) (by rw[c];exact⟨_,e,q⟩)
theorem lP(lo hi:Option Int)(n:Nat):(sliceBounds lo hi none n).1=((HT.cX n 0 lo:Nat):Int)/\(sliceBounds lo hi none n).2.1=((HT.cX n n hi:Nat):Int)/\(sliceBounds lo hi none n).2.2=1:=by
 refine⟨?_,?_,rfl⟩
 ·cases lo with
   |none=>simp[sliceBounds,HT.cX]
   |some i=>
    simp only[sliceBounds,HT.cX,Option.getD_none,show(1:Int)>0 by decide,if_true];by_cases h:i<0;·simp only[h,if_true]<;>lia
    ·simp only[h,if_false]<;>lia
 ·cases hi with
   |none=>simp[sliceBounds,HT.cX]
   |some i=>
    simp only[sliceBounds,HT.cX,Option.getD_none,show(1:Int)>0 by decide,if_true];by_cases h:i<0;·simp only[h,if_true]<;>lia
    ·simp only[h,if_false]<;>lia
theorem u_(c:List Value)(lo hi:Option Int):slicePick c.toArray lo hi none=((c.drop (HT.cX c.length 0 lo)).take (HT.cX c.length c.length hi-HT.cX c.length 0 lo)).toArray:=by obtain⟨h1,h2,h3⟩:=lP lo hi c.toArray.size;unfold slicePick;rw[h1,h2,h3];simp only[sliceRange_one,pick_run,cM]<;>rfl
noncomputable def abn(K:PySem.W.Frag):V->Option Int->Option Int->Hp->VK->Prop:=λx lo hi H Q=>∃a xs,x= .ref a/\bN K H a xs/\∀p,H p=none->Q (.ref p) (upd H p (.lst (iK xs lo hi)))
theorem OW:P5 X (abn X.K):=by intro pins s σ H x v j k lo hi sl Q I g c pl f h;obtain⟨a,xs,rfl,d,q⟩:=h;cases g;obtain⟨i,r,ht,e⟩:=I.list d;have hlen:=r.length;refine⟨"list",_,slot_list_getitem.lookup,ht.isList.typeIs,?_⟩;refine wpAny_getItem_list_slice ht.isList c pl f .none (by simp) ?_ (by rw[cM]<;>lia);rw[u_,<-hlen];refine⟨.ref s.heap.objs.size,_,I.laid (t':=s.toks) (o:= .lst (iK xs lo hi)) (λb ob q=>bD _ q) (bJ _) ?_,rfl,q _ (I.bX.fresh (bJ _))⟩;exact⟨cS (oM xs lo hi) e,_,0,(r.drop (HT.cX xs.length 0 lo)).take (HT.cX xs.length xs.length hi-HT.cX xs.length 0 lo),eD _ rfl⟩
noncomputable def oy:V->Bool| .aP=>true| .bl _=>true| .int _=>true| .str _=>true|_=>false
noncomputable def Ri:V->V->Bool| .aP, .aP=>true| .bl a, .bl b=>a==b| .bl a, .int b=>(if a then 1 else 0)==b| .int a, .bl b=>a==(if b then 1 else 0)| .int a, .int b=>a==b| .str a, .str b=>a==b|_,_=>false
theorem Wq{A:Around}{s:Shared}{y x:V}{u v:Value}(e:RelV y u)(c:RelV x v)(f:oy y=true)(d:oy x=true):SeqAt.EqAt A s u v (Ri y x):=by
 cases y with
  |aP=>cases e;cases x with|aP=>cases c;exact SeqAt.EqAt.same _|bl b=>cases c;exact SeqAt.EqAt.none_bool b|int b=>obtain⟨t,rfl⟩:=c;exact SeqAt.EqAt.none_int b t|str b=>obtain⟨t,rfl⟩:=c;exact SeqAt.EqAt.none_str b t|_=>exact absurd (show false=true from d) d5
  |bl a=>cases e;cases x with|aP=>cases c;exact SeqAt.EqAt.bool_none a|bl b=>cases c;exact SeqAt.EqAt.bool_bool a b|int b=>obtain⟨t,rfl⟩:=c;exact SeqAt.EqAt.bool_int a b t|str b=>obtain⟨t,rfl⟩:=c;exact SeqAt.EqAt.bool_str a b t|_=>exact absurd (show false=true from d) d5
  |int a=>obtain⟨t',rfl⟩:=e;cases x with|aP=>cases c;exact SeqAt.EqAt.int_none a t'|bl b=>cases c;exact SeqAt.EqAt.int_bool a t' b|int b=>obtain⟨t,rfl⟩:=c;exact SeqAt.EqAt.int_int a t' b t|str b=>obtain⟨t,rfl⟩:=c;exact SeqAt.EqAt.int_str a t' b t|_=>exact absurd (show false=true from d) d5
  |str a=>obtain⟨t',rfl⟩:=e;cases x with|aP=>cases c;exact SeqAt.EqAt.str_none a t'|bl b=>cases c;exact SeqAt.EqAt.str_bool a t' b|int b=>obtain⟨t,rfl⟩:=c;exact SeqAt.EqAt.str_int a t' b t|str b=>obtain⟨t,rfl⟩:=c;exact SeqAt.EqAt.str_str a t' b t|_=>exact absurd (show false=true from d) d5
  |_=>exact absurd (show false=true from f) d5
noncomputable def QM(x:V)(u:Value):Bool:=match u with| .none=>Ri .aP x| .bool b=>Ri (.bl b) x| .int i _=>Ri (.int i) x| .str z _=>Ri (.str z) x|_=>false
theorem My{x y:V}{u:Value}(r:RelV y u)(f:oy y=true):QM x u=Ri y x:=by cases y with|aP=>cases r;rfl|bl b=>cases r;rfl|int i=>obtain⟨t,rfl⟩:=r;rfl|str z=>obtain⟨t,rfl⟩:=r;rfl|_=>exact absurd (show false=true from f) d5
theorem Al{x:V}:∀{xs:List V}{us:List Value},Vals xs us->xs.all oy=true->us.any (QM x)=xs.any λy=>Ri y x|_,_, .nil,_=>rfl|y::xs,u::us, .cons r t,f=>by rw[List.all_cons,cf]at f;rw[List.any_cons,List.any_cons,My r f.1,Al t f.2]
theorem sU{A:Around}{s:Shared}{x:V}{v:Value}(e:RelV x v)(d:oy x=true):∀{xs:List V}{us:List Value},Vals xs us->xs.all oy=true->∀u∈us,SeqAt.EqAt A s u v (QM x u)
 |_,_, .nil,_=>λu c=>by cases c
 |y::xs,u::us, .cons r t,f=>λg c=>by
  rw[List.all_cons,cf]at f;rcases List.mem_cons.mp c with rfl|c;·rw[My r f.1];exact Wq r e f.1 d
  ·exact sU e d t f.2 g c
noncomputable def QV(x:V)(xs:List V):Bool:=xs.any λy=>Ri y x
noncomputable def rIn(K:PySem.W.Frag)(neg:Bool):R2:=λx y H Q=>∃p xs,y= .ref p/\(bN K H p xs\/bS K H p xs)/\oy x=true/\xs.all oy=true/\Q (.bl (if neg then !QV x xs else QV x xs)) H
theorem jS:ji X (compareOp .In) (rIn X.K false):=by
 intro pins s σ H x y v u Q I e g h;obtain⟨p,xs,rfl,hq,d,fs,q⟩:=h;cases g;rcases hq with hq|hq;·obtain⟨c,r,pl,f⟩:=I.list hq;refine SeqAt.in_listAt (QM x) pl.isList (λw hw=>sU e d r fs w (by simpa using hw)) ⟨.bl _,H,I,rfl,?_⟩;rw[show c.toArray.any (QM x)=c.any (QM x)by simp,Al r fs];exact q
 ·obtain⟨c,r,pl,f⟩:=I.tuple hq;refine SeqAt.in_tupleAt (QM x) pl (λw hw=>sU e d r fs w (by simpa using hw)) ⟨.bl _,H,I,rfl,?_⟩;rw[show c.toArray.any (QM x)=c.any (QM x)by simp,Al r fs];exact q
theorem bx:jD X (.builtin "len") (λxs H Q=>∃p c,xs=[.ref p]/\(bN X.K H p c\/bS X.K H p c)/\Q (.int c.length) H):=by
 intro pins s σ H xs us Q I r h;obtain⟨p,c,rfl,hq,q⟩:=h;obtain⟨u,rfl,g⟩:=vals1 r;cases g;have hn:=ni;rcases hq with hq|hq;·obtain⟨f,d,pl,e⟩:=I.list hq;have hlen:=d.length;exact Calls.call_len_list pl.isList (by simp only[cM]<;>lia) ⟨.int c.length,H,I.tok _,⟨s.toks+1,by rw[cM,hlen]⟩,q⟩
 ·obtain⟨f,d,pl,e⟩:=I.tuple hq;have hlen:=d.length;exact len_tuple pl (by simp only[cM]<;>lia) ⟨.int c.length,H,I.tok _,⟨s.toks+1,by rw[cM,hlen]⟩,q⟩
theorem AK:jD X (.builtin "len") (λxs H Q=>∃z,xs=[.str z]/\z.length<=sizeLine/\Q (.int z.length) H):=by intro pins s σ H xs us Q I r h;obtain⟨z,rfl,c,q⟩:=h;obtain⟨u,rfl,t,rfl⟩:=vals1 r;have hn:=ni;exact len_str (by lia) ⟨.int z.length,H,I.tok _,⟨_,rfl⟩,q⟩
theorem md:jD X (.type "list") (λxs H Q=>∃p f,xs=[.ref p]/\(bN X.K H p f\/bS X.K H p f)/\∀l,H l=none->Q (.ref l) (upd H l (.lst f))):=by
 intro pins s σ H xs us Q I r h;obtain⟨p,f,rfl,hq,q⟩:=h;obtain⟨u,rfl,j⟩:=vals1 r;cases j;have fin:∀(c:List Value),Vals f c->f.length<=sizeLine->∀(h':Heap)(c':Nat),(∀b o',s.heap.get? b=some o'->h'.get? b=some o')->h'.get? s.heap.objs.size=some {cls:= .type "list",dict:=none,data:= .seq c.toArray c',slots:=#[]}->EP X pins σ Q (.ref s.heap.objs.size) {s with heap:=h'}:=λc d g h' c' kp e=>⟨.ref s.heap.objs.size,_,I.laid (t':=s.toks) kp (bJ _) (show cu X.prog X.w _ h' _ (.lst f)from⟨g,c,c',d,e⟩),rfl,q _ (I.bX.fresh (bJ _))⟩;rcases hq with hq|hq;·obtain⟨c,d,pl,g⟩:=I.list hq;have hlen:=d.length;obtain⟨o,i,hc,n,hd⟩:=pl.isList;exact call_list_seq p (.inl rfl) i hc hd (λh' c' kp e=>fin c d g h' c' kp e) (by simp only[cM]<;>lia)
 ·obtain⟨c,d,pl,g⟩:=I.tuple hq;have hlen:=d.length;obtain⟨o,i,hc,n,hd⟩:=pl;exact call_list_seq p (.inr rfl) i hc hd (λh' c' kp e=>fin c d g h' c' kp e) (by simp only[cM]<;>lia)
theorem vb:jD X (.type "tuple") (λxs H Q=>∃p c,xs=[.ref p]/\((bN X.K H p c/\∀l,H l=none->Q (.ref l) (upd H l (.tup c)))\/(bS X.K H p c/\Q (.ref p) H))):=by
 intro pins s σ H xs us Q I r h;obtain⟨p,c,rfl,h⟩:=h;obtain⟨u,rfl,k⟩:=vals1 r;cases k;rcases h with⟨hq,q⟩|⟨hq,q⟩;·obtain⟨d,f,pl,i⟩:=I.list hq;have hlen:=f.length;refine call_tuple_list pl.isList (λh' kp=>?_) (by simp only[cM]<;>lia);have g:Inv X pins σ H {s with heap:=h'}:=I.kept (t':=s.toks) kp;have j:Inv X pins σ (upd H h'.objs.size (.tup c)) {s with heap:=h'.push {cls:= .type "tuple",data:= .seq d.toArray}}:=g.laid (t':=s.toks) (λb o e=>bD _ e) (bJ _) (show cu X.prog X.w _ _ _ (.tup c)from⟨i,d,f,IsTup.new _ _⟩);exact⟨.ref h'.objs.size,_,j,rfl,q _ (g.bX.fresh (bJ _))⟩
 ·obtain⟨d,f,pl,i⟩:=I.tuple hq;exact call_tuple_same pl ⟨.ref p,H,I,rfl,q⟩
def tyV(K:PySem.W.Frag)(T:String)(x:V)(H:Hp):Prop:=match x with| .str _=>T="str"| .int _=>T="int"| .ref p=>(T="list"/\∃xs,bN K H p xs)\/(T="tuple"/\∃o,K.lookup p=some o/\o.cls= .type "tuple"/\o.dict=none)\/(T="dict"/\((∃aF,H p=some (.dK aF))\/∃aF,H p=some (.dT aF)))\/(T="set"/\∃S n,H p=some (.set S n))|_=>False
theorem Ul{pins:List (Addr×Obj)}{σ:St}{H:Hp}{s:Shared}{T:String}{x:V}{v:Value}(I:Inv X pins σ H s)(r:RelV x v)(ty:tyV X.K T x H):s.TypeIs v T/\∀a,v= .ref a->∃ob,s.heap.get? a=some ob/\ob.dict=none:=by
 cases x with
  |str z=>obtain⟨t,rfl⟩:=r;cases(show T="str"from ty);exact⟨typeIs_str s z t,λ_ e=>nomatch e⟩
  |int i=>obtain⟨t,rfl⟩:=r;cases(show T="int"from ty);exact⟨typeIs_int s i t,λ_ e=>nomatch e⟩
  |ref p=>
   cases r;rcases ty with⟨rfl,xs,hq⟩|⟨rfl,o,d,hc,hd⟩|⟨rfl,d⟩|⟨rfl,S,n,d⟩;·obtain⟨f,_,pl,_⟩:=I.list hq;refine⟨pl.isList.typeIs,λa e=>?_⟩;cases e;obtain⟨o,n,e,c,hd,_⟩:=pl;exact⟨o,e,hd⟩
   ·refine⟨⟨o,I.kS p o d,hc⟩,λa e=>?_⟩;cases e;exact⟨o,I.kS _ o d,hd⟩
   ·have z:∃o,s.heap.get? p=some o/\o.ExactDict:=by
     rcases d with⟨aF,d⟩|⟨aF,d⟩;·obtain⟨_,_,_,_,o,_,_,e,ex,_⟩:=I.bX p _ d;exact⟨o,e,ex⟩
     ·obtain⟨_,_,_,_,o,_,_,e,ex,_⟩:=I.bX p _ d;exact⟨o,e,ex⟩
    obtain⟨o,e,ex⟩:=z;refine⟨⟨o,e,ex.1⟩,λa e2=>?_⟩;cases e2;exact⟨o,e,ex.2.1⟩
   ·obtain⟨o,_,_,_,e,ex,_⟩:=I.bX p _ d;refine⟨⟨o,e,ex.1⟩,λa e2=>?_⟩;cases e2;exact⟨o,e,ex.2.1⟩
  |_=>exact False.elim ty
noncomputable def tBM(K:PySem.W.Frag)(T:String)(r:V->List V->Hp->VK->Prop)(to:TE)(t:TA):TE:=λσ H Q=>to σ H λx c=>tyV K T x c/\t σ c λxs d=>r x xs d Q
variable{o e:Expr}{es:List Expr}{to:TE}{t:TA}{name:Str}{apos eN:Pos}{T id:String}{r:V->List V->Hp->VK->Prop}
theorem BR(w:PlainAttrs T)(slot:Slot T name id)(u:typeOf (.builtin id)=pure (.type "method_descriptor"))(hm:MtR X id r)(n:PE X o to)(ha:PA X (e::es) t)(k:attributeBase o name X.env (eval o X.env)=eval o X.env:=by rfl)(l:((backTo eN (starEach (e::es) X.env)).all (λx=>!x.1)&&(backToKw eN (keywordEach [] X.env)).all (λx=>x.1.isSome)&&decide ((e::es).length+([]:List Keyword).length+(if([]:List Keyword).isEmpty then 0 else 1)<30))=true:=by rfl)(m:(apos.endLine==eN.line)=true:=by rfl)(q:starEach (e::es) X.env=(false,eval e X.env)::starEach es X.env:=by rfl)(p:(backTo eN (starEach es X.env)).any (·.1)=false:=by rfl):PE X (.Call (.Attribute o name apos) (e::es) [] eN) (tBM X.K T r to t):=by intro pins s σ H Q I h;refine wpAny_Call_method_late k l m rfl (bQ (n pins s σ H _ I h) λv s1 z=>?_);obtain⟨x,g,c,f,ty,q1⟩:=z;obtain⟨h1,h2⟩:=Ul c f ty;refine⟨T,id,w,slot,u,h1,h2,?_⟩;have d:=ha eN pins s1 σ g _ c q1;rw[q]at d⊢;refine Calls.callWith_builtin (by show(false||(backTo eN (starEach es X.env)).any (·.1))=false;rw[p]<;>rfl) (Calls.evalArgs_plain ?_);exact bQ d λus s2⟨vs,i,j,y,q2⟩=>hm pins s2 σ i x vs v us Q j f y q2
end
noncomputable def MtM(X:Cx)(id:String)(r:V->List V->Hp->VK->Prop):Prop:=∀(pins:List (Addr×Obj))(s:Shared)(σ:St)(H:Hp)(x:V)(xs:List V)(v:Value)(us:List Value)(Q:VK),Inv X pins σ H s->RelV x v->Vals xs us->r x xs H Q->wpAny (model X.prog X.w) X.A (call (.builtin id) (v::us)) (EP X pins σ Q) X.xe s
theorem Vals.one{x:V}{us:List Value}(h:Vals [x] us):∃u,us=[u]/\RelV x u:=by cases h with|cons r e=>cases e;exact⟨_,rfl,r⟩
theorem Vals.two{x y:V}{us:List Value}(h:Vals [x,y] us):∃u v,us=[u,v]/\RelV x u/\RelV y v:=by cases h with|cons r t=>cases t with|cons q e=>cases e;exact⟨_,_,rfl,r,q⟩
section
variable{X:Cx}{pins:List (Addr×Obj)}{σ:St}{H:Hp}{s:Shared}{l b:Addr}{xs ys zs:List V}
theorem Inv.aaj{a its':List Value}{n:Nat}{f:Array Value->Array Value}{t':Nat}(I:Inv X pins σ H s)(hH:H l=some (.lst xs))(e:s.heap.get? l=some {cls:= .type "list",data:= .seq a.toArray n})(hf:f a.toArray=its'.toArray)(d:Vals ys its')(g:ys.length<=sizeLine):Inv X pins σ (upd H l (.lst ys)) {s with heap:=s.heap.update l (Obj.mapSeq f),toks:=t'}:=by have q:=PySem.IsL.update e f;rw[hf]at q;refine I.write (x:=l) (e:=l) (by rw[hH];exact trivial) (.inl rfl) (λb' u hb c=>(ka s.heap (Obj.mapSeq f) (Ne.symm hb)).trans c) ⟨_,q⟩ ?_;exact⟨g,its',_,d,q⟩
theorem Inv.Yv{a:List Value}{t':Nat}(I:Inv X pins σ H s)(c:Vals ys a)(d:ys.length<=sizeLine):Inv X pins σ (upd H s.heap.objs.size (.lst ys)) {s with heap:=s.heap.push {cls:= .type "list",data:= .seq a.toArray},toks:=t'}:=I.laid (λ_ _ q=>bD _ q) (bJ _) ⟨d,a,0,c,eD _ rfl⟩
theorem Inv.Vl(I:Inv X pins σ H s)(hH:H l=some (.lst xs)):xs.length<=sizeLine/\∃(a:List Value)(n:Nat),Vals xs a/\xs.length=a.length/\s.heap.get? l=some {cls:= .type "list",data:= .seq a.toArray n}:=by obtain⟨z,a,n,r,e⟩:=I.bX l _ hH;exact⟨z,a,n,r,r.length,e⟩
theorem NU{n:Nat}(h:n<=sizeLine):Builtin.List.listTooLong n=false:=by unfold Builtin.List.listTooLong;exact decide_eq_false (by lia)
end
section
variable{X:Cx}
noncomputable def Qt:V->List V->Hp->VK->Prop:=λx vs H Q=>∃l xs y,x= .ref l/\vs=[y]/\H l=some (.lst xs)/\xs.length<sizeLine/\Q .aP (upd H l (.lst (xs++[y])))
theorem nJ:MtM X "list.append" Qt:=by intro pins s σ H x vs v us Q I d c h;obtain⟨l,xs,y,rfl,rfl,hH,f,q⟩:=h;cases d;obtain⟨u,rfl,b⟩:=c.one;obtain⟨z,a,n,r,hl,e⟩:=I.Vl hH;refine call_meets F.slot_list_append ⟨_,e,rfl⟩ F.entry_list_append (F.args_list_append_2 _ _) (PySem.list_append l a.toArray n u (by rw[cM];lia)) ⟨e,?_⟩;refine⟨.aP,_,I.aaj (its':=a++[u]) hH e (by simp) (r.append (.cons b .nil)) ?_,rfl,q⟩;rw[je,List.length_singleton];lia
noncomputable def QR:V->List V->Hp->VK->Prop:=λx vs H Q=>∃l b xs a,x= .ref l/\vs=[.ref b]/\H l=some (.lst xs)/\H b=some (.lst a)/\xs.length+a.length<=sizeLine/\Q .aP (upd H l (.lst (xs++a)))
theorem vO:MtM X "list.extend" QR:=by
 intro pins s σ H x vs v us Q I m k h;obtain⟨l,b,xs,w,rfl,rfl,hH,d,p,q⟩:=h;cases m;obtain⟨u,rfl,j⟩:=k.one;cases j;obtain⟨z,a,n,r,hl,e⟩:=I.Vl hH;obtain⟨t,c,g,i,o,e2⟩:=I.Vl d;have hsz:a.toArray.size+c.toArray.size<=sizeLine:=by rw[cM,cM];lia
 have f:¬(!a.toArray.isEmpty&&Builtin.List.listTooLong (a.toArray.size+c.toArray.size))=true:=by rw[NU hsz,Bool.and_false];exact d5
 refine call_meets F.slot_list_extend ⟨_,e,rfl⟩ F.entry_list_extend (F.args_list_extend_2 _ _) (AutoSeq1.list_extend_list_list_0 l a.toArray n b c.toArray g f (by rw[cM];lia) (by lia)) ⟨e,e2,?_⟩;refine⟨.aP,_,I.aaj (its':=a++c) hH e (by simp) (r.append i) ?_,rfl,q⟩;rw[je];lia
end
section
variable{prog:Program}{w:World}{A:Around}{E:Value->Shared->Prop}{s:Shared}
end
section
variable{X:Cx}
end
section
variable{κ:Type}[DecidableEq κ]
noncomputable def fD(aF:List (κ×V))(k:κ):Option V:=(aF.find? λkv=>decide (kv.1=k)).map (·.2)
noncomputable def putK(aF:List (κ×V))(k:κ)(v:V):List (κ×V):=if(aF.any λkv=>decide (kv.1=k))=true then aF.map (λkv=>if kv.1=k then(kv.1,v)else kv)else aF++[(k,v)]
theorem lp{p:κ×V}{r:List (κ×V)}{k:κ}(e:p.1=k):fD (p::r) k=some p.2:=by simp[fD,List.find?_cons,e]
theorem lU{p:κ×V}{r:List (κ×V)}{k:κ}(e:¬p.1=k):fD (p::r) k=fD r k:=by simp[fD,List.find?_cons,e]
theorem uL(k:κ):∀aF:List (κ×V),(aF.any λkv=>decide (kv.1=k))=(fD aF k).isSome
 |[]=>rfl
 |p::r=>by
  rw[List.any_cons];by_cases e:p.1=k;·simp only[lp e,decide_eq_true e,Bool.true_or,Option.isSome_some]
  ·rw[lU e,decide_eq_false e,Bool.false_or];exact uL k r
theorem pB(aF:List (κ×V))(k:κ)(v:V):(putK aF k v).length<=aF.length+1:=by
 unfold putK;split;·rw[c_];lia
 ·rw[je,hV,List.length_nil];lia
theorem uP.nK{o:Option V}{u:Option Value}(r:uP o u):o.isSome=u.isSome:=by
 cases o with
  |none=>cases u with|none=>rfl|some _=>exact(show False from r).elim
  |some _=>cases u with|none=>exact(show False from r).elim|some _=>rfl
theorem KV.val{aF:List (κ×V)}{vs:List (κ×Value)}(r:KV aF vs)(k:κ):uP (fD aF k) (valueAt vs k):=by
 unfold KV at r;induction r with
  |nil=>exact True.intro
  |@cons p q ps a h t c=>
   obtain⟨h1,h2⟩:=h;by_cases e:p.1=k
   ·have e':q.1=k:=h1.symm.trans e;have b:valueAt (q::a) k=some q.2:=by simp[valueAt,List.find?_cons,e']
    rw[lp e,b];exact h2
   ·have e':¬q.1=k:=λz=>e (h1.trans z);have b:valueAt (q::a) k=valueAt a k:=by simp[valueAt,List.find?_cons,e']
    rw[lU e,b];exact c
theorem KV.any{aF:List (κ×V)}{vs:List (κ×Value)}(r:KV aF vs)(k:κ):(aF.any λkv=>decide (kv.1=k))=vs.any λkv=>decide (kv.1=k):=by unfold KV at r;induction r with|nil=>rfl|cons h t a=>rw[List.any_cons,List.any_cons,a,h.1]
theorem KV.U_{aF:List (κ×V)}{vs:List (κ×Value)}(r:KV aF vs)(k:κ){y:V}{u:Value}(b:RelV y u):KV (aF.map λkv=>if kv.1=k then(kv.1,y)else kv) (vs.map λkv=>if kv.1=k then(kv.1,u)else kv):=by
 unfold KV at r⊢;induction r with
  |nil=>exact .nil
  |@cons p q ps c h t a=>
   rw[eF,eF];refine .cons ?_ a;obtain⟨h1,h2⟩:=h;by_cases e:p.1=k;·rw[if_pos e,if_pos (h1.symm.trans e)];exact⟨h1,b⟩
   ·rw[if_neg e,if_neg (λz=>e (h1.trans z))];exact⟨h1,h2⟩
theorem KV.put{aF:List (κ×V)}{vs:List (κ×Value)}(r:KV aF vs)(k:κ){y:V}{u:Value}(a:RelV y u):KV (putK aF k y) (stored vs k u):=by
 unfold putK stored;rw[r.any k];by_cases e:(vs.any λkv=>decide (kv.1=k))=true;·rw[if_pos e,if_pos e];exact r.U_ k a
 ·rw[if_neg e,if_neg e];exact Paired.snoc r ⟨rfl,a⟩
theorem KV.length{aF:List (κ×V)}{vs:List (κ×Value)}(r:KV aF vs):aF.length=vs.length:=Paired.length r
end
theorem Ht{P:Program}{w:World}{k:Key}{u:Value}(r:RelV (kV k) u):(c8 P w).is k u=true:=by cases k with|inl i=>obtain⟨t,e⟩:=(show∃t,u=Value.int i t from r);subst e;exact Cz P w i t|inr x=>obtain⟨t,e⟩:=(show∃t,u=Value.str x t from r);subst e;exact CM P w x t
theorem vX{P:Program}{w:World}:∀{ks:List Key}{us:List Value},Vals (ks.map kV) us->ItemsAre (c8 P w) ks us|[],_,r=>by rw[List.map_nil]at r;cases r;exact .nil|k::ks,_,r=>by rw[eF]at r;cases r with|cons h t=>exact .cons (Ht h) (vX t)
noncomputable abbrev KT(H:Hp):List (List Key×V)->List (List Key×Addr×Value)->Prop:=Paired λp q=>p.1=q.1/\H q.2.1=some (.tup (p.1.map kV))/\RelV p.2 q.2.2
theorem KT.val{H:Hp}{aF:List (List Key×V)}{xs:List (List Key×Addr×Value)}(r:KT H aF xs)(k:List Key):uP (fD aF k) ((atKey xs k).map (·.2)):=by
 induction r with
  |nil=>exact True.intro
  |@cons p q ps a h t c=>
   obtain⟨h1,_,h2⟩:=h;by_cases e:p.1=k
   ·have e':q.1=k:=h1.symm.trans e;have b:atKey (q::a) k=some q.2:=by simp[atKey,List.find?_cons,e']
    rw[lp e,b];exact h2
   ·have e':¬q.1=k:=λz=>e (h1.trans z);have b:atKey (q::a) k=atKey a k:=by simp[atKey,List.find?_cons,e']
    rw[lU e,b];exact c
theorem KT.U_{H:Hp}{aF:List (List Key×V)}{xs:List (List Key×Addr×Value)}(r:KT H aF xs)(k:List Key){y:V}{u:Value}(b:RelV y u):KT H (aF.map λkv=>if kv.1=k then(kv.1,y)else kv) (xs.map (putAt k u)):=by
 induction r with
  |nil=>exact .nil
  |@cons p q ps c h t a=>
   rw[eF,eF];refine .cons ?_ a;obtain⟨h1,h2,h3⟩:=h;unfold putAt;by_cases e:p.1=k;·rw[if_pos e,if_pos (h1.symm.trans e)];exact⟨h1,h2,b⟩
   ·rw[if_neg e,if_neg (λz=>e (h1.trans z))];exact⟨h1,h2,h3⟩
theorem KT.put{H:Hp}{aF:List (List Key×V)}{xs:List (List Key×Addr×Value)}(r:KT H aF xs)(k:List Key){b:Addr}{y:V}{u:Value}(hb:H b=some (.tup (k.map kV)))(a:RelV y u):KT H (putK aF k y) (storedH xs k b u):=by
 have e:(aF.any λkv=>decide (kv.1=k))=(atKey xs k).isSome:=by rw[uL,(r.val k).nK,Option.isSome_map]
 unfold putK storedH;rw[e];by_cases q:(atKey xs k).isSome=true;·rw[if_pos q,if_pos q];exact r.U_ k a
 ·rw[if_neg q,if_neg q];exact Paired.snoc r ⟨rfl,hb,a⟩
theorem KT.keeps{H H':Hp}{aF:List (List Key×V)}{xs:List (List Key×Addr×Value)}(r:KT H aF xs)(ht:∀b a,H b=some (.tup a)->H' b=some (.tup a)):KT H' aF xs:=Paired.VR r λ_ _ z=>⟨z.1,ht _ _ z.2.1,z.2.2⟩
section
variable{P:Program}{w:World}{H:Hp}{h:Heap}{a:Addr}
theorem Rv{u:HO}(ok:jd P w H h)(e:Rd H a u):cu P w H h a u:=e.ok ok
theorem Hu{aF:List (Key×V)}(ok:jd P w H h)(e:Rd H a (.dK aF)):aF.length<=sizeLine/\(a==sysModules)=false/\∃vs,KV aF vs/\h.DictOf (c8 P w) a vs:=show cu P w H h a (.dK aF)from Rv ok e
theorem ZF{aF:List (Key×V)}(ok:jd P w H h)(e:H a=some (.dK aF)):aF.length<=sizeLine/\(a==sysModules)=false/\∃vs,KV aF vs/\h.DictOf (c8 P w) a vs:=Hu ok (.inl e)
theorem yb{ks:List Key}(ok:jd P w H h)(e:H a=some (.tup (ks.map kV))):(tupleKind (c8 P w)).is h ks a:=by obtain⟨_,b,r,o,h1,h2,n,h3⟩:=(show cu P w H h a (.tup (ks.map kV))from ok a _ e);exact⟨o,b.toArray,n,h1,h2,h3,by simpa using vX r⟩
theorem HS{aF:List (List Key×V)}(ok:jd P w H h)(e:Rd H a (.dT aF)):aF.length<=sizeLine/\(a==sysModules)=false/\∃xs,KT H aF xs/\h.DictOfH (tupleKind (c8 P w)) a xs:=by
 obtain⟨z,y,xs,r,o,es,ep,h1,h2,h3,h4,h5⟩:=(show cu P w H h a (.dT aF)from Rv ok e);refine⟨z,y,xs,r,o,es,ep,h1,h2,h3,h4,λx b=>?_,h5⟩;have all:∀{l:List (List Key×V)}{m:List (List Key×Addr×Value)},KT H l m->∀x∈m,(tupleKind (c8 P w)).is h x.1 x.2.1:=by
  intro l m q;induction q with
   |nil=>intro x b;exact nomatch b
   |@cons p q ps d hq t c=>
    intro x b;rcases List.mem_cons.mp b with e|b;·subst e;exact yb ok (by rw[<-hq.1];exact hq.2.1)
    ·exact c x b
 exact all r x b
theorem YW{aF:List (List Key×V)}(ok:jd P w H h)(e:H a=some (.dT aF)):aF.length<=sizeLine/\(a==sysModules)=false/\∃xs,KT H aF xs/\h.DictOfH (tupleKind (c8 P w)) a xs:=HS ok (.inl e)
end
noncomputable def B_(H:Hp)(a:Addr)(y:V)(r:Option V):Prop:=(∃aF k,Rd H a (.dK aF)/\y=kV k/\r=fD aF k)\/∃aF k b,Rd H a (.dT aF)/\y= .ref b/\H b=some (.tup (k.map kV))/\r=fD aF k
noncomputable def OC(H:Hp)(a:Addr)(y v:V)(H':Hp):Prop:=(∃aF k,H a=some (.dK aF)/\y=kV k/\aF.length<sizeLine/\H'=upd H a (.dK (putK aF k v)))\/∃aF k b,H a=some (.dT aF)/\y= .ref b/\H b=some (.tup (k.map kV))/\aF.length<sizeLine/\H'=upd H a (.dT (putK aF k v))
theorem B_.k{H:Hp}{a:Addr}{aF:List (Key×V)}{k:Key}(e:H a=some (.dK aF)):B_ H a (kV k) (fD aF k):= .inl ⟨aF,k, .inl e,rfl,rfl⟩
theorem OC.k{H:Hp}{a:Addr}{aF:List (Key×V)}{k:Key}{v:V}(e:H a=some (.dK aF))(hl:aF.length<sizeLine):OC H a (kV k) v (upd H a (.dK (putK aF k v))):= .inl ⟨aF,k,e,rfl,hl,rfl⟩
section
variable{X:Cx}{pins:List (Addr×Obj)}{σ:St}{H:Hp}{s:Shared}{a:Addr}{y v:V}{u r:Value}{o:Option V}{A:Around}{E:Value->Shared->Prop}
theorem Inv.big(I:Inv X pins σ H s):sysModules<s.heap.objs.size:=by have h:mainGlobals<s.heap.objs.size:=(I.mod.glob.keeps I.bk).lt;exact Nat.lt_trans (by decide) h
theorem J7{Q:Value->Shared->Prop}(t:A.units+1<cLine)(I:Inv X pins σ H s)(g:B_ H a y (some v))(j:RelV y u)(h:∀c s',Inv X pins σ H s'->RelV v c->Q c s'):wpAny (model X.prog X.w) A (getItem (.ref a) u) Q E s:=by
 rcases g with⟨aF,k,e,f,l⟩|⟨aF,k,b,e,f,m,l⟩;·subst f;obtain⟨z,hd,vs,rel,d⟩:=Hu I.bX e;obtain⟨c,hw,i⟩:=uP.some_of (v:=v) (o:=valueAt vs k) (by rw[l];exact rel.val k);exact wpAny_getItem_of (Ht j) d.mapOf hw (h c _ (I.tok _) i)
 ·subst f;cases(show u=Value.ref b from j);obtain⟨z,hd,xs,rel,d⟩:=HS I.bX e;obtain⟨c,hw,i⟩:=uP.some_of (v:=v) (o:=(atKey xs k).map (·.2)) (by rw[l];exact rel.val k);obtain⟨p,n,q⟩:=Option.map_eq_some_iff.mp hw;refine wpAny_getItem_heap (tupleKind_room_in1 t) (yb I.bX m) d n ?_;rw[q];exact h c _ (I.tok _) i
theorem abe{Q:Value->Shared->Prop}(j:A.units+1<cLine)(I:Inv X pins σ H s)(g:B_ H a y o)(f:RelV y u)(h:∀s',Inv X pins σ H s'->Q (.bool o.isSome) s'):wpAny (model X.prog X.w) A (compareOp .In u (.ref a)) Q E s:=by
 rcases g with⟨aF,k,e,d,l⟩|⟨aF,k,b,e,d,i,l⟩;·subst d;obtain⟨z,hd,vs,rel,c⟩:=Hu I.bX e;refine wpAny_in_of (Ht f) hd c.mapOf ?_;rw[<-(rel.val k).nK,<-l];exact h _ (I.tok _)
 ·subst d;cases(show u=Value.ref b from f);obtain⟨z,hd,xs,rel,c⟩:=HS I.bX e;refine wpAny_in_heap (tupleKind_room_in1 j) (yb I.bX i) hd c ?_;have q:=(rel.val k).nK;rw[Option.isSome_map]at q;rw[<-q,<-l];exact h _ (I.tok _)
theorem Ge{h':Heap}{t':Nat}{ob:HO}(I:Inv X pins σ H s)(f:Zf (H a))(d:Heap.SameBut a s.heap h')(c:∃q,h'.get? a=some q)(new:cu X.prog X.w (upd H a ob) h' a ob):Inv X pins σ (upd H a ob) {s with heap:=h',toks:=t'}:=I.write (x:=a) (e:=a) f (.inl rfl) (λb q hb z=>(d.2 b hb).trans z) c new
theorem Uc{P:Program}{w:World}{H':Hp}{h':Heap}{aF:List (Key×V)}{vs:List (Key×Value)}(z:aF.length<=sizeLine)(hd:(a==sysModules)=false)(rel:KV aF vs)(b:h'.DictOf (c8 P w) a vs):cu P w H' h' a (.dK aF):=⟨z,hd,vs,rel,b⟩
theorem JH{H':Hp}{Q:Unit->Shared->Prop}(C:A.units+1<cLine)(I:Inv X pins σ H s)(g:OC H a y v H')(x:RelV y u)(w:RelV v r)(h:∀s',Inv X pins σ H' s'->Q () s'):wpAny (model X.prog X.w) A (setItem (.ref a) u r) Q E s:=by
 rcases g with⟨aF,k,e,j,l,i⟩|⟨aF,k,b,e,j,p,l,i⟩
 ·subst j i;obtain⟨z,hd,vs,rel,f⟩:=ZF I.bX e;have n:vs.length<=sizeLine:=by rw[<-rel.length];exact z
  have hl:(putK aF k v).length<=sizeLine:=by have :=pB aF k v;lia
  refine wpAny_setItem_pairs (hsz:=n) (Ht x) f λh' d m=>h _ ?_;have B:∃q,h'.get? a=some q:=let⟨q,_,_,hq,_⟩:=d;⟨q,hq⟩;exact Ge I (by rw[e];exact True.intro) m B (Uc hl hd (rel.put k w) d)
 ·subst j i;cases(show u=Value.ref b from x);obtain⟨z,hd,xs,rel,f⟩:=YW I.bX e;have n:xs.length<=sizeLine:=by rw[<-Paired.length rel];exact z
  have hl:(putK aF k v).length<=sizeLine:=by have :=pB aF k v;lia
  refine wpAny_setItem_heap (hsz:=n) (tupleKind_room_in1 C) (yb I.bX p) f λh' d m=>h _ ?_;obtain⟨q,es,ep,hq,h2,h3,h4,_,h5⟩:=d;refine Ge I (by rw[e];exact True.intro) m ⟨q,hq⟩ ⟨hl,hd,_,(rel.put k p w).keeps λc D t=>?_,q,es,ep,hq,h2,h3,h4,h5⟩;rw[bf (RW t e (λz=>nomatch z))];exact t
end
section
variable{X:Cx}{pins:List (Addr×Obj)}{σ:St}{H:Hp}{s:Shared}{a:Addr}{aF:List (Key×V)}{k:Key}{u:Value}{A:Around}{E:Value->Shared->Prop}
end
def Vp(i:Expr):Prop:=∀b a,subscripted i false b a=operate [b,a] (getItem b a)
theorem Hm{prog:Program}{w:World}{A:Around}{E:Value->Shared->Prop}{s:Shared}{env:Env}{value slice:Expr}{j:Pos}{T id:String}{Q:Value->Shared->Prop}(hl:typeLookup (.type T) "__getitem__"=pure (some (.builtin id)))(f:Vp slice)(h:wpAny (model prog w) A (eval value env) (λo d=>wpAny (model prog w) A (eval slice env) (λi a=>a.TypeIs o T/\wpAny (model prog w) A (getItem o i) Q E a) E d) E s):wpAny (model prog w) A (eval (.Subscript value slice j) env) Q E s:=by
 refine Subscript_ (fE h (λo d h₁=>fE h₁ (λi a b=>?_) λ_ _ x=>x) λ_ _ x=>x);obtain⟨c,b⟩:=b;unfold subscriptTail;refine aj ?_;rw[getitemInPython_of_ne c.not_modules];refine aj (wpAny_specialOf c hl ?_);have fin:wpAny (model prog w) A (subscripted slice false o i) (λr e=>wpAny (model prog w) A (letTemporaryGo value o r>>=λ_=>pure r) Q E e) E a:=by rw[f o i];exact wpAny_operating (fE b (λr e g=>aj (wpAny_letTemporaryGo (aU g))) λ_ _ x=>x)
 first|exact aU (aj fin)|exact aj (aU (aj fin))|exact aj fin
theorem CV{X:Cx}{pins:List (Addr×Obj)}{σ:St}{H:Hp}{s:Shared}{a:Addr}{y:V}{o:Option V}(I:Inv X pins σ H s)(g:B_ H a y o):s.TypeIs (.ref a) "dict":=by
 rcases g with⟨aF,k,e,_,_⟩|⟨aF,k,b,e,_,_,_⟩;·obtain⟨_,_,vs,_,c⟩:=Hu I.bX e;exact c.typeIs
 ·obtain⟨_,_,xs,_,c⟩:=HS I.bX e;exact c.typeIs
noncomputable def XA(td ty:TE):TE:=λσ H Q=>td σ H λx c=>ty σ c λy b=>∃a v,x= .ref a/\B_ b a y (some v)/\Q v b
noncomputable def abH(ty td:TE):TE:=λσ H Q=>ty σ H λy c=>td σ c λx b=>∃a o,x= .ref a/\B_ b a y o/\Q (.bl o.isSome) b
noncomputable def Z2(td ty f:TE):TS:=λD σ H=>f σ H λv c=>td σ c λx d=>ty σ d λy e=>∃a b,x= .ref a/\OC e a y v b/\D.nx σ b
section
variable{X:Cx}{o i e value:Expr}{pos pos' EZ:Pos}{td ty tv:TE}
theorem QP(m:X.A.units+1<cLine)(k:PE X o td)(hi:PE X i ty)(l:Vp i):PE X (.Subscript o i pos) (XA td ty):=by intro pins s σ H Q I h;refine Hm PySem.F.slot_dict_getitem.lookup l (bQ (k pins s σ H _ I h) λu s1⟨x,c,f,p,q1⟩=>bQ (hi pins s1 σ c _ f q1) λt s2 r=>?_);obtain⟨y,d,b,q,a,v,ex,g,q2⟩:=r;subst ex;obtain rfl:u=Value.ref a:=p;exact⟨CV b g,J7 m b g q λz w j n=>⟨v,d,j,n,q2⟩⟩
theorem U4(l:X.A.units+1<cLine)(hi:PE X i ty)(k:PE X o td):PC X .In i o (abH ty td):=by intro pins s σ H Q I h;refine bQ (hi pins s σ H _ I h) λr s1⟨y,b,d,p,q1⟩=>bQ (k pins s1 σ b _ d q1) λu s2 q=>?_;obtain⟨x,c,f,n,a,m,ex,g,q2⟩:=q;subst ex;obtain rfl:u=Value.ref a:=n;exact abe l f g p λt j=>⟨.bl m.isSome,c,j,rfl,q2⟩
theorem QO(p:X.A.units+1<cLine)(m:PE X o td)(hi:PE X i ty)(q:PE X value tv)(n:swapsWith value (some (.Subscript o i pos')) pos.line X.env=pure false):PS X (.Assign [.Subscript o i pos'] value pos) (Z2 td ty tv):=by intro pins s σ H D I h;refine wpAny_Assign_Subscript (bQ (q pins s σ H _ I h) λr s1⟨v,b,f,t,q1⟩=>bQ (m pins s1 σ b _ f q1) λu s2⟨x,c,j,w,q2⟩=>bQ (hi pins s2 σ c _ j q2) λC E A=>?_) n;obtain⟨y,B,k,z,a,d,ex,g,q3⟩:=A;subst ex;obtain rfl:u=Value.ref a:=w;exact JH p k g z t λF l=>⟨σ,d,l,q3⟩
end
theorem K_{P:Program}{w:World}{H:Hp}(h:Heap)(hb:sysModules<h.objs.size):cu P w H (h.push {cls:= .type "dict",data:= .dict #[]}) h.objs.size (.dK []):=⟨d4 _,beq_eq_false_iff_ne.mpr (Ne.symm (dN hb)),[], .nil,Heap.DictOf.new h⟩
noncomputable def TU:TE:=λ_ H Q=>∀p,H p=none->Q (.ref p) (upd H p (.dK []))
section
variable{X:Cx}{pos:Pos}
theorem LW:PE X (.Dict [] [] pos) TU:=λpins s σ H Q I h=>wpAny_Dict_empty ⟨.ref s.heap.objs.size,_,I.laid (a:=s.heap.objs.size) (o:= .dK []) (t':=s.toks) (λ_ _ q=>bD _ q) (bJ _) (K_ s.heap I.big),rfl,h _ (I.bX.fresh (bJ _))⟩
end
noncomputable def KR:List (TE×TE)->St->Hp->(List (V×V)->Hp->Prop)->Prop|[],_,H,Q=>Q [] H|(tk,d)::r,σ,H,Q=>tk σ H λx a=>d σ a λy b=>KR r σ b λps c=>Q ((x,y)::ps) c
noncomputable abbrev VV:List (V×V)->List (Value×Value)->Prop:=Paired λp q=>RelV p.1 q.1/\RelV p.2 q.2
noncomputable def DC(X:Cx)(a:Pos)(keys:List (Option Expr))(values:List Expr)(b:List (TE×TE)):Prop:=∀(pins:List (Addr×Obj))(s:Shared)(σ:St)(H:Hp)(Q:List (V×V)->Hp->Prop),Inv X pins σ H s->KR b σ H Q->wpAny (model X.prog X.w) X.A (evalPairs (pairTrees keys values X.env a)) (λvs s'=>∃ps H',Inv X pins σ H' s'/\VV ps vs/\Q ps H') X.xe s
structure M1(X:Cx)(o:Expr)(m:Str)(apos:Pos)(e:Expr)(eN:Pos):Prop where
 base:attributeBase o m X.env (eval o X.env)=eval o X.env
 few:((backTo eN (starEach [e] X.env)).all (λx=>!x.1)&&(backToKw eN (keywordEach [] X.env)).all (λx=>x.1.isSome)&&decide (([e]:List Expr).length+([]:List Keyword).length+(if([]:List Keyword).isEmpty then 0 else 1)<30))=true
 line:(apos.endLine==eN.line)=true
 trees:backTo eN (starEach [e] X.env)=[(false,eval e X.env)]
structure M2(X:Cx)(o:Expr)(m:Str)(apos:Pos)(e f:Expr)(eN:Pos):Prop where
 base:attributeBase o m X.env (eval o X.env)=eval o X.env
 few:((backTo eN (starEach [e,f] X.env)).all (λx=>!x.1)&&(backToKw eN (keywordEach [] X.env)).all (λx=>x.1.isSome)&&decide (([e,f]:List Expr).length+([]:List Keyword).length+(if([]:List Keyword).isEmpty then 0 else 1)<30))=true
 line:(apos.endLine==eN.line)=true
 trees:backTo eN (starEach [e,f] X.env)=[(false,eval e X.env),(false,eval f X.env)]
section
variable{X:Cx}{pins:List (Addr×Obj)}{σ:St}{H:Hp}{s:Shared}{a:Addr}{y d:V}{u r:Value}{o:Option V}{A:Around}{E:Value->Shared->Prop}
end
section
variable{X:Cx}{o e f:Expr}{apos eN:Pos}{td ty tx:TE}
end
section
variable{X:Cx}{pins:List (Addr×Obj)}{σ:St}{H:Hp}{s:Shared}{a:Addr}{aF:List (Key×V)}{A:Around}{E:Value->Shared->Prop}
end
section
variable{X:Cx}{pins:List (Addr×Obj)}{σ:St}{H:Hp}{s:Shared}{a:Addr}{y:V}{u:Value}{A:Around}{E:Value->Shared->Prop}
end
end L2
end
section
namespace Att
open PySem PySem.W PySem.Calls PyProof.Rows
theorem pY{P:Params}{h:Heap}:∀(ns:List Int)(vs:List Value),WellAll P h vs (ns.map WData.int)->IntsAre vs ns:=by intro ns;induction ns with|nil=>intro vs w;rw[List.map_nil]at w;cases w;exact .nil|cons n ns c=>intro vs w;rw[eF]at w;cases w with|cons a b=>cases a;exact .cons _ _ (c _ b)
theorem IT{l:OpenLaw}{n:Nat}(hn:l.most=some n){P:Params}{h:Heap}{args:List WData}{vals:List Value}(b:l.row.toRowW.claim.pre args=true)(g:WellAll P h vals args):∃a vs ns,vals=[Value.ref a]/\args=[WData.list (ns.map WData.int)]/\h.get? a=some {cls:= .type "list",data:= .seq vs.toArray}/\IntsAre vs ns/\ns.length<=n:=by
 have f:WShape.hasAll [] args [.list .int]=true:=(pre_splitW b).1;have hc:l.pre.holds [] {args:=args}=true:=(pre_splitW b).2;obtain⟨d,r,rfl,h1,h2⟩:=hasAllW_cons f;obtain rfl:=hasAllW_nil h2;obtain⟨xs,rfl,h3⟩:=hasW_list h1;obtain⟨ns,rfl⟩:=items_int h3;have hlen:ns.length<=n:=by
  unfold OpenLaw.pre at hc;have h4:(WTm.not (.lt (.lit (.int (n:Int))) (.len (.arg 0)))).holds [] {args:=[.list (ns.map .int)]}=true:=by have h4:=(holds_andW hc).1;rw[hn]at h4;exact h4
  have h5:=condW_of h4 (w_not (w_lt w_lit (w_len_list (w_arg rfl))));rw[c_]at h5;refine Nat.le_of_not_lt λq=>?_;have i:(n:Int)<((ns.length:Nat):Int):=by lia
  first|(rw[decide_eq_true i]at h5;exact absurd h5 (by decide))|(simp at h5;lia)
 cases g with|cons j k=>cases k;cases j with|list e c=>exact⟨_,_,ns,rfl,rfl,e,pY ns _ c,hlen⟩
theorem Jb(l:OpenLaw)(args:List WData):l.row.toRowW.claim.post args (.bool true) args=true:=postW_of (r:=l.row.toRowW) (X:=(true==true)) (show WShape.has [] (.bool true) .bool=true by first|rfl|decide|simp[WShape.has,WShape.arms,WShape.armsAll]) (show(WTm.eq .res (.lit (.bool true))).value [] {args:=args,res:=some (.bool true),after:=args}=some (.bool (true==true))from w_eq_bool (w_res rfl) w_lit) rfl
theorem Dw{l:OpenLaw}{n:Nat}{q:Program}{loose:List Str}{XP:(Str->Option Value)->Heap->Prop}{YP:World->Heap->Prop}{d:DefRec}(hn:l.most=some n)(h:d.params.defaults=[])(call:∀(w:World)(cj b:Shared)(mg mb:Str->Option Value)(fa:Addr)(o:Obj)(pm cd doc:Value)(a:Addr)(vs:List Value)(ns:List Int),Ground q loose [] XP w cj mg mb b.heap->YP w b.heap->b.heap.get? fa=some o->o.data= .func (docDef d.name d.params d.body d.scope pm cd doc)->b.heap.CodeRec cd d.name->mg d.name=some (.ref fa)->b.heap.get? a=some {cls:= .type "list",data:= .seq vs.toArray}->IntsAre vs ns->ns.length<=n->b.gens=#[]->codeAny (model l.prog w) callerA (.call (.ref fa) ⟨[.ref a],[]⟩) (λr s'=>r= .ok (.ret (.bool true))/\OldK b.heap s'.heap/\s'.os=b.os/\AllBare s'.gens) b):WalkO q loose XP YP l.row.toRowW d [] (λf vs=>PySem.call f vs):=by intro w cj b mg mb G Y fa o pm cd doc e kV j hd g c hmg i args vals as m s u p t;obtain rfl:e= .none:=Dflts.none c h;obtain rfl:kV= .none:=Dflts.noKw c;obtain⟨a,vs,ns,rfl,rfl,k,hints,hlen⟩:=IT hn m p;refine enter_call (codeAny_mono (call w cj b mg mb fa o pm cd doc a vs ns G Y j (fd_plain hd) g hmg k hints hlen i) λr s' hq=>?_);obtain⟨rfl,h2,h3,h4⟩:=hq;exact⟨.inl ⟨.bool true, .bool true,[],rfl,λ_=>rfl, .bool true,Jb l _,λ_=>⟨List.Pairwise.nil,λ_ hm=>(nomatch hm)⟩⟩,h2,h3,h4⟩
section
variable{prog:Program}{w:World}{A:Around}{E:Value->Shared->Prop}{s:Shared}{K:Frag}
end
end Att
end
section
namespace L2
open PySem PySem.Spec PyProof.Rows
theorem jX:∀{vs:List Value}{ns:List Int},IntsAre vs ns->Vals (ns.map V.int) vs|_,_, .nil=> .nil|_,_, .cons n t h=> .cons ⟨t,rfl⟩ (jX h)
noncomputable abbrev KOf{K:PySem.W.Frag}{h:Heap}(_:K.In h):PySem.W.Frag:=K
noncomputable def inClass(s:Stmt)(j:Nat):Stmt:=match s with| .ClassDef _ _ _ body _ _ _ _ _ _ _=>body.getD j (.Pass ⟨0,0,0,0⟩)|_=> .Pass ⟨0,0,0,0⟩
noncomputable def fU(s:Stmt):Arguments:=match s with| .FunctionDef _ a _ _ _ _ _ _ _ _=>a|_=>{posonlyargs:=[],args:=[],vararg:=none,kwonlyargs:=[],kw_defaults:=[],kwarg:=none,defaults:=[]}
noncomputable def cC(s:Stmt):List Stmt:=match s with| .FunctionDef _ _ b _ _ _ _ _ _ _=>b|_=>[]
noncomputable def ak(s:Stmt):Scope:=match s with| .FunctionDef _ _ _ _ _ _ sc _ _ _=>sc|_=>{kind:= .function,names:=[],isGenerator:=false,isCoroutine:=false}
noncomputable abbrev bA:oJ:=λ_ _ _ _ _ _ _=>False
noncomputable abbrev E0:XK:=λ_ _ _=>False
theorem aC{X:Cx}:Passes bA X E0:=λ_ _ _ _ _ _ _ h=>h.elim
structure Q2(K:PySem.W.Frag)(x qual:Str)(st:Stmt)(f:Addr)(fd:FuncData):Prop where
 ex:∃(oc:Value)(od:Option Addr)(kV doc pm:Value)(an:Option Addr)(cF ct:Value)(DL:Array (Option Value)),fd=PySem.W.fnOf x qual (fU st) (cC st) (ak st) .none kV doc pm an cF ct/\K.lookup f=some ⟨oc,od, .func fd,DL⟩/\PySem.W.codeIn K cF qual=true
 kp:PySem.W.keepIn K (.ref f)=true
section
variable{P:Program}{w:World}{K:PySem.W.Frag}{mg:Str->Option Value}{base:Heap}
theorem Q2.ok{x qual:Str}{st:Stmt}{f:Addr}{fd:FuncData}{N ps:List Str}{k:Nat}{sp:Sp}(F:Q2 K x qual st f fd)(S:aN N ps (ak st))(len:∀vs H Q E,sp vs H Q E->vs.length=ps.length)(a:∀(cF:Value)(A:Around)(outer:List Env)(s:Shared)(H:Hp)(vs:List V)(Q:VK)(E:XK),cZ k (A.deeper (envOfC qual (ak st) s.heap.objs.size f cF))->sp vs H Q E->∃t,gT (eS bA P w K mg base N qual (ak st) f cF A outer s H E).Nc (cC st) t/\t {nx:=λ_ H'=>Q .aP H',rt:=Q} (start N vs) H):m9 P w K mg base bA (k+1) f fd ps sp:=by obtain⟨oc,od,kV,doc,pm,an,cF,ct,DL,rfl,e,b⟩:=F.ex;refine Hz e b S len λA outer s H vs Q E c d=>?_;obtain⟨t,h,q⟩:=a cF A outer s H vs Q E c d;exact⟨t,h.Nc,q⟩
theorem Q2.binds{x qual:Str}{st:Stmt}{f:Addr}{fd:FuncData}{ps:List Str}(F:Q2 K x qual st f fd)(h:∀(kV doc pm:Value)(an:Option Addr)(cF ct:Value)(us:List Value),us.length=ps.length->bindArgs (PySem.W.fnOf x qual (fU st) (cC st) (ak st) .none kV doc pm an cF ct) ⟨us,[]⟩=pure (ps.zip us)):Binds K fd ps []:=by obtain⟨oc,od,kV,doc,pm,an,cF,ct,DL,rfl,b,a⟩:=F.ex;exact .all (h kV doc pm an cF ct)
theorem KG{x qual:Str}{st:Stmt}{f:Addr}{oc:Value}{od an:Option Addr}{DL:Array (Option Value)}{kV doc pm cF ct:Value}(l:K.lookup f=some ⟨oc,od, .func (PySem.W.fnOf x qual (fU st) (cC st) (ak st) .none kV doc pm an cF ct),DL⟩)(c:PySem.W.codeIn K cF qual=true)(k:PySem.W.keepIn K (.ref f)=true):Q2 K x qual st f (PySem.W.fnOf x qual (fU st) (cC st) (ak st) .none kV doc pm an cF ct):=⟨⟨oc,od,kV,doc,pm,an,cF,ct,DL,rfl,l,c⟩,k⟩
end
theorem DH{A:Around}{k:Nat}(a:cZ k A):A.units+1<cLine:=Nat.lt_of_le_of_lt (Nat.add_le_add_left (by decide:1<=64) _) a.units
section
variable{X:Cx}
theorem pv(i:Nat){x:Str}{d:Pos}(a:X.N[i]?=some x:=by rfl)(c:X8 X.env.scope x:=by first|exact Or.inl rfl|exact Or.inr (Or.inl rfl)|exact Or.inr (Or.inr rfl))(hd:(x==("__debug__":Str))=false:=by decide)(b:(x==("__classdict__":Str))=false:=by decide):PE X (.Name x d) (Pk i):=Na a c hd b
end
theorem Dm{A B:Prop}(h:B):if false=true then A else B:=by rw[if_neg d5];exact h
theorem pR{A B:Prop}(h:A):if true=true then A else B:=by rw[if_pos rfl];exact h
theorem aV{c A B:Prop}[Decidable c](h1:c->A)(h2:¬c->B):if c then A else B:=by
 by_cases h:c;·rw[if_pos h];exact h1 h
 ·rw[if_neg h];exact h2 h
def aL(H H':Hp):Prop:=∀b o,H b=some o->H' b=some o
theorem aL.refl(H:Hp):aL H H:=λ_ _ h=>h
theorem aL.trans{H d e:Hp}(a:aL H d)(b:aL d e):aL H e:=λc o h=>b c o (a c o h)
theorem aL.free{H H':Hp}(e:aL H H'){l:Addr}(h:H' l=Option.none):H l=Option.none:=by cases q:H l with|none=>rfl|some o=>rw[e l o q]at h;cases h
section
variable{X:Cx}
end
section
variable{κ:Type}[DecidableEq κ]
theorem Qe{aF:List (κ×V)}{k:κ}{v:V}(h:fD aF k=some v):k∈aF.map (·.1):=by
 have q:(aF.any λkv=>decide (kv.1=k))=true:=by rw[uL,h];all_goals rfl
 obtain⟨p,a,e⟩:=List.any_eq_true.mp q;exact List.mem_map.mpr ⟨p,a,of_decide_eq_true e⟩
end
end L2
end
section
namespace L3
open PySem PySem.Spec PyProof.Rows L2
noncomputable def dZ(env:Env):List (Str×NameKind)->List (Str×Addr)->List (Str×Addr)|[],cs=>cs|(n,k)::r,cs=>dZ env r (if(k== .free)=true then(n,(env.cells.lookup n).getD 0)::cs else cs)
theorem sr{env:Env}{scope:Scope}(h:∀x∈scope.names,x.2= .free->∃c,env.cells.lookup x.1=some c):closureFor scope env=pure (dZ env scope.names []):=by
 unfold closureFor;have go:∀(l:List (Str×NameKind))(cs:List (Str×Addr)),(∀x∈l,x.2= .free->∃c,env.cells.lookup x.1=some c)->(forIn l cs λ(x:Str×NameKind)(r:List (Str×Addr))=>if(x.2== .free)=true then(do let a<-cellOf env x.1;pure (ForInStep.yield ((x.1,a)::r)))else pure (ForInStep.yield r):Sem (List (Str×Addr)))=pure (dZ env l cs):=by
  intro l;induction l with
   |nil=>intro cs _;rfl
   |cons x l f=>
    intro cs hl;obtain⟨n,k⟩:=x;have d:∀y∈l,y.2= .free->∃c,env.cells.lookup y.1=some c:=λy g=>hl y (dX _ g);rw[List.forIn_cons,dZ];by_cases b:(k==NameKind.free)=true
    ·obtain⟨c,hc⟩:=hl (n,k) eC (by simpa using b);have hc:env.cells.lookup n=some c:=hc;have e:cellOf env n=pure c:=by unfold cellOf;rw[hc]
     simp only[b,if_true,e,pure_bind,hc,Option.getD_some];exact f _ d
    ·simp only[b,if_false,pure_bind];exact f _ d
 have q:=go scope.names [] h;simp only[bind_pure];exact q
theorem m4{env:Env}{x:Str}:∀(l:List (Str×NameKind))(cs:List (Str×Addr)),(∃c,cs.lookup x=some c)->∃c,(dZ env l cs).lookup x=some c
 |[],_,h=>h
 |(n,k)::r,cs,h=>by
  rw[dZ];refine m4 r _ ?_;by_cases a:(k==NameKind.free)=true;·rw[if_pos a,mP];cases x==n with|true=>exact⟨_,rfl⟩|false=>exact h
  ·rw[if_neg a];exact h
theorem jH{env:Env}{x:Str}:∀(l:List (Str×NameKind))(cs:List (Str×Addr)),(x,NameKind.free)∈l->∃c,(dZ env l cs).lookup x=some c
 |[],_,h=>by cases h
 |(n,k)::r,cs,h=>by
  rw[dZ];rcases List.mem_cons.mp h with e|h;·cases e;refine m4 r _ ?_;rw[if_pos (by decide),mP,beq_self_eq_true];exact⟨_,rfl⟩
  ·exact jH r _ h
theorem kr{env:Env}:∀(l:List (Str×NameKind))(cs:List (Str×Addr)),(∀x∈l,x.2= .free->∃c,env.cells.lookup x.1=some c)->(∀x c,cs.lookup x=some c->env.cells.lookup x=some c)->∀x c,(dZ env l cs).lookup x=some c->env.cells.lookup x=some c
 |[],_,_,h=>h
 |(n,k)::r,cs,hl,h=>by
  rw[dZ];refine kr r _ (λy f=>hl y (dX _ f)) λx c e=>?_;by_cases b:(k==NameKind.free)=true
  ·rw[if_pos b,mP]at e;cases d:x==n with
    |true=>
     rw[d]at e;obtain rfl:x=n:=by simpa using d
     obtain⟨c',a⟩:=hl (x,k) eC (by simpa using b);have a:env.cells.lookup x=some c':=a;rw[a]at e⊢;exact e
    |false=>rw[d]at e;exact h x c e
  ·rw[if_neg b]at e;exact h x c e
theorem mH{env:Env}:∀{l:List (Str×NameKind)}{x:Str},l.lookup x=some .free->(l.map λ(p:Str×NameKind)=>if(p.2==NameKind.free&&env.scope.kind== .function&&env.kindOf p.1==some .cell)then(p.1,NameKind.cell)else(p.1,p.2)).lookup x=some .cell\/(l.map λ(p:Str×NameKind)=>if(p.2==NameKind.free&&env.scope.kind== .function&&env.kindOf p.1==some .cell)then(p.1,NameKind.cell)else(p.1,p.2)).lookup x=some .free
 |[],_,h=>by simp at h
 |(n,k)::r,x,h=>by
  have b:=@mH env r x;rw[mP]at h;rw[eF];by_cases hc:(k==NameKind.free&&env.scope.kind== .function&&env.kindOf n==some .cell)=true;·simp only[hc,if_true];rw[mP];cases a:x==n with|true=>exact .inl rfl|false=>rw[a]at h;exact b h
  ·simp only[hc,pW,if_false];rw[mP];cases a:x==n with|true=>rw[a]at h;exact .inr h|false=>rw[a]at h;exact b h
theorem uz{env:Env}:∀{l:List (Str×NameKind)}{x:Str},(∀y∈l,y.2≠ .cell)->((l.map λ(p:Str×NameKind)=>if(p.2==NameKind.free&&env.scope.kind== .function&&env.kindOf p.1==some .cell)then(p.1,NameKind.cell)else(p.1,p.2)).lookup x=some .cell\/(l.map λ(p:Str×NameKind)=>if(p.2==NameKind.free&&env.scope.kind== .function&&env.kindOf p.1==some .cell)then(p.1,NameKind.cell)else(p.1,p.2)).lookup x=some .free)->(x,NameKind.free)∈l
 |[],_,_,h=>by simp at h
 |(n,k)::r,x,hl,h=>by
  have b:=@uz env r x λy c=>hl y (dX _ c);rw[eF]at h;by_cases hc:(k==NameKind.free&&env.scope.kind== .function&&env.kindOf n==some .cell)=true
  ·simp only[hc,if_true]at h;rw[mP]at h;cases a:x==n with
    |true=>
     obtain rfl:x=n:=by simpa using a
     have :k= .free:=by simp only[cf]at hc;simpa using hc.1.1
     rw[this];exact eC
    |false=>rw[a]at h;exact dX _ (b h)
  ·simp only[hc,pW,if_false]at h;rw[mP]at h;cases a:x==n with
    |true=>
     rw[a]at h;obtain rfl:x=n:=by simpa using a
     rcases h with h|h;·exact absurd (Option.some.inj h) (hl (x,k) eC)
     ·have :k= .free:=Option.some.inj h;rw[this];exact eC
    |false=>rw[a]at h;exact dX _ (b h)
noncomputable abbrev E3(X:Cx)(scope:Scope)(C:Addr):Env:=compEnvC scope (dZ X.env scope.names []) C X.env
noncomputable abbrev dH(X:Cx)(N':List Str)(scope:Scope)(a:Shared)(b:Hp)(fp:List Addr):Cx:={X with N:=N',cj:=a,H₀:=b,env:=E3 X scope a.heap.objs.size,outer:=X.stack,stack:=X.stack,ex:=fp,fn:=λ_=>false,pn:=X.pn,xe:=λ_ _=>False}
noncomputable def gJ(own:Nat)(fr:List Nat)(σ:L2.St):L2.St:=List.replicate own none++fr.map λi=>(σ[i]?).join
structure mF(X:Cx)(N':List Str)(own:Nat)(fr:List Nat)(scope:Scope):Prop where
 kind:scope.kind= .function
 n8:∀y∈scope.names,y.2≠ .cell
 loc:∀x∈scope.names,x.2= .local->scope.names.lookup x.1=some .local
 free:∀x∈scope.names,x.2= .free->X.env.kindOf x.1=some .cell\/X.env.kindOf x.1=some .free
 len:N'.length=own+fr.length
 fr:∀j i,fr[j]?=some i->∃x,N'[own+j]?=some x/\X.N[i]?=some x/\scope.names.lookup x=some .free
theorem ua{fs ex:List Addr}{H H':Hp}{h h1 h2:Heap}{C:Addr}(u:Un fs ex H H' h h1)(d:h.objs.size<=C)(c:Heap.SameBut C h1 h2):Un fs ex H H' h h2:=by
 have ne:∀b o,h.get? b=some o->b≠C:=λb o e=>dN (gd (bL e) d);refine⟨λb o e n hb a=>(c.2 b (ne b o e)).trans (u.keep b o e n hb a),λb o e n hb a=>?_,u.free,λb o e a=>?_,u.va,u.uc,u.uq⟩;·obtain⟨sl,q⟩:=u.slot b o e n hb a;exact⟨sl,(c.2 b (ne b o e)).trans q⟩
 ·obtain⟨o',q⟩:=u.there b o e a;exact⟨o',(c.2 b (ne b o e)).trans q⟩
theorem BN{P:Program}{w:World}{H:Hp}{h h2:Heap}{C:Addr}(k:jd P w H h)(a:H C=none)(d:Heap.SameBut C h h2):jd P w H h2:=λb ob e=>by
 refine(k b ob e).pO (λc f hc q=>(d.2 c ?_).trans q) (λ_ q=>q) λ_ _ q=>q;rintro rfl;rcases hc with rfl|hc;·rw[a]at e;cases e
 ·rw[a]at hc;cases hc
noncomputable def vF(Y:Cx)(a:List Expr)(b:TT):Prop:=∀(pins:List (Addr×Obj))(s:Shared)(σ:L2.St)(H:Hp)(Q:Bool->Hp->Prop),Inv Y pins σ H s->b σ H Q->wpAny (model Y.prog Y.w) Y.A (forIn a true λc r=>if r=true then do let ok<-isTrue c Y.env (eval c Y.env);pure (ForInStep.yield ok)else pure (ForInStep.yield r)) (TP Y pins σ Q) Y.xe s
noncomputable def Aw:TT:=λ_ H Q=>Q true H
theorem gG{Y:Cx}:vF Y [] Aw:=λ_ _ _ H _ I h=>wpAny_tests_nil ⟨H,I,h⟩
theorem PD{Y:Cx}{c:Expr}{t:TT}(h:PT Y c t):vF Y [c] t:=λpins s σ H Q I hq=>wpAny_tests_one (h pins s σ H Q I hq)
section
variable{prog:Program}{w:World}{A:Around}{R:Result->Shared->Prop}{s:Shared}
theorem oZ{b target iter:Expr}{d:List Expr}{scope:Scope}{j:Pos}{it a:Value}{env:Env}(J:Nat->Shared->Prop)(turn:∀n s,J n s->wpAny (model prog w) A (pyNext it) (λr e=>match r with|none=>R (.ok .next) e|some v=>wpAny (model prog w) A (letOwnedTupleGo target it v) (λ_ cj=>wpAny (model prog w) A (assign target env v) (λ_ k=>wpAny (model prog w) A (forIn d true λc r=>if r=true then do let ok<-isTrue c env (eval c env);pure (ForInStep.yield ok)else pure (ForInStep.yield r)) (λok g=>if ok=true then wpAny (model prog w) A (eval b env) (λx l=>wpAny (model prog w) A (call (.builtin "list.append") [a,x]) (λ_ o=>∃m,m<n/\J m o) (λ_ _=>False) l) (λ_ _=>False) g else∃m,m<n/\J m g) (λ_ _=>False) k) (λ_ _=>False) cj) (λ_ _=>False) e) (λ_ _=>False) s)(n:Nat)(h:J n s):codeAny (model prog w) A (.compLoop (.ListComp b [⟨target,iter,d,0⟩] scope j) 0 it a env) R s:=by refine codeAny_loop rfl J (λn s u=>?_) n h;show wpAny _ A ((compTurn (.ListComp b [⟨target,iter,d,0⟩] scope j) 0 it a env).onRaise (λx=>do noteFrame x env;theTreesLotGoes x)) _ _ s;refine wpAny_noted ?_;rw[compTurn_list];have no:∀{p:Type}{m:Sem p}{Q:p->Shared->Prop}{t:Value->Shared->Prop}{s':Shared},wpAny (model prog w) A m Q (λ_ _=>False) s'->wpAny (model prog w) A m Q t s':=λhm=>fE hm (λ_ _ q=>q) λ_ _ f=>f.elim;refine aj (wpAny_standAt (aj (no (fE (turn n s u) (λr e h₁=>?_) λ_ _ h'=>h'))));cases r with|none=>exact aU h₁|some v=>refine aj (no (fE h₁ (λ_ cj h₀=>aj (no (fE h₀ (λ_ k y=>aj (no (fE y (λok g i=>?_) λ_ _ h'=>h'))) λ_ _ h'=>h'))) λ_ _ h'=>h'));cases ok with|false=>exact aU ⟨rfl,i⟩|true=>exact aj (aj (no (fE i (λx l z=>aj (no (fE z (λ_ o B=>aU (aU ⟨rfl,B⟩)) λ_ _ h'=>h'))) λ_ _ h'=>h')))
end
def Own(own:Nat)(g:TG):Prop:=∀v σ H Q,g v σ H Q->g v σ H λa b=>Q a b/\a.length=σ.length/\∀i,own<=i->a[i]?=σ[i]?
theorem ij{own i:Nat}(h:i<own):Own own (sj i):=λv σ H Q q=>⟨q,by simp,λj a=>List.getElem?_set_ne (by lia)⟩
theorem uM{own i j n:Nat}{K:PySem.W.Frag}(hi:i<own)(f:j<own):Own own (ZD K n (Kx (sj i) (Kx (sj j) Yo))):=by intro v σ H Q q;obtain⟨a,xs,e1,e2,b,x,r,e4,y,e,c,d,q⟩:=q;refine⟨a,xs,e1,e2,b,x,r,e4,y,e,c,d,q,by simp,λk g=>?_⟩;rw[List.getElem?_set_ne (by lia),List.getElem?_set_ne (by lia)]
noncomputable def Rf(own:Nat)(fr:List Nat)(o:TI)(g:TG)(n:TT)(l:TE):TE:=λσ H Q=>o σ H λJ d=>∀p,d p=none->∃W:Nat->Nat->List V->Hp->Prop,(∃m,W 0 m [] (upd d p (.lst [])))/\∀i m a b,W i m a b->(J.stop i b/\Q (.ref p) b)\/(J.go i b/\∀x e,J.wM i b x e->g x (gJ own fr σ) e λj k=>n j k λok f=>if ok=true then l j f λv h=>h p=some (.lst a)/\a.length<sizeLine/\∃c,c<m/\W (i+1) c (a++[v]) (upd h p (.lst (a++[v])))else∃c,c<m/\W (i+1) c a f)
theorem G6{X:Cx}{scope:Scope}{N':List Str}{own:Nat}{fr:List Nat}{pins:List (Addr×Obj)}{σ:L2.St}{f:Hp}{d:Shared}{h4:Heap}{fp:List Addr}{t4:Nat}{m:Str->Option Value}(S:mF X N' own fr scope)(a:Inv X pins σ f d)(g:∀b∈fp,kK X pins f b/\b<d.heap.objs.size)(keep:∀b o,d.heap.get? b=some o->h4.get? b=some o)(C:h4.Ns d.heap.objs.size m):Inv (dH X N' scope d f fp) [] (gJ own fr σ) f {d with heap:=h4,toks:=t4}:=by
 have A:∀x∈scope.names,x.2= .free->∃c,X.env.cells.lookup x.1=some c:=λx n e=>a.ok.has x.1 (S.free x n e);have snd:∀x c,(dZ X.env scope.names []).lookup x=some c->X.env.cells.lookup x=some c:=kr _ _ A λx c e=>by simp at e
 have ok:(dH X N' scope d f fp).Ok:=by
  refine⟨a.ok.mod,S.kind,a.ok.glob,a.ok.blt,bJ _,λx y c e1 e2=>a.ok.inj x y c (snd x c e1) (snd y c e2),λx n=>jH _ _ (uz S.n8 n),λx c z=>(by cases z),a.ok.hd,a.ok.frames, .inl rfl,λb hb=>⟨dN (g b hb).2,λx c e=>(g b hb).1.2.2.2.2.1 x c (snd x c e)⟩,a.bs,cS a.ok.Ba a.sz,λb o e hb=>?_,λb hb E=>?_,a.stack,a.zX⟩
  ·rcases(g b hb).1.2.2.2.1 with z|z;·exact a.ok.pS b o e z
   ·exact absurd (gd (bL e) a.ok.Ba) (Nat.not_lt.mpr z)
  ·rcases List.mem_cons.mp (a.f7 b E)with z|z;·exact(g b hb).1.2.1 z
   ·exact(g b hb).1.2.2.1 z
 refine⟨ok,rfl,a.bare,Un.kept keep,⟨m,C,λi x v h1 h2 h3=>?_⟩,λx c e=>?_,a.bX.fresh (bJ _),λx c e=>a.eE x c (snd x c e),λp D=>?_,a.bX.kept keep,?_⟩
 ·have h1:N'[i]?=some x:=h1;have hi:¬i<own:=λz=>by unfold gJ at h2;rw[Ci (by simpa using z),List.getElem?_replicate]at h2;split at h2<;>cases h2
  obtain⟨j,rfl⟩:∃j,i=own+j:=⟨i-own,by lia⟩;unfold gJ at h2;rw[List.getElem?_append_right (by simp),List.length_replicate,Nat.add_sub_cancel_left,nY]at h2;cases h:fr[j]? with
   |none=>rw[h]at h2;cases h2
   |some k=>
    rw[h]at h2;have h2:(σ[k]?).join=some v:=Option.some.inj h2;have F:σ[k]?=some (some v):=by cases q:σ[k]? with|none=>rw[q]at h2;cases h2|some J=>rw[q]at h2;exact congrArg some h2
    obtain⟨K,e1,e2,t⟩:=S.fr j k h;rw[h1]at e1;cases e1;have mem:=PySem.mem_of_lookup t;have w:=S.free _ mem rfl;obtain⟨I,H,B⟩:=a.loc;obtain⟨u,r,look⟩:=B k x v e2 F (.inr w);rcases look with⟨q,_⟩|⟨q,c,hc,o,l,hd⟩
    ·rcases w with z|z;·have z:X.env.kindOf x=some .cell:=z;rw[z]at q;cases q
     ·have z:X.env.kindOf x=some .free:=z;rw[z]at q;cases q
    ·obtain⟨c',e'⟩:=jH (env:=X.env) scope.names [] mem;have s:=snd x c' e';rw[hc]at s;cases s;exact⟨u,r, .inr ⟨mH t,c,e',o,keep _ _ l,hd⟩⟩
 ·obtain⟨v,o,l,hd⟩:=a.cell x c (snd x c e);exact⟨v,o,keep _ _ l,hd⟩
 ·obtain⟨q1,q2,q3,q4,G⟩:=a.pin p (p_ _ (by simpa using D));refine⟨keep _ _ q1,q2,dN (bL q1),λz=>?_,G⟩;rcases List.mem_cons.mp (a.f7 _ z)with z|z;·exact q3 z
  ·exact q4 z
 ·show(gJ own fr σ).length=N'.length;unfold gJ;rw[S.len,je,List.length_replicate,c_]
theorem gI{X:Cx}{tg iter F:Expr}{O:List Expr}{scope:Scope}{pos:Pos}{wi:TI}{g:TG}{tt:TT}{te:TE}{N':List Str}{own:Nat}{fr:List Nat}(hc:X.calm=true)(S:mF X N' own fr scope)(hi:PI X tg iter wi)(ho:Own own g)(hg:∀A w fp,PG (dH X N' scope A w fp) tg g)(hf:∀A w fp,vF (dH X N' scope A w fp) O tt)(he:∀A w fp,PE (dH X N' scope A w fp) F te)(hs:∀x,foldedSetIterable iter X.env x=pure x:=by intro _;rfl):PE X (.ListComp F [⟨tg,iter,O,0⟩] scope pos) (Rf own fr wi g tt te):=by
 intro pins s σ H Q I h;have u4:∀x∈scope.names,x.2= .free->∃c,X.env.cells.lookup x.1=some c:=λx hx e=>I.ok.has x.1 (S.free x hx e);rw[eval_ListComp];refine wpAny_comprehension_free (use:=none) rfl hs (sr u4) S.kind S.loc ?_;refine bQ (hi pins s σ H _ I h) λv s1 h1=>bQ h1 λitv s2 h2=>?_;obtain⟨it,fp,tn,J,d,e,I2,T,VI,f2,h2⟩:=h2;subst e;refine wpAny_newObj_type (hd:=by size_fits) (wpAny_newFunctionEnv S.n8 (by intro y hy;simp at hy) (λh4 L N=>?_) S.kind);have P_:=I2.bX.fresh (bJ s2.heap.objs.size);obtain⟨W,⟨m0,w0⟩,turn⟩:=h2 _ P_;have C:Inv X pins σ (upd d s2.heap.objs.size (.lst [])) {s2 with heap:=s2.heap.push {cls:= .type "list",dict:=none,data:= .seq ([]:List Value).toArray},toks:=s2.toks}:=I2.Yv .nil (d4 _);have Zw:∀b∈fp,b<s2.heap.objs.size:=λb hb=>let⟨o,e,_⟩:=T.obj _ _ VI b hb;bL e;have up2:∀b o,s2.heap.get? b=some o->∀ob:Obj,(s2.heap.push ob).get? b=some o:=λb o e ob=>bD _ e;have XQ:(s2.heap.push {cls:= .type "list",dict:=none,data:= .seq ([]:List Value).toArray}).objs.size=s2.heap.objs.size+1:=mZ ..;revert L N C;generalize e3:s2.heap.push {cls:= .type "list",dict:=none,data:= .seq ([]:List Value).toArray}=h3 at XQ⊢;intro L N C;have keep:∀b o,h3.get? b=some o->h4.get? b=some o:=λb o e=>(N.2 b (dN (bL e))).trans (bD _ e);have G:∀b∈fp,kK X pins (upd d s2.heap.objs.size (.lst [])) b/\b<h3.objs.size:=λb hb=>by refine⟨⟨?_,(f2 b hb).2⟩,by rw[XQ];exact Nat.lt_succ_of_lt (Zw b hb)⟩;rw[bf (dN (Zw b hb))];exact(f2 b hb).1
 have D:=G6 (t4:=s2.toks+([]:List (Str×Value)).length) S C G keep L;have V:tn 0 h4:=T.keep _ _ _ VI λb hb o e=>keep b o (by rw[<-e3];exact up2 b o e _);have U:∀{H':Hp},(∀b∈fp,H' b=none)->∀b∈fp,kK (dH X N' scope {s2 with heap:=h3,toks:=s2.toks} (upd d s2.heap.objs.size (.lst [])) fp) [] H' b:=λ{H'}hn b hb=>⟨hn b hb,dN (G b hb).2,λz=>D.ok.vx b hb z, .inl hb,(D.ok.RO b hb).2,λp hp=>(f2 b hb).2.2.2.2.2 p (p_ _ (by simpa using hp))⟩;have loop:∀sx:Shared,Inv (dH X N' scope {s2 with heap:=h3,toks:=s2.toks} (upd d s2.heap.objs.size (.lst [])) fp) [] (gJ own fr σ) (upd d s2.heap.objs.size (.lst [])) sx->tn 0 sx.heap->codeAny (model X.prog X.w) X.A (.compLoop (.ListComp F [⟨tg,iter,O,0⟩] scope pos) 0 (.ref it) (.ref s2.heap.objs.size) (E3 X scope h3.objs.size)) (compPost (model X.prog X.w) X.A X.xe none (EP X pins σ Q) (.ref s2.heap.objs.size) h3.objs.size) sx:=by
  intro sx Ix tx;refine oZ (λn s'=>∃i l H',Inv (dH X N' scope {s2 with heap:=h3,toks:=s2.toks} (upd d s2.heap.objs.size (.lst [])) fp) [] (gJ own fr σ) H' s'/\tn i s'.heap/\(∀b∈fp,H' b=none)/\W i n l H') ?_ m0 ⟨0,[],_,Ix,tx,λb hb=>(G b hb).1.1,w0⟩;rintro n s5⟨i,l,B,I5,Qf,Um,w5⟩;rcases turn i n l B w5 with⟨stop,qn⟩|⟨go,step⟩;·refine bQ (T.done (dH X N' scope {s2 with heap:=h3,toks:=s2.toks} (upd d s2.heap.objs.size (.lst [])) fp) rfl rfl rfl hc i [] s5 _ B (λ_ _=>False) I5 (U Um) Qf stop) λr s6 a=>?_;obtain⟨M,m⟩:=a;subst M;obtain⟨m6,hm6,_⟩:=id m.loc;refine⟨m6,hm6,λh7 hs7=>⟨.ref s2.heap.objs.size,B,?_,rfl,qn⟩⟩;exact C.MH (s':={s6 with heap:=h7}) (ch:=fp) m.os (ua m.base (bJ _) hs7) (BN m.bX m.free hs7) m.bare λb hb=>⟨(f2 b hb).2.2.2.1,(f2 b hb).2.1,(f2 b hb).2.2.2.2.1,(f2 b hb).2.2.2.2.2⟩
  ·refine bQ (T.item (dH X N' scope {s2 with heap:=h3,toks:=s2.toks} (upd d s2.heap.objs.size (.lst [])) fp) rfl rfl rfl hc i [] s5 _ B (λ_ _=>False) I5 (U Um) Qf go) λr s6 a=>?_;obtain⟨u,M,h6⟩:=a;subst M;refine bQ h6 λ_ s7 a=>?_;obtain⟨x,Z,I7,r7,y7,R,fr7⟩:=a;have I7':=I7.pinned (U fr7) (T.obj _ _ R);refine bQ (hg _ _ _ _ s7 _ Z x u _ I7' r7 (ho _ _ _ _ (step x Z y7))) λ_ s8 a=>?_;obtain⟨E,H8,I8,q8,l8,k8⟩:=a;have again:∀{k:Hp}{t:Shared},Inv (dH X N' scope {s2 with heap:=h3,toks:=s2.toks} (upd d s2.heap.objs.size (.lst [])) fp) ([]++nS fp s7.heap) E k t->Inv (dH X N' scope {s2 with heap:=h3,toks:=s2.toks} (upd d s2.heap.objs.size (.lst [])) fp) [] (gJ own fr σ) k t/\tn (i+1) t.heap/\∀b∈fp,k b=none:=λ{k t}q=>by
    refine⟨q.jE.weak l8.symm λj v e=>?_,T.keep _ _ _ R λb hb o e=>(q.pin (b,o) (js _ (js _ (eV hb e)))).1,λb hb=>?_⟩
    ·have hj:own<=j:=by refine Nat.le_of_not_lt λz=>?_;unfold gJ at e;rw[Ci (by simpa using z),List.getElem?_replicate]at e;split at e<;>cases e
     rw[k8 j hj];exact e
    ·obtain⟨o,e,_⟩:=T.obj _ _ R b hb;exact(q.pin (b,o) (js _ (js _ (eV hb e)))).2.1
   refine bQ (hf _ _ _ _ s8 E H8 _ I8 q8) λok t a=>?_;obtain⟨k,q,q9⟩:=a;cases ok with|false=>obtain⟨P,K,w9⟩:=q9;obtain⟨a1,a2,a3⟩:=again q;exact⟨P,K,i+1,l,k,a1,a2,a3,w9⟩|true=>refine bQ (he _ _ _ _ t E k _ q q9) λy uV a=>?_;obtain⟨v,Y,I10,r10,VD,Li,P,K,w10⟩:=a;refine bQ (nJ _ uV E Y (.ref s2.heap.objs.size) [v] (.ref s2.heap.objs.size) [y] (λ_ Hn=>Hn=upd Y s2.heap.objs.size (.lst (l++[v]))) I10 rfl (.cons r10 .nil) ⟨_,l,v,rfl,rfl,VD,Li,rfl⟩) λ_ s11 a=>?_;obtain⟨_,H11,I11,_,e11⟩:=a;subst e11;obtain⟨a1,a2,a3⟩:=again I11;exact⟨P,K,i+1,l++[v],_,a1,a2,a3,w10⟩
 exact codeAny_compStart_list (loop _ D V) (fE (T.self X.A 0 _ (λv s'=>v= .ref it/\s'=_) (λ_ _=>False) V ⟨rfl,rfl⟩) (λv s'⟨e1,e2⟩=>by subst e1;subst e2;exact loop _ D V) λ_ _ f=>f.elim)
def Nx(n i:Nat)(P:Prop):Prop:=∃a,a<n-i/\a=n-(i+1)/\i+1<=n/\P
theorem nx{n i:Nat}{P:Prop}(h:i<n)(p:P):Nx n i P:=⟨n-(i+1),by lia,rfl,h,p⟩
theorem mS{J:It}{p:Addr}{l:Hp}{g:TG}{q:TT}{o:TE}{b:L2.St}{Q:VK}(n:Nat)(Pv:Nat->List V->Hp->Prop)(r:Pv 0 [] (upd l p (.lst [])))(s:∀i a c,i<n->Pv i a c->J.go i c/\∀x d,J.wM i c x d->g x b d λj k=>q j k λok e=>if ok=true then o j e λv f=>f p=some (.lst a)/\a.length<sizeLine/\Nx n i (Pv (i+1) (a++[v]) (upd f p (.lst (a++[v]))))else Nx n i (Pv (i+1) a e))(hd:∀a c,Pv n a c->J.stop n c/\Q (.ref p) c):∃W:Nat->Nat->List V->Hp->Prop,(∃m,W 0 m [] (upd l p (.lst [])))/\∀i m a c,W i m a c->(J.stop i c/\Q (.ref p) c)\/(J.go i c/\∀x d,J.wM i c x d->g x b d λj k=>q j k λok e=>if ok=true then o j e λv f=>f p=some (.lst a)/\a.length<sizeLine/\∃h,h<m/\W (i+1) h (a++[v]) (upd f p (.lst (a++[v])))else∃h,h<m/\W (i+1) h a e):=by
 refine⟨λi m a H=>m=n-i/\i<=n/\Pv i a H,⟨n,by simp,d4 _,r⟩,?_⟩;rintro i m a c⟨rfl,hi,w⟩;by_cases t:i<n;·exact .inr (s i a c t w)
 ·obtain rfl:i=n:=by lia
  exact .inl (hd a c w)
end L3
end
section
namespace L3
open PySem L2
section
variable{prog:Program}{w:World}{A:Around}{E:Value->Shared->Prop}{s:Shared}
theorem UE{it t:Addr}{i:Nat}{d:Array Value}{x:Value}{Q:Value->Shared->Prop}(c:s.heap.IsTupleIter it t i)(gt:s.heap.IsTuple t d)(h:d[i]?=some x)(j:∀h',h'.IsTupleIter it t (i+1)->Heap.SameBut it s.heap h'->Q x {s with heap:=h'}):wpAny (model prog w) A (Builtin.SmallTypes.nextOf (.ref it)) Q E s:=by obtain⟨l,b,e,a⟩:=id c;obtain⟨m,g,_,k,f⟩:=gt;unfold Builtin.SmallTypes.nextOf;refine aj (wpAny_callSpecial?_slot (name:=Str.ofString "__next__") c.typeIs F.slot_tuple_iterator_next (iQ F.slot_tuple_iterator_next c.typeIs F.entry_tuple_iterator_next ?_ (F.args_tuple_iterator_next_1 _)));show wpAny (model prog w) _ (field (.ref it) 0>>=_) _ _ s;refine aj (dy b a (x:= .ref t) rfl ?_);show wpAny (model prog w) _ (if(Value.ref t==Value.none)=true then _ else _) _ _ s;rw[if_neg (show¬(Value.ref t==Value.none)=true from d5)];show wpAny (model prog w) _ (field (.ref it) 1>>=_) _ _ s;refine aj (dy b a (x:= .int i 0) rfl ?_);show wpAny (model prog w) _ (seqItems? (.ref t)>>=_) _ _ s;refine aj (wpAny_seqItems g f ?_);simp only[Int.toNat_natCast,h];refine aj (wpAny_setField b a (by simp) (aU ⟨x,rfl,aU (j _ ?_ (Heap.SameBut.update ..))⟩));refine⟨_,uW _ b (Obj.isFreed_of_fields (Obj.data_mapFields a _)),(Obj.cls_mapFields ..).trans e,?_⟩;rw[Obj.data_mapFields a];simp[rawInt]
theorem Fc{it t:Addr}{i:Nat}{f:Array Value}{Q:Value->Shared->Prop}(hb:HB s.heap A)(n:∀a,A.handled=some (.ref a)->a≠it)(d:s.heap.IsTupleIter it t i)(gt:s.heap.IsTuple t f)(j:f[i]?=none)(l:∀h' e,Heap.ExtBut it s.heap h'->(∃o,h'.get? e=some o/\o.cls= .type "StopIteration")->E (.ref e) {s with heap:=h'}):wpAny (model prog w) A (Builtin.SmallTypes.nextOf (.ref it)) Q E s:=by obtain⟨r,c,p,b⟩:=id d;obtain⟨u,h,_,q,g⟩:=gt;unfold Builtin.SmallTypes.nextOf;refine aj (wpAny_callSpecial?_slot (name:=Str.ofString "__next__") d.typeIs F.slot_tuple_iterator_next (iQ F.slot_tuple_iterator_next d.typeIs F.entry_tuple_iterator_next ?_ (F.args_tuple_iterator_next_1 _)));show wpAny (model prog w) _ (field (.ref it) 0>>=_) _ _ s;refine aj (dy c b (x:= .ref t) rfl ?_);show wpAny (model prog w) _ (if(Value.ref t==Value.none)=true then _ else _) _ _ s;rw[if_neg (show¬(Value.ref t==Value.none)=true from d5)];show wpAny (model prog w) _ (field (.ref it) 1>>=_) _ _ s;refine aj (dy c b (x:= .int i 0) rfl ?_);show wpAny (model prog w) _ (seqItems? (.ref t)>>=_) _ _ s;refine aj (wpAny_seqItems h g ?_);simp only[Int.toNat_natCast,j];refine aj (wpAny_rule (aj (wpAny_setField c b (by simp) ?_)));exact eX (A:=A.in1) (hb.upd n) λh' e k m=>l h' e (j9 k) m
end
theorem nq{prog:Program}{w:World}{A:Around}(it t:Addr)(ne:t≠it)(f:∀a,A.handled=some (.ref a)->a≠it)(c:Array Value):Draws prog w A it (it::t::gA A) c.size (λi v=>c[i]?=some v) (λi h=>h.IsTupleIter it t i/\h.IsTuple t c/\HB h A)where
 live:=λ_ _ st=>let⟨o,p,_⟩:=st.1;⟨o,p⟩;frame:=λi h h' st d=>by obtain⟨⟨g,e1,r⟩,⟨j,e2,u⟩,hb⟩:=st;exact⟨⟨g,d it (by simp) g e1,r⟩,⟨j,d t (by simp) j e2,u⟩,hb.frame λb hb=>d b (by simp[hb])⟩
 item:=λi s Q E hi st n=>by refine UE st.1 st.2.1 (x:=c[i]) (by simp[hi]) λh' q e=>?_;exact n _ h' s.toks (by simp[hi]) ⟨q,st.2.1.extBut e.extBut ne,st.2.2.mono λa o k l=>e.extBut a o (f a k) l⟩ e
 done:=λs Q E st m=>Fc st.2.2 f st.1 st.2.1 (by simp) m
structure jv(z TI TO i1 i2:Nat)(f1 f2:List Nat):Prop where
 TIz:TI≠z
 TOz:TO≠z
 TITO:TI≠TO
 TI1:TI≠i1
 TI2:TI≠i2
 TO1:TO≠i1
 TO2:TO≠i2
 i1z:i1≠z
 i2z:i2≠z
 zf1:z∉f1
 zf2:z∉f2
 Tf1:TO∉f1
 Tf2:TO∉f2
 aa0:i2∉f1
 ab4:i1∉f2
section
variable{prog:Program}{w:World}{A:Around}{E:Value->Shared->Prop}{s:Shared}
variable{z TI TO i1 i2:Addr}{f1 f2:List Addr}{n1 n2:Nat}{P1 P2:Nat->Value->Prop}{S1 S2:Nat->Heap->Prop}
theorem JJ{i:Nat}{a b:Value}{Q:Value->Shared->Prop}(D1:Draws prog w A i1 f1 n1 P1 S1)(C:Draws prog w A i2 f2 n2 P2 S2)(d:jv z TI TO i1 i2 f1 f2)(n:IsZip s.heap z TI TO .none)(R:IsPair s.heap TI (.ref i1) (.ref i2))(S:IsPair s.heap TO a b)(s1:S1 i s.heap)(s2:S2 i s.heap)(Z:i<n1)(l2:i<n2)(T:∀x y h' tk,P1 i x->P2 i y->IsZip h' z TI TO (rawInt s.heap.objs.size)->IsPair h' TO x y->S1 (i+1) h'->S2 (i+1) h'->IsPair h' s.heap.objs.size x y->(∀c o,c≠z->c≠TO->c≠i1->c≠i2->s.heap.get? c=some o->h'.get? c=some o)->Q (.ref s.heap.objs.size) {s with heap:=h',toks:=tk}):wpAny (model prog w) A (Builtin.«zip.__next__» ⟨[.ref z],[]⟩) (λfin s'=>∃v,fin= .done (.ret v)/\Q v s') E s:=by
 have p:∀{k:Nat}{h h':Heap}{c:Addr},c∉f1->Heap.SameBut c h h'->S1 k h->S1 k h':=λ{k h h' c}hc sb st=>D1.frame _ _ _ st λq hq o e=>(sb.2 q λz=>hc (z▸hq)).trans e;have r:∀{k:Nat}{h h':Heap}{c:Addr},c∉f2->Heap.SameBut c h h'->S2 k h->S2 k h':=λ{k h h' c}hc sb st=>C.frame _ _ _ st λq hq o e=>(sb.2 q λz=>hc (z▸hq)).trans e;show wpAny (model prog w) _ (field (.ref z) 2>>=_) _ _ _;refine aj (dy n rfl (x:= .bool false) rfl ?_);show wpAny (model prog w) _ (field (.ref z) 3>>=_) _ _ _;refine aj (dy n rfl (x:= .ref TI) rfl ?_);refine aj (wpAny_seqItems R rfl ?_);show wpAny (model prog w) _ (Builtin.SmallTypes.ownedTupleIsFree (.ref z)>>=_) _ _ _;refine aj ?_;unfold Builtin.SmallTypes.ownedTupleIsFree;refine aj (dy n rfl (x:= .none) rfl (aU ?_));simp only[if_true];refine aj (wpAny_rule ?_);refine aj (dy n rfl (x:= .ref TO) rfl ?_);refine aj (wpAny_setField_rec n (by simp) λU H b1=>?_);replace H:IsZip U z TI TO .ellipsis:=H;refine aj ?_;simp only[List.zipIdx_cons,List.zipIdx_nil,List.forIn_cons,List.forIn_nil];refine aj (aj (wpAny_onRaise ?_));show wpAny (model prog w) _ (Builtin.SmallTypes.nextOf (.ref i1)>>=_) _ _ _;refine aj (D1.item i _ _ _ Z (p d.zf1 b1 s1) λx V t2 px q2 g=>aU ?_);have M:IsPair V TO a b:=g.extBut _ _ d.TO1 (b1.extBut _ _ d.TOz S);refine aj (wpAny_seqItems M rfl ?_);refine aj (wpAny_updateSeq_pair M λW G j=>?_);replace G:IsPair W TO x b:=G;refine aj (wpAny_letGo (aU ?_));refine aj (aj (wpAny_onRaise ?_));show wpAny (model prog w) _ (Builtin.SmallTypes.nextOf (.ref i2)>>=_) _ _ _;refine aj (C.item i _ _ _ l2 (r d.Tf2 j (r d.ab4 g (r d.zf2 b1 s2))) λy X t4 py q4 l=>aU ?_);have N:IsPair X TO x b:=l.extBut _ _ d.TO2 G;refine aj (wpAny_seqItems N rfl ?_);refine aj (wpAny_updateSeq_pair N λf u m=>?_);replace u:IsPair f TO x y:=u;refine aj (wpAny_letGo (aU (aU ?_)));refine aj (wpAny_seqItems u rfl ?_);refine aj (wpAny_newTuple ?_);have sz:f.objs.size=s.heap.objs.size:=by rw[m.1,l.1,j.1,g.1,b1.1]
 have P:IsZip f z TI TO .ellipsis:=m.extBut _ _ d.TOz.symm (l.extBut _ _ d.i2z.symm (j.extBut _ _ d.TOz.symm (g.extBut _ _ d.i1z.symm H)));have kp:∀c o,c≠z->c≠TO->c≠i1->c≠i2->s.heap.get? c=some o->f.get? c=some o:=λc o c1 c2 D F e=>m.extBut _ _ c2 (l.extBut _ _ F (j.extBut _ _ c2 (g.extBut _ _ D (b1.extBut _ _ c1 e))));have q1':S1 (i+1) f:=p d.Tf1 m (p d.aa0 l (p d.Tf1 j q2));have q2':S2 (i+1) f:=r d.Tf2 m q4;have L:z<f.objs.size:=bL P;show wpAny (model prog w) _ (Builtin.SmallTypes.ownedTupleHandOut (.ref z) (.ref f.objs.size)>>=_) _ _ _;refine aj ?_;unfold Builtin.SmallTypes.ownedTupleHandOut;have z6:IsZip (f.push {cls:= .type "tuple",data:= .seq #[x,y]}) z TI TO .ellipsis:=bD _ P;refine aj (wpAny_setField_rec z6 (by simp) λY I J=>?_);replace I:IsZip Y z TI TO (rawInt f.objs.size):=I;refine wpAny_setField_rec I (by simp) λt B K=>?_;replace B:IsZip t z TI TO (rawInt f.objs.size):=B;have up:∀c o,c≠z->f.get? c=some o->t.get? c=some o:=λc o c1 e=>K.extBut _ _ c1 (J.extBut _ _ c1 (bD _ e));have O:IsPair t f.objs.size x y:=K.extBut _ _ (Nat.ne_of_gt L) (J.extBut _ _ (Nat.ne_of_gt L) (eD _ rfl));rw[sz]at B O;refine aU ⟨_,rfl,?_⟩;show Q (.ref f.objs.size) _;rw[sz];exact T x y t _ px py B (up _ _ d.TOz u) (D1.frame _ _ _ q1' λq hq o e=>up q o (λz=>d.zf1 (z▸hq)) e) (C.frame _ _ _ q2' λq hq o e=>up q o (λz=>d.zf2 (z▸hq)) e) O λc o c1 c2 D F e=>up c o c1 (kp c o c1 c2 D F e)
theorem JB{a b:Value}{Q:Fin->Shared->Prop}(D1:Draws prog w A i1 f1 n1 P1 S1)(h:jv z TI TO i1 i2 f1 f2)(d:IsZip s.heap z TI TO .none)(n:IsPair s.heap TI (.ref i1) (.ref i2))(C:IsPair s.heap TO a b)(s1:S1 n1 s.heap)(p:∀h' e,(∀c o,c≠z->c≠TO->c≠i1->c≠i2->s.heap.get? c=some o->h'.get? c=some o)->(∃o,h'.get? e=some o/\o.cls= .type "StopIteration")->E (.ref e) {s with heap:=h'}):wpAny (model prog w) A (Builtin.«zip.__next__» ⟨[.ref z],[]⟩) Q E s:=by
 show wpAny (model prog w) _ (field (.ref z) 2>>=_) _ _ _;refine aj (dy d rfl (x:= .bool false) rfl ?_);show wpAny (model prog w) _ (field (.ref z) 3>>=_) _ _ _;refine aj (dy d rfl (x:= .ref TI) rfl ?_);refine aj (wpAny_seqItems n rfl ?_);show wpAny (model prog w) _ (Builtin.SmallTypes.ownedTupleIsFree (.ref z)>>=_) _ _ _;refine aj ?_;unfold Builtin.SmallTypes.ownedTupleIsFree;refine aj (dy d rfl (x:= .none) rfl (aU ?_));simp only[if_true];refine aj (wpAny_rule ?_);refine aj (dy d rfl (x:= .ref TO) rfl ?_);refine aj (wpAny_setField_rec d (by simp) λt g b1=>?_);replace g:IsZip t z TI TO .ellipsis:=g;refine aj ?_;simp only[List.zipIdx_cons,List.zipIdx_nil,List.forIn_cons,List.forIn_nil];refine aj (aj (wpAny_onRaise ?_));show wpAny (model prog w) _ (Builtin.SmallTypes.nextOf (.ref i1)>>=_) _ _ _;refine aj (D1.done _ _ _ (D1.frame _ _ _ s1 λq hq o e=>(b1.2 q λy=>h.zf1 (y▸hq)).trans e) λu e i r=>?_);obtain⟨oe,f,k⟩:=r;have l:IsZip u z TI TO .ellipsis:=i _ _ h.i1z.symm g;have B:e≠z:=λq=>by subst q;rw[l]at f;cases f;simp at k
 refine wpAny_setField_rec l (by simp) λv _ j=>p v e (λc o c1 _ m _ q=>j.extBut _ _ c1 (i _ _ m (b1.extBut _ _ c1 q))) ⟨oe,j.extBut _ _ B f,k⟩
theorem wZ{i:Nat}{a b:Value}{Q:Option Value->Shared->Prop}(D1:Draws prog w A.in1 i1 f1 n1 P1 S1)(e:Draws prog w A.in1 i2 f2 n2 P2 S2)(f:jv z TI TO i1 i2 f1 f2)(d:IsZip s.heap z TI TO .none)(g:IsPair s.heap TI (.ref i1) (.ref i2))(h:IsPair s.heap TO a b)(s1:S1 i s.heap)(s2:S2 i s.heap)(k:i<n1)(l:i<n2)(j:∀x y h' tk,P1 i x->P2 i y->IsZip h' z TI TO (rawInt s.heap.objs.size)->IsPair h' TO x y->S1 (i+1) h'->S2 (i+1) h'->IsPair h' s.heap.objs.size x y->(∀c o,c≠z->c≠TO->c≠i1->c≠i2->s.heap.get? c=some o->h'.get? c=some o)->Q (some (.ref s.heap.objs.size)) {s with heap:=h',toks:=tk}):wpAny (model prog w) A (pyNext (.ref z)) Q E s:=by have ty:s.TypeIs (.ref z) "zip":=⟨_,d,rfl⟩;unfold pyNext;refine aj (wpAny_attempt (wpAny_callSpecial?_slot (name:=Str.ofString "__next__") ty F.slot_zip_next (iQ F.slot_zip_next ty F.entry_zip_next ?_ (F.args_zip_next_1 _))));exact JJ D1 e f d g h s1 s2 k l λx y h' tk a1 a2 a3 a4 a5 a6 a7 a8=>aU (j x y h' tk a1 a2 a3 a4 a5 a6 a7 a8)
theorem vV{a b:Value}{Q:Option Value->Shared->Prop}(D1:Draws prog w A.in1 i1 f1 n1 P1 S1)(f:jv z TI TO i1 i2 f1 f2)(d:IsZip s.heap z TI TO .none)(g:IsPair s.heap TI (.ref i1) (.ref i2))(h:IsPair s.heap TO a b)(s1:S1 n1 s.heap)(i:∀h',(∀c o,c≠z->c≠TO->c≠i1->c≠i2->s.heap.get? c=some o->h'.get? c=some o)->Q none {s with heap:=h'}):wpAny (model prog w) A (pyNext (.ref z)) Q E s:=by have ty:s.TypeIs (.ref z) "zip":=⟨_,d,rfl⟩;unfold pyNext;refine aj (wpAny_attempt (wpAny_callSpecial?_slot (name:=Str.ofString "__next__") ty F.slot_zip_next (iQ F.slot_zip_next ty F.entry_zip_next (JB D1 f d g h s1 λh' e k j=>?_) (F.args_zip_next_1 _))));obtain⟨o,l,hc⟩:=j;refine aj (wpAny_isInstance (T:="StopIteration") (b:=true) ⟨o,l,hc⟩ isSubtype_stop (aU (i _ k)))
end
noncomputable abbrev zt1(h:Heap)(a:Addr):Heap:=h.push {cls:= .type "tuple_iterator",data:= .fields #[.ref a, .int 0 0]}
noncomputable abbrev zt2(h:Heap)(a b:Addr):Heap:=(zt1 h a).push {cls:= .type "tuple_iterator",data:= .fields #[.ref b, .int 0 0]}
noncomputable abbrev zt3(h:Heap)(a b:Addr):Heap:=(zt2 h a b).push {cls:= .type "tuple",data:= .seq #[.ref h.objs.size, .ref (zt1 h a).objs.size]}
noncomputable abbrev zt4(h:Heap)(a b:Addr):Heap:=(zt3 h a b).push {cls:= .type "tuple",data:= .seq #[.none, .none]}
noncomputable abbrev Xg(h:Heap)(a b:Addr):Heap:=(zt4 h a b).push {cls:= .type "zip",data:= .fields #[.none, .bool false, .bool false, .ref (zt2 h a b).objs.size, .ref (zt3 h a b).objs.size]}
theorem E7(a b:Addr)(xs e:Array Value):Meets (Builtin.«zip.__new__» ⟨[.type "zip", .ref a, .ref b],[]⟩) (λ_ R s=>s.heap.IsTuple a xs/\s.heap.IsTuple b e/\R (.ok (.ret (.ref (zt4 s.heap a b).objs.size))) {s with heap:=Xg s.heap a b}):= .of_wp λprog w A R s h=>by obtain⟨c,g,d,tk,os⟩:=s;obtain⟨f,i,h⟩:=h;have j:=sub_zip;have t1:Heap.IsTuple (Shared.heap ⟨c,g,d,tk,os⟩) a xs:=f;have t2:Heap.IsTuple (Shared.heap ⟨c.push {cls:= .type "tuple_iterator",data:= .fields #[.ref a, .int 0 0]},g,d,tk,os⟩) b e:=Heap.IsTuple.push i _;wp_walk using wpAny_pyIter_tuple t1,wpAny_pyIter_tuple t2;exact⟨_,rfl,h⟩
section
variable{prog:Program}{w:World}{A:Around}{E:Value->Shared->Prop}{s:Shared}
theorem IU{a b:Addr}{xs i:Array Value}{Q:Value->Shared->Prop}(j:s.heap.IsTuple a xs)(k:s.heap.IsTuple b i)(h:∀h',IsZip h' (s.heap.objs.size+4) (s.heap.objs.size+2) (s.heap.objs.size+3) .none->IsPair h' (s.heap.objs.size+2) (.ref s.heap.objs.size) (.ref (s.heap.objs.size+1))->IsPair h' (s.heap.objs.size+3) .none .none->h'.IsTupleIter s.heap.objs.size a 0->h'.IsTupleIter (s.heap.objs.size+1) b 0->(∀c o,s.heap.get? c=some o->h'.get? c=some o)->Q (.ref (s.heap.objs.size+4)) {s with heap:=h'}):wpAny (model prog w) A (call (.type "zip") [.ref a, .ref b]) Q E s:=by
 refine callType_new F.called_zip (by decide) (F.typeCall_zip_2 _ _) (F.newCall_zip_2 _ _) (λobj=>F.args_object_init_3 obj _ _) F.entry_zip_new (E7 a b xs i) ⟨j,k,?_⟩;have e1:(zt1 s.heap a).objs.size=s.heap.objs.size+1:=mZ ..;have e2:(zt2 s.heap a b).objs.size=s.heap.objs.size+2:=by rw[mZ,e1]
 have d:(zt3 s.heap a b).objs.size=s.heap.objs.size+3:=by rw[mZ,e2]
 have e4:(zt4 s.heap a b).objs.size=s.heap.objs.size+4:=by rw[mZ,d]
 have p5:(Xg s.heap a b).get? (zt4 s.heap a b).objs.size=some _:=eD _ rfl;have g:(Xg s.heap a b).get? (zt3 s.heap a b).objs.size=some _:=bD _ (eD _ rfl);have f:(Xg s.heap a b).get? (zt2 s.heap a b).objs.size=some _:=bD _ (bD _ (eD _ rfl));have e:(Xg s.heap a b).get? (zt1 s.heap a).objs.size=some _:=bD _ (bD _ (bD _ (eD _ rfl)));have l:(Xg s.heap a b).get? s.heap.objs.size=some _:=bD _ (bD _ (bD _ (bD _ (eD _ rfl))));show _/\_;rw[e2,d,e4]at p5;rw[e1,e2]at f;rw[d]at g;rw[e1]at e;rw[e4];refine⟨⟨_,p5,rfl⟩,h _ p5 f g ⟨_,l,rfl,rfl⟩ ⟨_,e,rfl,rfl⟩ λc o q=>?_⟩;exact bD _ (bD _ (bD _ (bD _ (bD _ q))))
end
end L3
end
section
namespace L3
open PySem PySem.Spec PyProof.Rows L2
section
variable{X:Cx}{pins:List (Addr×Obj)}{σ:L2.St}{H:Hp}{s:Shared}{h':Heap}
theorem nB{t':Nat}{ch:List Addr}{T:Addr}{o:HO}(I:Inv X pins σ H s)(k:∀b ob,b∉ch->s.heap.get? b=some ob->h'.get? b=some ob)(hf:∀b∈ch,kK X pins H b)(a:s.heap.objs.size<=T)(new:cu X.prog X.w (upd H T o) h' T o):Inv X pins σ (upd H T o) {s with heap:=h',toks:=t'}:=by
 have hn:H T=none:=I.bX.fresh a;have d:∀b u,H b=some u->b∉ch:=λb u e z=>by rw[(hf b z).1]at e;cases e
 refine I.step (g':=s.gens) (d':=s.drawn) (ch:=ch) (λb hb=>⟨(hf b hb).2.2.2.1,(hf b hb).2.1,(hf b hb).2.2.2.2.1,(hf b hb).2.2.2.2.2⟩) (λb ob _ _ hc e _=>k b ob hc e) (λb ob _ _ hc e _=>⟨ob.slots,k b ob hc e⟩) (λb ob _ e n=>by rw[bf (dN (gd (bL e) a))];exact n) (λb ob hc e=>⟨ob,k b ob hc e⟩) (λb xs e=>by rw[bf (aT e hn)];exact e) (λb ob u e=>by rw[bf (aT e hn)];exact e) (λb ps e=>(by rw[bf (aT e hn),e])) (λm hm=>?_) (λb u e=>?_) I.bare;·obtain⟨ob,es,ep,f,r⟩:=hm;exact⟨ob,es,ep,k _ ob (λz=>(hf _ z).2.1 rfl) f,r⟩
 ·by_cases hb:b=T;·subst hb;rw[aq]at e;cases e;exact new
  ·rw[bf hb]at e;refine(I.bX b u e).pO (λc v hc q=>k c v ?_ q) (λc q=>by rw[bf (aT q hn)];exact q) λc xs q=>by rw[bf (aT q hn)];exact q
   rcases hc with z|z;·rw[z];exact d b u e
   ·exact d c _ z
theorem AH{t':Nat}{ch:List Addr}(I:Inv X pins σ H s)(k:∀b ob,b∉ch->s.heap.get? b=some ob->h'.get? b=some ob)(hf:∀b∈ch,kK X pins H b):Inv X pins σ H {s with heap:=h',toks:=t'}:=by
 have a:∀b u,H b=some u->b∉ch:=λb u e z=>by rw[(hf b z).1]at e;cases e
 refine I.step (g':=s.gens) (d':=s.drawn) (ch:=ch) (λb hb=>⟨(hf b hb).2.2.2.1,(hf b hb).2.1,(hf b hb).2.2.2.2.1,(hf b hb).2.2.2.2.2⟩) (λb ob _ _ hc e _=>k b ob hc e) (λb ob _ _ hc e _=>⟨ob.slots,k b ob hc e⟩) (λb ob _ e n=>n) (λb ob hc e=>⟨ob,k b ob hc e⟩) (λb xs e=>e) (λb ob u e=>e) (λb ps e=>(by rw[e])) (λm hm=>?_) (λb u e=>?_) I.bare;·obtain⟨ob,es,ep,d,r⟩:=hm;exact⟨ob,es,ep,k _ ob (λz=>(hf _ z).2.1 rfl) d,r⟩
 ·refine(I.bX b u e).pO (λc v hc q=>k c v ?_ q) (λ_ q=>q) λ_ _ q=>q;rcases hc with z|z;·rw[z];exact a b u e
  ·exact a c _ z
end
noncomputable def Its(z:Str):It:=⟨λi _=>i<z.cps.size,λi H x H'=>H'=H/\∃c,z.cps[i]?=some c/\x= .str ⟨#[c]⟩,λi _=>z.cps.size<=i⟩
theorem NH{P:Program}{w:World}{K:PySem.W.Frag}{tg:Expr}(it:Addr)(z:Str)(t:Tok):Turn P w K tg (Its z) [it] it (λi h=>h.IsStrIter it (strIterType z) z t i)where
 mem:=by simp
 obj:=λi h st b hb=>by
  obtain rfl:b=it:=by simpa using hb
  obtain⟨o,e,c,d⟩:=st;exact⟨o,e,λv q=>by rw[d]at q;cases q⟩
 keep:=λi h h' st k=>by obtain⟨o,e,r⟩:=st;exact⟨o,k it (by simp) o e,r⟩
 item:=by
  intro X p hw n hc i pins s σ H E I hf st j;subst p hw n;have hi:i<z.cps.size:=j;have a:z.cps[i]?=some z.cps[i]:=by simp[hi]
  obtain⟨l,f1,f2,f,m,g⟩:=hf it (by simp);have fin:∀h',h'.IsStrIter it (strIterType z) z t (i+1)->Heap.SameBut it s.heap h'->∃u,some (Value.str ⟨#[z.cps[i]]⟩ s.toks)=some u/\wpAny (model X.prog X.w) X.A (letOwnedTupleGo tg (.ref it) u) (λ_ s2=>∃x H',Inv X pins σ H' s2/\RelV x u/\(Its z).wM i H x H'/\s2.heap.IsStrIter it (strIterType z) z t (i+1)/\∀b∈[it],H' b=none) E {s with heap:=h',toks:=s.toks+1}:=by intro h' DN sb;have y:Inv X pins σ H {s with heap:=h',toks:=s.toks+1}:=I.turned (λb o hb e=>(sb.2 b hb).trans e) l f1 f m g;obtain⟨o,e,c,d⟩:=id DN;refine⟨_,rfl,G4 (s:={s with heap:=h',toks:=s.toks+1}) e c d (by unfold strIterType;split<;>decide) ⟨.str ⟨#[z.cps[i]]⟩,H,y,⟨_,rfl⟩,⟨rfl,_,a,rfl⟩,DN,λb hb=>(hf b hb).1⟩⟩
  cases ha:z.cps.all (·<128)with
   |true=>
    have e:strIterType z="str_ascii_iterator":=by simp[strIterType,ha]
    rw[e]at st fin⊢;exact wpAny_pyNext_ascii_item st a fin
   |false=>
    have e:strIterType z="str_iterator":=by simp[strIterType,ha]
    rw[e]at st fin⊢;exact wpAny_pyNext_wide_item st a fin
 done:=by
  intro X p hw n hc i pins s σ H E I hf st j;subst p hw n;have a:z.cps[i]?=none:=by have j:z.cps.size<=i:=j;simpa using j
  obtain⟨l,f1,f2,f,m,g⟩:=hf it (by simp);have fin:∀h',Heap.ExtBut it s.heap h'->(none:Option Value)=none/\Inv X pins σ H {s with heap:=h'}:=λh' B=>⟨rfl,I.turned (t':=s.toks) (λb o hb e=>B b o hb e) l f1 f m g⟩;cases ha:z.cps.all (·<128)with
   |true=>
    have e:strIterType z="str_ascii_iterator":=by simp[strIterType,ha]
    rw[e]at st;exact sW (I.hb hc) (I.EG hc f g) st a fin
   |false=>
    have e:strIterType z="str_iterator":=by simp[strIterType,ha]
    rw[e]at st;exact u3 (I.hb hc) (I.EG hc f g) st a fin
 self:=λA i s Q E st h=>by
  cases ha:z.cps.all (·<128)with
   |true=>
    have e:strIterType z="str_ascii_iterator":=by simp[strIterType,ha]
    rw[e]at st;exact wpAny_pyIter_striter_ascii st h
   |false=>
    have e:strIterType z="str_iterator":=by simp[strIterType,ha]
    rw[e]at st;exact wpAny_pyIter_striter_wide st h
noncomputable def aa7(b:TE):TI:=λσ H R=>b σ H λx a=>∃z,x= .str z/\R (Its z) a
theorem TX{X:Cx}{tg l:Expr}{c:TE}(hl:PE X l c):PI X tg l (aa7 c):=by
 intro pins s σ H R I h;refine bQ (hl pins s σ H _ I h) λv s1 g=>?_;obtain⟨x,d,a,f,z,e,q⟩:=g;subst e;obtain⟨t,rfl⟩:=f;refine wpAny_pyIter_strU ?_;refine⟨s1.heap.objs.size,[s1.heap.objs.size],_,Its z,d,rfl,a.kept (t':=s1.toks) λb o e=>bD _ e,NH _ z t,⟨_,eD _ rfl,rfl,rfl⟩,λb hb=>?_,q⟩;obtain rfl:b=s1.heap.objs.size:=by simpa using hb
 exact a.DR (bJ _) (a.bX.fresh (bJ _))
theorem GD{X:Cx}{pins:List (Addr×Obj)}{σ:L2.St}{H:Hp}{s:Shared}{a d:Addr}{xs:List V}(I:Inv X pins σ H s)(q:bS X.K H a xs)(f:kK X pins H d):a≠d:=λz=>by
 subst z;rcases q with(q|⟨o,q⟩)|⟨o,_,_,q,_⟩;·rw[f.1]at q;cases q
 ·rw[f.1]at q;cases q
 ·have e:=I.ok.mod.JA a o q;rcases f.2.2.2.1 with z|z;·exact I.ok.pS a o e z
  ·exact absurd (gd (bL e) I.ok.Ba) (Nat.not_lt.mpr z)
noncomputable def Itz(K:PySem.W.Frag)(a b:Addr):It:=⟨λi H=>∃xs c x y,bS K H a xs/\bS K H b c/\xs[i]?=some x/\c[i]?=some y,λi H v H'=>∃p x y,v= .ref p/\H p=none/\H'=upd H p (.tup [x,y])/\∀xs c,bS K H a xs->bS K H b c->xs[i]?=some x/\c[i]?=some y,λi H=>∃xs c,bS K H a xs/\bS K H b c/\xs.length=i⟩
structure abE(a b z TI TO i1 i2:Addr)(i:Nat)(h:Heap):Prop where
 z:IsZip h z TI TO .none
 TI:IsPair h TI (.ref i1) (.ref i2)
 TO:∃u v,IsPair h TO u v
 i1:h.IsTupleIter i1 a i
 i2:h.IsTupleIter i2 b i
theorem Lr{P:Program}{w:World}{K:PySem.W.Frag}{es:List Expr}{k:Nat}{pos:Pos}(a b n:Nat):Turn P w K (.Tuple es k pos) (Itz K a b) [n+4,n+2,n+3,n,n+1] (n+4) (abE a b (n+4) (n+2) (n+3) n (n+1))where
 mem:=by simp
 obj:=λi h st c hc=>by
  simp only[eB,fH,or_false]at hc;obtain⟨r,e1,_,d1⟩:=st.i1;obtain⟨J,e2,_,d2⟩:=st.i2;obtain⟨u,v,m⟩:=st.TO;rcases hc with rfl|rfl|rfl|rfl|rfl;·exact⟨_,st.z,λv q=>by cases q⟩
  ·exact⟨_,st.TI,λv q=>by cases q⟩
  ·exact⟨_,m,λv q=>by cases q⟩
  ·exact⟨r,e1,λv q=>by rw[d1]at q;cases q⟩
  ·exact⟨J,e2,λv q=>by rw[d2]at q;cases q⟩
 keep:=λi h h' st kp=>by obtain⟨r,e1,r1⟩:=st.i1;obtain⟨J,e2,r2⟩:=st.i2;obtain⟨u,v,m⟩:=st.TO;exact⟨kp _ (by simp) _ st.z,kp _ (by simp) _ st.TI,⟨u,v,kp _ (by simp) _ m⟩,⟨r,kp _ (by simp) _ e1,r1⟩,⟨J,kp _ (by simp) _ e2,r2⟩⟩
 item:=by
  intro X C hw B hc i pins s σ H E I hf st D;subst C hw B;obtain⟨xs,ys,x,y,q1,q2,U,V⟩:=D;obtain⟨p,M,L,_⟩:=I.tuple q1;obtain⟨F,Yx,p2,_⟩:=I.tuple q2;obtain⟨N,R,M9⟩:=M.get U;obtain⟨O,S,T6⟩:=Yx.get V;obtain⟨u,v,m⟩:=st.TO;have W:=bL st.z;have l1:i<p.toArray.size:=by rw[cM];exact(List.getElem?_eq_some_iff.mp R).1
  have l2:i<F.toArray.size:=by rw[cM];exact(List.getElem?_eq_some_iff.mp S).1
  have g:∀d∈[n+4,n+2,n+3,n,n+1],a≠d:=λd hd=>GD I q1 (hf d hd);have l:∀d∈[n+4,n+2,n+3,n,n+1],b≠d:=λd hd=>GD I q2 (hf d hd);have j:jv (n+4) (n+2) (n+3) n (n+1) (n::a::gA X.A.in1) ((n+1)::b::gA X.A.in1):=by have G:∀d∈[n+4,n+2,n+3,n,n+1],d∉gA X.A.in1:=λd hd z=>I.EG hc (hf d hd).2.2.2.1 (hf d hd).2.2.2.2.2 d (gY z) rfl;have a1:=g (n+4) (by simp);have a2:=g (n+3) (by simp);have a3:=g (n+1) (by simp);have b1:=l (n+4) (by simp);have b2:=l (n+3) (by simp);have b3:=l n (by simp);constructor<;>(try simp only[eB,not_or])<;>first|lia|exact⟨by lia,by lia,G _ (by simp)⟩
  have t:∀d∈[n+4,n+2,n+3,n,n+1],∀a,X.A.in1.handled=some (.ref a)->a≠d:=λd hd=>I.EG hc (hf d hd).2.2.2.1 (hf d hd).2.2.2.2.2;refine wZ (nq n a (g n (by simp)) (t n (by simp)) p.toArray) (nq (n+1) b (l (n+1) (by simp)) (t (n+1) (by simp)) F.toArray) j st.z st.TI m ⟨st.i1,L,I.hb hc⟩ ⟨st.i2,p2,I.hb hc⟩ l1 l2 λY Z h1 tk e1 e2 z1 r s1 s2 pr kp=>?_;have e1:p.toArray[i]?=some Y:=e1;have e2:F.toArray[i]?=some Z:=e2;have ex:N=Y:=by rw[List.getElem?_toArray,R]at e1;exact Option.some.inj e1
  have ey:O=Z:=by rw[List.getElem?_toArray,S]at e2;exact Option.some.inj e2
  subst ex ey;refine⟨_,rfl,wpAny_letOwnedTupleGo_zip (s:={s with heap:=h1,toks:=tk}) z1 λh2 z2 sb=>?_⟩;have lt:∀d∈[n+4,n+2,n+3,n,n+1],d<s.heap.objs.size:=λd hd=>by
   have :d<=n+4:=by simp at hd;lia
   exact Nat.lt_of_le_of_lt this W
  have up:∀c o,c≠n+4->h1.get? c=some o->h2.get? c=some o:=λc o f e=>(sb.2 c f).trans e;have prT:h2.get? s.heap.objs.size=some {cls:= .type "tuple",data:= .seq #[N,O]}:=up _ _ (Nat.ne_of_gt W) pr;refine⟨.ref s.heap.objs.size,_,nB (s:=s) (h':=h2) (t':=tk) (ch:=[n+4,n+3,n,n+1]) (T:=s.heap.objs.size) (o:= .tup [x,y]) I (λc o f e=>?_) (λd hd=>hf d (by simp only[eB,fH,or_false]at hd⊢;rcases hd with z|z|z|z<;>simp[z])) (bJ _) ?_,rfl,⟨_,x,y,rfl,I.bX.fresh (bJ _),rfl,λxs' ys' a1 a2=>?_⟩,?_,λd hd=>?_⟩;·simp only[eB,fH,or_false,not_or]at f;exact up c o f.1 (kp c o f.1 f.2.1 f.2.2.1 f.2.2.2 e)
  ·exact⟨(dw rfl),[N,O], .cons M9 (.cons T6 .nil),⟨_,prT,rfl,_,rfl⟩⟩
  ·rw[I.m_ a1 q1,I.m_ a2 q2];exact⟨U,V⟩
  ·obtain⟨⟨oa,ea,ra⟩,_⟩:=s1;obtain⟨⟨ob,eb,rb⟩,_⟩:=s2;refine⟨z2,up _ _ j.TIz (kp _ _ j.TIz j.TITO j.TI1 j.TI2 st.TI),⟨_,_,up _ _ (by lia) r⟩,⟨oa,up _ _ (by lia) ea,ra⟩,⟨ob,up _ _ (by lia) eb,rb⟩⟩
  ·rw[bf (dN (lt d hd))];exact(hf d hd).1
 done:=by
  intro X C hw B hc i pins s σ H E I hf st D;subst C hw B;obtain⟨xs,ys,q1,q2,hl⟩:=D;obtain⟨p,M,L,_⟩:=I.tuple q1;obtain⟨u,v,m⟩:=st.TO;have g:∀d∈[n+4,n+2,n+3,n,n+1],a≠d:=λd hd=>GD I q1 (hf d hd);have l:∀d∈[n+4,n+2,n+3,n,n+1],b≠d:=λd hd=>GD I q2 (hf d hd);have j:jv (n+4) (n+2) (n+3) n (n+1) (n::a::gA X.A.in1) ((n+1)::b::gA X.A.in1):=by have G:∀d∈[n+4,n+2,n+3,n,n+1],d∉gA X.A.in1:=λd hd z=>I.EG hc (hf d hd).2.2.2.1 (hf d hd).2.2.2.2.2 d (gY z) rfl;have a1:=g (n+4) (by simp);have a2:=g (n+3) (by simp);have a3:=g (n+1) (by simp);have b1:=l (n+4) (by simp);have b2:=l (n+3) (by simp);have b3:=l n (by simp);constructor<;>(try simp only[eB,not_or])<;>first|lia|exact⟨by lia,by lia,G _ (by simp)⟩
  have hi:p.toArray.size=i:=by rw[cM,<-M.length];exact hl
  subst hi;have t:∀d∈[n+4,n+2,n+3,n,n+1],∀a,X.A.in1.handled=some (.ref a)->a≠d:=λd hd=>I.EG hc (hf d hd).2.2.2.1 (hf d hd).2.2.2.2.2;refine vV (nq n a (g n (by simp)) (t n (by simp)) p.toArray) j st.z st.TI m ⟨st.i1,L,I.hb hc⟩ λh1 kp=>⟨rfl,?_⟩;refine AH (t':=s.toks) (ch:=[n+4,n+3,n,n+1]) I (λc o f e=>?_) λd hd=>hf d (by simp only[eB,fH,or_false]at hd⊢;rcases hd with z|z|z|z<;>simp[z]);simp only[eB,fH,or_false,not_or]at f;exact kp c o f.1 f.2.1 f.2.2.1 f.2.2.2 e
 self:=λA i s Q E st h=>wpAny_pyIter_zip st.z h
noncomputable def Y_(K:PySem.W.Frag)(d:TA):TI:=λσ H R=>d σ H λvs c=>∃a b xs e,vs=[.ref a, .ref b]/\bS K c a xs/\bS K c b e/\R (Itz K a b) c
theorem Py{X:Cx}{es:List Expr}{k:Nat}{D:Pos}{a b:Expr}{j:TA}{p i:Pos}(n:Gl X "zip")(hm:X.mg "zip"=none)(ha:PA X [a,b] j)(o:starEach [a,b] X.env=[(false,eval a X.env),(false,eval b X.env)]:=by rfl)(g:starEach [b] X.env=[(false,eval b X.env)]:=by rfl):PI X (.Tuple es k D) (.Call (.Name "zip" p) [a,b] [] i) (Y_ X.K j):=by
 intro pins s σ H R I h;refine Call_ (jt I n hm boot_zip (PyProof.Rows.callWith_type1 (bQ (ha i pins s σ H _ I h) λus s1⟨vs,f,c,x,q1⟩=>?_) (by rw[o,g]) (by rw[g];rfl)));obtain⟨a1,b1,xs,M,e,r,t,q⟩:=q1;subst e;obtain⟨K,L,rfl,y,A⟩:=Vals.two x;cases y;cases A;obtain⟨E,G,v,_⟩:=c.tuple r;obtain⟨F,J,w,_⟩:=c.tuple t;refine IU v w λh1 l t1 u B C kp=>?_;refine wpAny_pyIter_zip (s:={s1 with heap:=h1}) l ?_;have m:Inv X pins σ f {s1 with heap:=h1}:=c.kept (t':=s1.toks) kp;refine⟨_,_,_,_,f,rfl,m,Lr a1 b1 s1.heap.objs.size,⟨l,t1,⟨_,_,u⟩,B,C⟩,λd hd=>?_,q⟩;have :s1.heap.objs.size<=d:=by simp only[eB,fH,or_false]at hd;rcases hd with z|z|z|z|z<;>rw[z]<;>first|exact Nat.le_add_right _ _|exact bJ _
 exact c.DR this (c.bX.fresh this)
section
variable{X:Cx}
theorem d9:jD X (.builtin "isinstance") (λxs H Q=>∃x t n b,xs=[x, .ty n]/\kb X.K H x t/\PySem.W.kitOne X.K t (.type n)=some b/\Q (.bl b) H):=by intro pins s σ H xs us Q I r h;obtain⟨x,t,n,b,rfl,ty,e,q⟩:=h;obtain⟨u,v,rfl,a,c⟩:=r.two;obtain rfl:v=Value.type n:=c;exact Jo I a ty e λtk=>⟨.bl b,H,I.tok tk,rfl,q⟩
theorem Ip:∀{bs:List Bool}{us:List Value},Vals (bs.map V.bl) us->∀(i:Nat)(u:Value),us[i]?=some u->u=Value.bool ((bs[i]?).getD true)|[],_, .nil,i,u,e=>by simp at e|b::bs,_, .cons r t,0,u,e=>by have r:_=Value.bool b:=r;simp at e;rw[<-e,r];rfl|b::bs,_, .cons r t,i+1,u,e=>by simpa using Ip t i u (by simpa using e)
theorem mD(hc:X.calm=true):jD X (.builtin "all") (λxs H Q=>∃(p:Addr)(bs:List Bool),xs=[.ref p]/\bN X.K H p (bs.map V.bl)/\Q (.bl (bs.all id)) H):=by
 intro pins s σ H xs us Q I r h;obtain⟨p,bs,rfl,hq,q⟩:=h;obtain⟨u,rfl,y⟩:=r.one;cases y;obtain⟨d,g,pl,C⟩:=I.list hq;have hl:=pl.isList;have lt:p<s.heap.objs.size:=by obtain⟨o,e,_⟩:=hl;exact bL e
 have w:∀a,X.A.in1.handled=some (.ref a)->a≠s.heap.objs.size:=λa c=>by
  rcases I.hb hc with z|⟨b,oe,vs,e1,e2,_⟩;·rw[show X.A.in1.handled=X.A.handled from rfl,z]at c;cases c
  ·rw[show X.A.in1.handled=X.A.handled from rfl,e1]at c;cases c;exact dN (bL e2)
 refine call_all_walk (wpAny_pyIter_list hl ?_);refine⟨s.heap.objs.size,_,[s.heap.objs.size],d.toArray.size,_,_,λi=>(bs[i]?).getD true,rfl,sS _ p (dN lt) d.toArray w,⟨⟨_,eD _ rfl,rfl,rfl⟩,hl.push _,(I.hb hc).mono λa o _ j=>bD _ j⟩,λi v s' B A k l=>?_,λh' tk m=>?_⟩;·have e:v= .bool ((bs[i]?).getD true):=Ip g i v (by simpa using k);subst e;exact kH l
 ·have e:((List.range d.toArray.size).all λi=>(bs[i]?).getD true)=bs.all id:=by
   have n:d.toArray.size=bs.length:=by rw[cM,<-g.length,c_]
   rw[n];clear n;rw[Bool.eq_iff_iff,List.all_eq_true,List.all_eq_true];constructor;·intro z x t;obtain⟨i,hi,rfl⟩:=List.mem_iff_getElem.mp t;have :=z i (by simpa using hi);simpa[hi]using this
   ·intro z i hi;have hi:i<bs.length:=by simpa using hi
    have :=z bs[i] (List.getElem_mem hi);simpa[hi]using this
  refine⟨.bl (bs.all id),H,I.kept (h':=h') (t':=tk) λb o f=>m b o (λhm=>?_) (bD _ f),by rw[e];rfl,q⟩;rw[List.mem_singleton.mp hm]at f;exact Nat.lt_irrefl _ (bL f)
end
structure gV(K:PySem.W.Frag)(a:Addr)(D:List (Str×V)):Prop where
 sys:(a==sysModules)=false
 ex:∃o es ep,K.lookup a=some o/\o.ExactDict/\o.data= .dict es ep/\KTD.Rows RelV es.toList D
section
variable{X:Cx}{pins:List (Addr×Obj)}{σ:L2.St}{H:Hp}{s:Shared}{a:Addr}{D:List (Str×V)}{k:Str}{tk:Tok}{A:Around}{E:Value->Shared->Prop}
theorem gV.typeIs(T:gV X.K a D)(I:Inv X pins σ H s):s.TypeIs (.ref a) "dict":=let⟨o,_,_,e,x,_⟩:=T.ex;⟨o,I.kS a o e,x.1⟩
theorem rm{Q:Option Value->Shared->Prop}(T:gV X.K a D)(I:Inv X pins σ H s)(h1:∀v u,KTD.datumAt k D=some v->RelV v u->Q (some u) {s with toks:=s.toks+1})(h2:KTD.datumAt k D=none->Q none {s with toks:=s.toks+1}):wpAny (model X.prog X.w) A (dictGet a (.str k tk)) Q E s:=by
 obtain⟨_,o,es,ep,n,_,g,f⟩:=T;have h:=I.kS a o n;unfold dictGet;try with_reducible refine gy ?_
 have j:(es.all λe=>isExactStrKey e.key)=true:=by obtain⟨l⟩:=es;simpa using f.exact
 refine aj (wpAny_pyHash_str (aj (KTD.kt_dictFind_strs (s:={s with toks:=s.toks+1}) h g j ?_)));have b:Q (findBy (λk v=>v.isStr k) es k) {s with toks:=s.toks+1}:=by
  have m:findBy (λk v=>v.isStr k) es k=(es.toList.find? λe=>e.key.isStr k).map (·.val):=by obtain⟨l⟩:=es;simp[findBy]
  rw[m];cases c:KTD.datumAt k D with|some d=>obtain⟨v,q,p⟩:=f.find_some c;rw[q];exact h1 d v c p|none=>rw[f.find_none c];exact h2 c
 rw[findBy_of_findIdx?]at b;cases hi:es.findIdx? λe=>e.key.isStr k with|none=>rw[hi]at b;exact aU b|some i=>rw[hi]at b;exact aj (wpAny_dictEntries (s:={s with toks:=s.toks+1}) h g (aU b))
theorem Ly{Q:Value->Shared->Prop}{v:V}(T:gV X.K a D)(I:Inv X pins σ H s)(hd:KTD.datumAt k D=some v)(h:∀u,RelV v u->Q u {s with toks:=s.toks+1}):wpAny (model X.prog X.w) A (getItem (.ref a) (.str k tk)) Q E s:=by
 have ty:=T.typeIs I;unfold getItem;try with_reducible refine gy ?_
 refine aj (wpAny_sequenceKey ty (by decide) ?_);refine aj (wpAny_callSpecial?_slot (name:=Str.ofString "__getitem__") ty slot_dict_getitem (iQ slot_dict_getitem ty entry_dict_getitem ?_ (args_dict_getitem _ _)));show wpAny (model X.prog X.w) _ (dictGet a (.str k tk)>>=_) _ _ s;refine aj (rm T I (λb u e r=>?_) λhn=>?_);·rw[hd]at e;cases e;exact aU ⟨u,rfl,aU (h u r)⟩
 ·rw[hd]at hn;cases hn
noncomputable def Kj(k:Str)(D:List (Str×V)):Bool:=(KTD.datumAt k D).isSome
theorem AQ{Q:Bool->Shared->Prop}(T:gV X.K a D)(I:Inv X pins σ H s)(h:Q (Kj k D) {s with toks:=s.toks+1}):wpAny (model X.prog X.w) A (contains (.ref a) (.str k tk)) Q E s:=by
 have ty:=T.typeIs I;unfold contains;try with_reducible refine gy ?_
 refine aj (wpAny_specialOf ty slot_dict_contains.lookup ?_);show wpAny (model X.prog X.w) _ (if(some (Value.builtin "dict.__contains__")==some Value.none)=true then _ else _) _ E s;rw[if_neg (by rw[beq_builtin_none];exact d5)];refine aj (wpAny_callSpecialUnlessNone?_slot (name:=Str.ofString "__contains__") ty slot_dict_contains (iQ slot_dict_contains ty entry_dict_contains ?_ (args_dict_contains _ _)));show wpAny (model X.prog X.w) _ (dictGet a (.str k tk)>>=_) _ _ s;refine aj (rm T I (λv u e _=>?_) λhn=>?_)
 ·have hb:Kj k D=true:=by unfold Kj;rw[e];rfl
  rw[hb]at h;show wpAny (model X.prog X.w) _ (ret (.bool true)) _ _ _;exact aU ⟨_,rfl,kH h⟩
 ·have hb:Kj k D=false:=by unfold Kj;rw[hn];rfl
  rw[hb]at h;show wpAny (model X.prog X.w) _ (Builtin.Dict.pendingKey? a (.str k tk)>>=_) _ _ _;exact aj (wpAny_pendingKey_other T.sys (aU ⟨_,rfl,kH h⟩))
end
section
variable{X:Cx}
theorem mJ:ji X (compareOp .NotIn) (λx y H Q=>∃k a D,x= .str k/\y= .ref a/\gV X.K a D/\Q (.bl (!Kj k D)) H):=by intro pins s σ H x y v u Q I b c h;obtain⟨k,a,D,rfl,rfl,T,q⟩:=h;obtain⟨t,rfl⟩:=b;cases c;show wpAny (model X.prog X.w) _ (do return Value.bool (!(<-contains (.ref a) (.str k t))):Sem Value) _ _ s;exact aj (AQ T I (aU ⟨.bl _,H,I.tok _,rfl,q⟩))
noncomputable def abo(K:PySem.W.Frag):R2:=λx y H Q=>∃a D k v,x= .ref a/\y= .str k/\gV K a D/\KTD.datumAt k D=some v/\Q v H
theorem Kr{o i:Expr}{m:Pos}{td ty:TE}(j:PE X o td)(hi:PE X i ty)(l:Vp i):PE X (.Subscript o i m) (Xa (abo X.K) td ty):=by intro pins s σ H Q I h;refine Hm PySem.F.slot_dict_getitem.lookup l (bQ (j pins s σ H _ I h) λu s1⟨x,c,f,n,q1⟩=>bQ (hi pins s1 σ c _ f q1) λw s2 q=>?_);obtain⟨y,d,b,p,a,D,k,v,ex,g,T,e,q2⟩:=q;subst ex g;cases n;obtain⟨t,rfl⟩:=p;exact⟨T.typeIs b,Ly T b e λu r=>⟨v,d,b.tok _,r,q2⟩⟩
end
end L3
end
section
namespace KM
open PySem
inductive D where|aP|bl(b:Bool)|int(i:Int)|str(x:Str)|tup(ds:List D)deriving Inhabited
mutual noncomputable def aJ:D->Nat| .tup ds=>1+aK ds| .aP=>0| .bl _=>0| .int _=>0| .str _=>0 noncomputable def aK:List D->Nat|[]=>0|d::r=>aJ d+aK r end
mutual noncomputable def depth:D->Nat| .tup ds=>1+aB ds| .aP=>0| .bl _=>0| .int _=>0| .str _=>0 noncomputable def aB:List D->Nat|[]=>0|d::r=>max (depth d) (aB r)end
noncomputable def isTup:D->Bool| .tup _=>true|_=>false
noncomputable def tk:D->List D| .tup ds=>ds.filter isTup|_=>[]
noncomputable def lv:Nat->List D->List D|0,l=>l|n+1,l=>lv n (l.flatMap tk)
theorem kx:∀l:List D,aK (l.filter isTup)=aK l|[]=>rfl|d::r=>by have a:=kx r;cases d<;>simp[isTup,List.filter_cons,aK,aJ,a]
theorem ko:∀l:List D,aB (l.filter isTup)=aB l|[]=>rfl|d::r=>by have a:=ko r;cases d<;>simp[isTup,List.filter_cons,aB,depth,a]
theorem tj:∀l r:List D,aK (l++r)=aK l+aK r|[],r=>by simp[aK]|d::l,r=>by simp[aK,tj l r];lia
theorem uO:∀l r:List D,aB (l++r)=max (aB l) (aB r)|[],r=>by simp[aB]|d::l,r=>by simp only[List.cons_append,aB,uO l r];exact(Nat.max_assoc _ _ _).symm
theorem KJ:∀d:D,isTup d=true->aJ d=1+aK (tk d)| .tup ds,_=>by simp[aJ,tk,kx]
theorem BL:∀d:D,isTup d=true->depth d=1+aB (tk d)| .tup ds,_=>by simp[depth,tk,ko]
theorem QJ(d:D):∀x∈tk d,isTup x=true:=by cases d<;>simp[tk]
theorem sg:∀l:List D,(∀x∈l,isTup x=true)->aK l=l.length+aK (l.flatMap tk)|[],_=>rfl|d::r,h=>by have h1:=sg r λx a=>h x (dX _ a);have h2:=KJ d (h d eC);simp only[List.flatMap_cons,tj,aK,hV];lia
theorem kG:∀l:List D,(∀x∈l,isTup x=true)->l≠[]->aB l=1+aB (l.flatMap tk)|[],_,h=>(h rfl).elim|[d],h,_=>by have h2:=BL d (h d eC);simp only[List.flatMap_cons,List.flatMap_nil,nX,aB];lia|d::e::r,h,_=>by have h1:=kG (e::r) (λx a=>h x (dX _ a)) (by simp);have h2:=BL d (h d eC);rw[List.flatMap_cons,uO];have h3:aB (d::e::r)=max (depth d) (aB (e::r)):=rfl;lia
theorem nD(l:List D):∀x∈l.flatMap tk,isTup x=true:=by intro x a;obtain⟨d,_,h⟩:=List.mem_flatMap.mp a;exact QJ d x h
theorem LA:∀n,lv n []=[]|0=>rfl|n+1=>by rw[lv,List.flatMap_nil];exact LA n
theorem qj:∀n l,lv (n+1) l=(lv n l).flatMap tk|0,l=>rfl|n+1,l=>by rw[lv,qj n,<-lv]
theorem FT:∀n l,(∀x∈l,isTup x=true)->∀x∈lv n l,isTup x=true|0,_,h=>h|n+1,l,_=>FT n _ (nD l)
noncomputable def f_:Nat->List D->Nat|0,_=>0|n+1,l=>f_ n l+(lv n l).length
theorem tR:∀n l,f_ (n+1) l=l.length+f_ n (l.flatMap tk)|0,l=>by simp[f_,lv]|n+1,l=>by have :=tR n l;simp only[f_]at this⊢;rw[show lv (n+1) l=lv n (l.flatMap tk)from rfl];lia
theorem kF:∀n l,(∀x∈l,isTup x=true)->aK l=f_ n l+aK (lv n l)|0,l,_=>by simp[f_,lv]|n+1,l,h=>by have h1:=sg l h;have h2:=kF n (l.flatMap tk) (nD l);rw[tR,show lv (n+1) l=lv n (l.flatMap tk)from rfl];lia
theorem so:∀n l,(∀x∈l,isTup x=true)->(lv n l=[]↔aB l<=n)
 |0,l,h=>by
  cases l with
   |nil=>simp[lv,aB]
   |cons d r=>
    have :=kG (d::r) h (by simp);simp only[lv];constructor;·intro q;cases q
    ·intro q;lia
 |n+1,l,h=>by cases l with|nil=>simp[LA,aB]|cons d r=>have h1:=kG (d::r) h (by simp);have h2:=so n ((d::r).flatMap tk) (nD _);rw[show lv (n+1) (d::r)=lv n ((d::r).flatMap tk)from rfl,h2];lia
theorem uk(n:Nat)(l:List D)(h:∀x∈l,isTup x=true):f_ n l<=aK l:=by have :=kF n l h;lia
theorem Je(l:List D)(h:∀x∈l,isTup x=true):(f_ 40 l<=600/\lv 40 l=[])↔(aK l<=600/\aB l<=40):=by
 rw[so 40 l h];have e:=kF 40 l h;constructor;·rintro⟨h1,h2⟩;rw[(so 40 l h).mpr h2]at e;simp only[aK]at e;exact⟨by lia,h2⟩
 ·rintro⟨h1,h2⟩;exact⟨by lia,h2⟩
end KM
end
section
namespace L3
open PySem PySem.Spec PyProof.Rows L2 KM
mutual/--v stands for d on the heap H -/noncomputable def Rep(H:Hp):D->V->Prop| .aP,v=>v= .aP| .bl b,v=>v= .bl b| .int i,v=>v= .int i| .str x,v=>v= .str x/\x.length<=1000| .tup ds,v=>∃a vs,v= .ref a/\H a=some (.tup vs)/\bE H ds vs noncomputable def bE(H:Hp):List D->List V->Prop|[],vs=>vs=[]|d::ds,vs=>∃v r,vs=v::r/\Rep H d v/\bE H ds r end
mutual theorem Rep.mono{H H':Hp}(h:aL H H'):∀{d:D}{v:V},Rep H d v->Rep H' d v| .aP,_,r=>r| .bl _,_,r=>r| .int _,_,r=>r| .str _,_,r=>r| .tup _,_,⟨a,vs,e,q,r⟩=>⟨a,vs,e,h _ _ q,bE.mono h r⟩theorem bE.mono{H H':Hp}(h:aL H H'):∀{ds:List D}{vs:List V},bE H ds vs->bE H' ds vs|[],_,r=>r|_::_,_,⟨v,r,e,q,t⟩=>⟨v,r,e,Rep.mono h q,bE.mono h t⟩end
theorem bE.length{H:Hp}:∀{ds:List D}{vs:List V},bE H ds vs->vs.length=ds.length|[],_,r=>by have r:_=[]:=r;rw[r];rfl|_::_,_,⟨v,r,e,q,t⟩=>by rw[e,hV,hV,bE.length t]
theorem bE.get{H:Hp}:∀{ds:List D}{vs:List V}{i:Nat}{d:D},bE H ds vs->ds[i]?=some d->∃v,vs[i]?=some v/\Rep H d v|[],_,_,_,_,e=>by simp at e|d::_,_,0,_,⟨v,r,e,q,t⟩,h=>by simp at h;subst h;exact⟨v,by rw[e];rfl,q⟩|_::ds,_,i+1,d,⟨v,r,e,q,t⟩,h=>by obtain⟨u,h1,h2⟩:=bE.get (i:=i) t (by simpa using h);exact⟨u,by rw[e];simpa using h1,h2⟩
theorem bE.get'{H:Hp}{ds:List D}{vs:List V}{i:Nat}{v:V}(r:bE H ds vs)(e:vs[i]?=some v):∃d,ds[i]?=some d/\Rep H d v:=by have hi:i<vs.length:=(List.getElem?_eq_some_iff.mp e).1;rw[r.length]at hi;obtain⟨u,h1,h2⟩:=r.get (d:=ds[i]) (i:=i) (by simp[hi]);rw[e]at h1;cases h1;exact⟨ds[i],by simp[hi],h2⟩
theorem bE.append{H:Hp}:∀{ds es:List D}{vs us:List V},bE H ds vs->bE H es us->bE H (ds++es) (vs++us)|[],_,_,_,r,q=>by have r:_=[]:=r;subst r;exact q|_::_,_,_,_,⟨v,r,e,p,t⟩,q=>by subst e;exact⟨v,r++_,rfl,p,bE.append t q⟩
theorem bE.one{H:Hp}{d:D}{v:V}(r:Rep H d v):bE H [d] [v]:=⟨v,[],rfl,r,rfl⟩
noncomputable def tyD:D->String| .aP=>"NoneType"| .bl _=>"bool"| .int _=>"int"| .str _=>"str"| .tup _=>"tuple"
theorem Rep.ty{K:PySem.W.Frag}{H:Hp}:∀{d:D}{v:V},Rep H d v->kb K H v (.type (tyD d))| .aP,_,r=>by cases(show _=V.aP from r);exact .aP| .bl b,_,r=>by cases(show _=V.bl b from r);exact .bl b| .int i,_,r=>by cases(show _=V.int i from r);exact .int i| .str x,_,r=>by cases(show _=V.str x from r.1);exact .str x| .tup _,_,⟨a,vs,e,q,_⟩=>by cases e;exact .tup q
noncomputable def ao:D->Bool| .str _=>true|_=>false
noncomputable def MW:D->Bool| .bl _=>true|_=>false
noncomputable def K6:D->Bool| .bl _=>true| .int _=>true|_=>false
theorem yh(K:PySem.W.Frag)(d:D):PySem.W.kitOne K (.type (tyD d)) (.type "tuple")=some (isTup d):=by cases d<;>rfl
theorem Vb(K:PySem.W.Frag)(d:D):PySem.W.kitOne K (.type (tyD d)) (.type "bool")=some (MW d):=by cases d<;>rfl
theorem O0(K:PySem.W.Frag)(d:D):PySem.W.kitOne K (.type (tyD d)) (.type "int")=some (K6 d):=by cases d<;>rfl
theorem ar{H:Hp}{p:Addr}(h:H p=none)(o:HO):aL H (upd H p o):=λb u q=>by rw[bf (aT q h)];exact q
end L3
end
section
namespace L3
open PySem PySem.Spec PyProof.Rows L2
theorem part_of{u:Value}{o:Option Int}(p:IsPart u o):∃q:Option (Int×Tok),u=partValue q/\q.map (·.1)=o:=by cases p with|none=>exact⟨none,rfl,rfl⟩|int i t=>exact⟨some (i,t),rfl,rfl⟩
noncomputable def abX(t u:TS):TS:=λD σ H=>∃M:L2.St->Hp->Prop,t {D with nx:=M} σ H/\∀a H',M a H'->u D a H'
theorem GC{X:Cx}{st:Stmt}{rest:List Stmt}{t u:TS}(h1:PS X st t)(h2:gT X rest u):gT X (st::rest) (abX t u):=by intro pins s σ H D I h;obtain⟨M,h,c⟩:=h;refine wpAny_execs_cons (bQ (h1 pins s σ H {D with nx:=M} I h) λf s1 q=>?_);cases f with|next=>obtain⟨a,H',b,q⟩:=q;exact h2 pins s1 a H' D b (c a H' q)|ret v=>exact q|brk=>exact q|cont=>exact q
theorem jz{J:It}{g:TG}{tb:TS}{D:Ends}{σ:L2.St}{H:Hp}(n:Nat)(Pv:Nat->L2.St->Hp->Prop)(j:Pv 0 σ H)(k:∀i σ H,i<n->Pv i σ H->J.go i H/\∀x H',J.wM i H x H'->g x σ H' λc a=>tb {D with nx:=Pv (i+1),ct:=Pv (i+1),bk:=D.nx} c a)(hd:∀σ H,Pv n σ H->J.stop n H/\D.nx σ H):∃W:Nat->Nat->L2.St->Hp->Prop,(∃m,W 0 m σ H)/\∀i m σ H,W i m σ H->(J.stop i H/\D.nx σ H)\/(J.go i H/\∃N:L2.St->Hp->Prop,(∀b H',N b H'->∃e,e<m/\W (i+1) e b H')/\∀x H',J.wM i H x H'->g x σ H' λc a=>tb {D with nx:=N,ct:=N,bk:=D.nx} c a):=by
 refine⟨λi m σ H=>m=n-i/\i<=n/\Pv i σ H,⟨n,by simp,d4 _,j⟩,?_⟩;rintro i m σ H⟨rfl,hi,p⟩;by_cases d:i<n;·obtain⟨f,h⟩:=k i σ H d p;exact .inr ⟨f,Pv (i+1),λb H' l=>⟨n-(i+1),by lia,rfl,d,l⟩,h⟩
 ·obtain rfl:i=n:=by lia
  exact .inl (hd σ H p)
def bO(p:Addr)(H H':Hp):Prop:=∀b o,b≠p->H b=some o->H' b=some o
theorem bO.trans{p:Addr}{H d e:Hp}(a:bO p H d)(b:bO p d e):bO p H e:=λc o n h=>b c o n (a c o n h)
theorem _root_.L2.aL.x{p:Addr}{H H':Hp}(a:aL H H'):bO p H H':=λc o _ h=>a c o h
theorem bO.upd{p:Addr}{H:Hp}(o:HO):bO p H (upd H p o):=λb u n h=>by rw[bf n];exact h
mutual theorem Rep.ja{p:Addr}{H H':Hp}(h:bO p H H')(hp:∀vs,H p≠some (.tup vs)):∀{d:KM.D}{v:V},Rep H d v->Rep H' d v| .aP,_,r=>r| .bl _,_,r=>r| .int _,_,r=>r| .str _,_,r=>r| .tup _,_,⟨a,vs,e,q,r⟩=>⟨a,vs,e,h _ _ (λz=>hp vs (by rw[<-z];exact q)) q,bE.ja h hp r⟩theorem bE.ja{p:Addr}{H H':Hp}(h:bO p H H')(hp:∀vs,H p≠some (.tup vs)):∀{ds:List KM.D}{vs:List V},bE H ds vs->bE H' ds vs|[],_,r=>r|_::_,_,⟨v,r,e,q,t⟩=>⟨v,r,e,Rep.ja h hp q,bE.ja h hp t⟩end
section
variable{prog:Program}{w:World}{A:Around}{E:Value->Shared->Prop}{s:Shared}{d:Addr}{o:Obj}{es:Array DictEntry}{ep:Nat}{Kf:Int}
theorem A2{i:Nat}{e:DictEntry}(a:(es.all λe=>isExactStrKey e.key)=true)(h:es[i]?=some e):∃x t,e.key= .str x t:=by have z:=Array.all_eq_true_iff_forall_mem.mp a e (Array.mem_of_getElem? h);cases q:e.key with|str x t=>exact⟨x,t,rfl⟩|_=>rw[q]at z;cases z
theorem tN(b:(es.all λe=>isExactStrKey e.key)=true)(l:List Nat):∀v∈l.filterMap (λi=>es[i]?.map (·.key)),∃x t,v= .str x t:=λv c=>by
 obtain⟨i,_,hi⟩:=List.mem_filterMap.mp c;cases a:es[i]? with
  |none=>rw[a]at hi;cases hi
  |some e=>
   rw[a]at hi;obtain⟨x,t,z⟩:=A2 b a;have hi:e.key=v:=by simpa using hi
   exact⟨x,t,by rw[<-hi,z]⟩
theorem find_none{Q:Option Nat->Shared->Prop}(a:s.heap.get? d=some o)(hd:o.data= .dict es ep)(b:(es.all λe=>isExactStrKey e.key)=true)(h:Q none s):wpAny (model prog w) A (dictFind d .none Kf) Q E s:=by
 have g:=tN b (placesWithHash es.size (λi=>es[i]?.map (·.hash)) Kf);unfold dictFind;try with_reducible refine gy ?_
 refine aj (wpAny_dictEntries a hd ?_);dsimp only;rw[if_pos (by
  rw[List.all_cons,List.all_eq_true.mpr];·rfl
  ·intro v j;obtain⟨x,t,rfl⟩:=g v j;rfl)];unfold dictWalkPlain;refine aj ?_;refine wpAny_forIn_list _ (λrest r s'=>s'=s/\r=(none,())) _ ?_ ?_ _ _ ⟨rfl,rfl⟩
 ·rintro i rest r s'⟨rfl,rfl⟩;cases f:es[i]? with
   |none=>exact aU ⟨rfl,rfl⟩
   |some e=>
    dsimp only;obtain⟨x,t,c⟩:=A2 b f;by_cases hh:(e.hash==Kf)=true;·rw[if_pos hh,c];refine aj (wpAny_dictEpoch a hd (aj (SeqAt.EqAt.str_none x t prog w E _ (aj (wpAny_dictEpoch a hd ?_)))));rw[if_neg (by simp)];exact aj (wpAny_rule (aU ⟨rfl,rfl⟩))
    ·rw[if_neg hh];exact aU ⟨rfl,rfl⟩
 ·rintro r s'⟨rfl,rfl⟩;exact aU h
theorem CU{a:Addr}{n:Nat}{Q:Bool->Shared->Prop}(ht:s.heap.IsTuple a #[])(h:Q true s):wpAny (model prog w) A (eqIsQuiet (n+1) (.ref a)) Q E s:=by obtain⟨f,c,ca,e,b⟩:=id ht;unfold eqIsQuiet;refine aj (wpAny_specialOf ht.typeIs F.slot_tuple_eq.lookup ?_);dsimp only;refine aj (wpAny_isInstance ht.typeIs isSubtype_tuple_tuple ?_);simp only[Bool.not_true,pW,if_false];refine aj (wpAny_seqItems c b ?_);exact aU h
theorem BF{a:Addr}{stored:List Value}{Q:Bool->Shared->Prop}(ht:s.heap.IsTuple a #[])(c:∀v∈stored,∃x t,v=Value.str x t)(h:Q false s):wpAny (model prog w) A (tableMayTell (.ref a) stored) Q E s:=by
 unfold tableMayTell;split;·exact aU h
 ·refine aj (CU ht ?_);simp only[Bool.not_true,pW,if_false];refine aj ?_;refine wpAny_forIn_list _ (λrest r s'=>s'=s/\r=(none,())/\∀v∈rest,∃x t,v=Value.str x t) _ ?_ ?_ _ _ ⟨rfl,rfl,c⟩;·rintro v rest r s'⟨rfl,rfl,b⟩;obtain⟨x,t,rfl⟩:=b v eC;refine aj (wpAny_of_eq (eqIsQuiet_byValue 8 rfl) ?_);simp only[Bool.not_true,pW,if_false];exact aU ⟨rfl,rfl,λv e=>b v (dX _ e)⟩
  ·rintro r s'⟨rfl,rfl,_⟩;exact aU h
theorem EB{a:Addr}{Q:Option Nat->Shared->Prop}(m:A.units<cLine)(f:s.heap.get? d=some o)(hd:o.data= .dict es ep)(c:(es.all λe=>isExactStrKey e.key)=true)(ht:s.heap.IsTuple a #[])(h:Q none s):wpAny (model prog w) A (dictFind d (.ref a) Kf) Q E s:=by
 have g:=tN c (placesWithHash es.size (λi=>es[i]?.map (·.hash)) Kf);unfold dictFind;try with_reducible refine gy ?_
 refine aj (wpAny_dictEntries f hd ?_);dsimp only;rw[if_neg (show¬((Value.ref a::(placesWithHash es.size (λi=>es[i]?.map (·.hash)) Kf).filterMap (λi=>es[i]?.map (·.key))).all carriedByValue)=true by simp[carriedByValue])];have j:¬(es.any λe=>e.key==Value.ref a&&e.hash !=Kf)=true:=by intro z;obtain⟨i,hi,q⟩:=Array.any_eq_true.mp z;obtain⟨x,t,b⟩:=A2 c (Array.getElem?_eq_getElem hi);rw[b]at q;cases q
 rw[if_neg j];generalize n:(placesWithHash es.size (λi=>es[i]?.map (·.hash)) Kf).filterMap (λi=>es[i]?.map (·.key))=stored at g⊢;have loop:wpAny (model prog w) A (if(false&&decide (stored.length>=2))=true then unsupported "dict.find:order-among-keys-of-one-hash"else pure ()) (λ_ s'=>s'=s) E s:=by rw[if_neg (by simp)];exact aU rfl
 have l:¬(stored==[Value.ref a])=true:=λz=>by
  have z:stored=[Value.ref a]:=by simpa using z
  obtain⟨x,t,q⟩:=g (Value.ref a) (by rw[z];simp);cases q
 rw[if_neg l];refine aj (BF ht g ?_);rw[if_neg (by simp)];refine aj ?_;refine wpAny_forIn_list _ (λrest r s'=>s'=s/\r=(none,none)) _ ?_ ?_ _ _ ⟨rfl,rfl⟩
 ·rintro i rest r s'⟨rfl,rfl⟩;cases k:es[i]? with
   |none=>exact aU ⟨rfl,rfl⟩
   |some e=>
    dsimp only;obtain⟨x,t,b⟩:=A2 c k;by_cases hh:(e.hash==Kf)=true;·rw[if_pos hh,b];refine aj (wpAny_dictEpoch f hd (aj (SeqAt.EqAt.str_tuple x t ht m prog w E _ (aj (wpAny_dictEpoch f hd ?_)))));rw[if_neg (by simp)];refine aj (wpAny_rule ?_);exact aU ⟨rfl,rfl⟩
    ·rw[if_neg hh];exact aU ⟨rfl,rfl⟩
 ·rintro r s'⟨rfl,rfl⟩;exact aU h
theorem JG{Q:Int->Shared->Prop}(a:A.units<cLine)(h:∀i t,Q i {s with toks:=t}):wpAny (model prog w) A (pyHash .none) Q E s:=by have ty:s.TypeIs .none "NoneType":=rfl;unfold pyHash pyHashByItsType;refine aj (wpAny_cRoomFor_or (.inr a) ?_);refine aj (wpAny_specialOf ty F.slot_NoneType_hash.lookup ?_);show wpAny (model prog w) _ (if(some (Value.builtin "NoneType.__hash__")==some Value.none)=true then _ else _) Q E s;rw[if_neg (by rw[beq_builtin_none];exact d5)];refine aj (wpAny_specialOf ty F.slot_NoneType_hash.lookup ?_);show wpAny (model prog w) _ (callSpecialIfBoundUnlessNone? .none "__hash__" _>>=_) Q E s;refine aj (wpAny_callSpecialIfBoundUnlessNone?_slot ty F.slot_NoneType_hash (iQ F.slot_NoneType_hash ty F.entry_NoneType_hash ?_ (F.args_NoneType_hash_1 _)));show wpAny (model prog w) _ (retInt 0xFCA86420) _ _ _;refine wpAny_ret_mkInt ?_;show wpAny (model prog w) _ (if(decide (-(2:Int)^63<=0xFCA86420)&&decide ((0xFCA86420:Int)<2^63))=true then _ else _) Q E _;rw[if_pos (by decide)];exact aU (h _ _)
end
section
variable{X:Cx}{pins:List (Addr×Obj)}{σ:L2.St}{H:Hp}{s:Shared}{a:Addr}{D:List (Str×V)}{A:Around}{E:Value->Shared->Prop}
def FJ(H:Hp)(x:V):Prop:=x= .aP\/∃b,x= .ref b/\H b=some (.tup [])
theorem zg{x:V}{u:Value}{Q:Bool->Shared->Prop}(c:A.units+1<cLine)(T:gV X.K a D)(I:Inv X pins σ H s)(k:FJ H x)(r:RelV x u)(h:∀t,Q false {s with toks:=t}):wpAny (model X.prog X.w) A (contains (.ref a) u) Q E s:=by
 have ty:=T.typeIs I;obtain⟨sys,o,es,ep,m,_,f,n⟩:=T;have g:=I.kS a o m;have d:(es.all λe=>isExactStrKey e.key)=true:=by obtain⟨l⟩:=es;simpa using n.exact
 unfold contains;try with_reducible refine gy ?_
 refine aj (wpAny_specialOf ty slot_dict_contains.lookup ?_);show wpAny (model X.prog X.w) _ (if(some (Value.builtin "dict.__contains__")==some Value.none)=true then _ else _) _ E s;rw[if_neg (by rw[beq_builtin_none];exact d5)];refine aj (wpAny_callSpecialUnlessNone?_slot (name:=Str.ofString "__contains__") ty slot_dict_contains (iQ slot_dict_contains ty entry_dict_contains ?_ (args_dict_contains _ _)));show wpAny (model X.prog X.w) _ (dictGet a u>>=_) _ _ s;refine aj ?_;unfold dictGet;try with_reducible refine gy ?_
 rcases k with rfl|⟨b,rfl,hb⟩;·cases r;refine aj (JG (by show A.units+1<cLine;exact c) λi t=>aj (find_none (s:={s with toks:=t}) g f d ?_));refine aU ?_;show wpAny (model X.prog X.w) _ (Builtin.Dict.pendingKey? a .none>>=_) _ _ _;exact aj (wpAny_pendingKey_other sys (aU ⟨_,rfl,kH (h t)⟩))
 ·cases r;obtain⟨_,w,v,p⟩:=I.bX b _ hb;cases v;have ht:s.heap.IsTuple b #[]:=p;refine aj (wpAny_pyHash_tuple (knd:=c8 X.prog X.w) (ks:=[]) (by show A.units+1<cLine;exact c) ?_ (aj (EB (by show A.units+1<cLine;exact c) (s:={s with toks:=s.toks+1}) g f d ht ?_)));·obtain⟨ob,e1,c1,q,j⟩:=ht;exact⟨ob,#[],q,e1,c1,j, .nil⟩
  ·refine aU ?_;show wpAny (model X.prog X.w) _ (Builtin.Dict.pendingKey? a (.ref b)>>=_) _ _ _;exact aj (wpAny_pendingKey_other sys (aU ⟨_,rfl,kH (h _)⟩))
theorem yL{X:Cx}(b:X.A.units+1<cLine):ji X (compareOp .NotIn) (λx y H Q=>∃a D,y= .ref a/\gV X.K a D/\FJ H x/\Q (.bl true) H):=by intro pins s σ H x y v u Q I c d h;obtain⟨a,D,rfl,T,k,q⟩:=h;cases d;show wpAny (model X.prog X.w) _ (do return Value.bool (!(<-contains (.ref a) v)):Sem Value) _ _ s;exact aj (zg b T I k c λt=>aU ⟨.bl true,H,I.tok _,rfl,q⟩)
end
end L3
end
section
namespace L3
open PySem L2
section
variable{prog:Program}{w:World}{A:Around}{E:Value->Shared->Prop}{s:Shared}
theorem WD{it t:Addr}{i:Nat}{d:Array Value}{x:Value}{Q:Value->Shared->Prop}(c:s.heap.IsListIter it t i)(gt:s.heap.IsList t d)(h:d[i]?=some x)(j:∀h',h'.IsListIter it t (i+1)->Heap.SameBut it s.heap h'->Q x {s with heap:=h'}):wpAny (model prog w) A (Builtin.SmallTypes.nextOf (.ref it)) Q E s:=by obtain⟨l,b,e,a⟩:=id c;obtain⟨m,g,_,k,f⟩:=gt;unfold Builtin.SmallTypes.nextOf;refine aj (wpAny_callSpecial?_slot (name:=Str.ofString "__next__") c.typeIs slot_listiter_next (iQ slot_listiter_next c.typeIs entry_listiter_next ?_ (args_listiter_next _)));show wpAny (model prog w) _ (field (.ref it) 0>>=_) _ _ s;refine aj (dy b a (x:= .ref t) rfl ?_);show wpAny (model prog w) _ (if(Value.ref t==Value.none)=true then _ else _) _ _ s;rw[if_neg (show¬(Value.ref t==Value.none)=true from d5)];show wpAny (model prog w) _ (field (.ref it) 1>>=_) _ _ s;refine aj (dy b a (x:= .int i 0) rfl ?_);show wpAny (model prog w) _ (seqItems? (.ref t)>>=_) _ _ s;refine aj (wpAny_seqItems g f ?_);simp only[Int.toNat_natCast,h];refine aj (wpAny_setField b a (by simp) (aU ⟨x,rfl,aU (j _ ?_ (Heap.SameBut.update ..))⟩));refine⟨_,uW _ b (Obj.isFreed_of_fields (Obj.data_mapFields a _)),(Obj.cls_mapFields ..).trans e,?_⟩;rw[Obj.data_mapFields a];simp[rawInt]
theorem EL{it t:Addr}{i:Nat}{f:Array Value}{Q:Value->Shared->Prop}(hb:HB s.heap A)(n:∀a,A.handled=some (.ref a)->a≠it)(d:s.heap.IsListIter it t i)(gt:s.heap.IsList t f)(j:f[i]?=none)(l:∀h' e,Heap.ExtBut it s.heap h'->(∃o,h'.get? e=some o/\o.cls= .type "StopIteration")->E (.ref e) {s with heap:=h'}):wpAny (model prog w) A (Builtin.SmallTypes.nextOf (.ref it)) Q E s:=by obtain⟨r,c,p,b⟩:=id d;obtain⟨u,h,_,q,g⟩:=gt;unfold Builtin.SmallTypes.nextOf;refine aj (wpAny_callSpecial?_slot (name:=Str.ofString "__next__") d.typeIs slot_listiter_next (iQ slot_listiter_next d.typeIs entry_listiter_next ?_ (args_listiter_next _)));show wpAny (model prog w) _ (field (.ref it) 0>>=_) _ _ s;refine aj (dy c b (x:= .ref t) rfl ?_);show wpAny (model prog w) _ (if(Value.ref t==Value.none)=true then _ else _) _ _ s;rw[if_neg (show¬(Value.ref t==Value.none)=true from d5)];show wpAny (model prog w) _ (field (.ref it) 1>>=_) _ _ s;refine aj (dy c b (x:= .int i 0) rfl ?_);show wpAny (model prog w) _ (seqItems? (.ref t)>>=_) _ _ s;refine aj (wpAny_seqItems h g ?_);simp only[Int.toNat_natCast,j];refine aj (wpAny_rule (aj (wpAny_setField c b (by simp) ?_)));exact eX (A:=A.in1) (hb.upd n) λh' e k m=>l h' e (j9 k) m
end
theorem hZ{prog:Program}{w:World}{A:Around}(it t:Addr)(ne:t≠it)(f:∀a,A.handled=some (.ref a)->a≠it)(c:Array Value):Draws prog w A it (it::t::gA A) c.size (λi v=>c[i]?=some v) (λi h=>h.IsListIter it t i/\h.IsList t c/\HB h A)where
 live:=λ_ _ st=>let⟨o,p,_⟩:=st.1;⟨o,p⟩;frame:=λi h h' st d=>by obtain⟨⟨g,e1,r⟩,⟨j,e2,u⟩,hb⟩:=st;exact⟨⟨g,d it (by simp) g e1,r⟩,⟨j,d t (by simp) j e2,u⟩,hb.frame λb hb=>d b (by simp[hb])⟩
 item:=λi s Q E hi st n=>by refine WD st.1 st.2.1 (x:=c[i]) (by simp[hi]) λh' q e=>?_;exact n _ h' s.toks (by simp[hi]) ⟨q,st.2.1.extBut e.extBut ne,st.2.2.mono λa o k l=>e.extBut a o (f a k) l⟩ e
 done:=λs Q E st m=>EL st.2.2 f st.1 st.2.1 (by simp) m
noncomputable abbrev zl1(h:Heap)(a:Addr):Heap:=h.push {cls:= .type "list_iterator",data:= .fields #[.ref a, .int 0 0]}
noncomputable abbrev zl2(h:Heap)(a b:Addr):Heap:=(zl1 h a).push {cls:= .type "list_iterator",data:= .fields #[.ref b, .int 0 0]}
noncomputable abbrev zl3(h:Heap)(a b:Addr):Heap:=(zl2 h a b).push {cls:= .type "tuple",data:= .seq #[.ref h.objs.size, .ref (zl1 h a).objs.size]}
noncomputable abbrev zl4(h:Heap)(a b:Addr):Heap:=(zl3 h a b).push {cls:= .type "tuple",data:= .seq #[.none, .none]}
noncomputable abbrev W6(h:Heap)(a b:Addr):Heap:=(zl4 h a b).push {cls:= .type "zip",data:= .fields #[.none, .bool false, .bool false, .ref (zl2 h a b).objs.size, .ref (zl3 h a b).objs.size]}
theorem Fj(a b:Addr)(xs e:Array Value):Meets (Builtin.«zip.__new__» ⟨[.type "zip", .ref a, .ref b],[]⟩) (λ_ R s=>s.heap.IsList a xs/\s.heap.IsList b e/\R (.ok (.ret (.ref (zl4 s.heap a b).objs.size))) {s with heap:=W6 s.heap a b}):= .of_wp λprog w A R s h=>by obtain⟨c,g,d,tk,os⟩:=s;obtain⟨f,i,h⟩:=h;have j:=sub_zip;have t1:Heap.IsList (Shared.heap ⟨c,g,d,tk,os⟩) a xs:=f;have t2:Heap.IsList (Shared.heap ⟨c.push {cls:= .type "list_iterator",data:= .fields #[.ref a, .int 0 0]},g,d,tk,os⟩) b e:=Heap.IsList.push i _;wp_walk using wpAny_pyIter_list t1,wpAny_pyIter_list t2;exact⟨_,rfl,h⟩
section
variable{prog:Program}{w:World}{A:Around}{E:Value->Shared->Prop}{s:Shared}
theorem IE{a b:Addr}{xs i:Array Value}{Q:Value->Shared->Prop}(j:s.heap.IsList a xs)(k:s.heap.IsList b i)(h:∀h',IsZip h' (s.heap.objs.size+4) (s.heap.objs.size+2) (s.heap.objs.size+3) .none->IsPair h' (s.heap.objs.size+2) (.ref s.heap.objs.size) (.ref (s.heap.objs.size+1))->IsPair h' (s.heap.objs.size+3) .none .none->h'.IsListIter s.heap.objs.size a 0->h'.IsListIter (s.heap.objs.size+1) b 0->(∀c o,s.heap.get? c=some o->h'.get? c=some o)->Q (.ref (s.heap.objs.size+4)) {s with heap:=h'}):wpAny (model prog w) A (call (.type "zip") [.ref a, .ref b]) Q E s:=by
 refine callType_new F.called_zip (by decide) (F.typeCall_zip_2 _ _) (F.newCall_zip_2 _ _) (λobj=>F.args_object_init_3 obj _ _) F.entry_zip_new (Fj a b xs i) ⟨j,k,?_⟩;have e1:(zl1 s.heap a).objs.size=s.heap.objs.size+1:=mZ ..;have e2:(zl2 s.heap a b).objs.size=s.heap.objs.size+2:=by rw[mZ,e1]
 have d:(zl3 s.heap a b).objs.size=s.heap.objs.size+3:=by rw[mZ,e2]
 have e4:(zl4 s.heap a b).objs.size=s.heap.objs.size+4:=by rw[mZ,d]
 have p5:(W6 s.heap a b).get? (zl4 s.heap a b).objs.size=some _:=eD _ rfl;have g:(W6 s.heap a b).get? (zl3 s.heap a b).objs.size=some _:=bD _ (eD _ rfl);have f:(W6 s.heap a b).get? (zl2 s.heap a b).objs.size=some _:=bD _ (bD _ (eD _ rfl));have e:(W6 s.heap a b).get? (zl1 s.heap a).objs.size=some _:=bD _ (bD _ (bD _ (eD _ rfl)));have l:(W6 s.heap a b).get? s.heap.objs.size=some _:=bD _ (bD _ (bD _ (bD _ (eD _ rfl))));show _/\_;rw[e2,d,e4]at p5;rw[e1,e2]at f;rw[d]at g;rw[e1]at e;rw[e4];refine⟨⟨_,p5,rfl⟩,h _ p5 f g ⟨_,l,rfl,rfl⟩ ⟨_,e,rfl,rfl⟩ λc o q=>?_⟩;exact bD _ (bD _ (bD _ (bD _ (bD _ q))))
end
end L3
end
section
namespace L3
open PySem PySem.Spec PyProof.Rows L2
theorem nI{X:Cx}{pins:List (Addr×Obj)}{σ:L2.St}{H:Hp}{s:Shared}{a d:Addr}{xs:List V}(I:Inv X pins σ H s)(q:bN X.K H a xs)(f:kK X pins H d):a≠d:=λz=>by
 subst z;rcases q with(q|⟨o,q⟩)|⟨o,_,_,q,_⟩;·rw[f.1]at q;cases q
 ·rw[f.1]at q;cases q
 ·have e:=I.ok.mod.JA a o q;rcases f.2.2.2.1 with z|z;·exact I.ok.pS a o e z
  ·exact absurd (gd (bL e) I.ok.Ba) (Nat.not_lt.mpr z)
noncomputable def aai(K:PySem.W.Frag)(a b:Addr):It:=⟨λi H=>∃xs c x y,bN K H a xs/\bN K H b c/\xs[i]?=some x/\c[i]?=some y,λi H v H'=>∃p x y,v= .ref p/\H p=none/\H'=upd H p (.tup [x,y])/\∀xs c,bN K H a xs->bN K H b c->xs[i]?=some x/\c[i]?=some y,λi H=>∃xs c,bN K H a xs/\bN K H b c/\xs.length=i⟩
structure Xp(a b z TI TO i1 i2:Addr)(i:Nat)(h:Heap):Prop where
 z:IsZip h z TI TO .none
 TI:IsPair h TI (.ref i1) (.ref i2)
 TO:∃u v,IsPair h TO u v
 i1:h.IsListIter i1 a i
 i2:h.IsListIter i2 b i
theorem IF{P:Program}{w:World}{K:PySem.W.Frag}{es:List Expr}{k:Nat}{pos:Pos}(a b n:Nat):Turn P w K (.Tuple es k pos) (aai K a b) [n+4,n+2,n+3,n,n+1] (n+4) (Xp a b (n+4) (n+2) (n+3) n (n+1))where
 mem:=by simp
 obj:=λi h st c hc=>by
  simp only[eB,fH,or_false]at hc;obtain⟨r,e1,_,d1⟩:=st.i1;obtain⟨J,e2,_,d2⟩:=st.i2;obtain⟨u,v,m⟩:=st.TO;rcases hc with rfl|rfl|rfl|rfl|rfl;·exact⟨_,st.z,λv q=>by cases q⟩
  ·exact⟨_,st.TI,λv q=>by cases q⟩
  ·exact⟨_,m,λv q=>by cases q⟩
  ·exact⟨r,e1,λv q=>by rw[d1]at q;cases q⟩
  ·exact⟨J,e2,λv q=>by rw[d2]at q;cases q⟩
 keep:=λi h h' st kp=>by obtain⟨r,e1,r1⟩:=st.i1;obtain⟨J,e2,r2⟩:=st.i2;obtain⟨u,v,m⟩:=st.TO;exact⟨kp _ (by simp) _ st.z,kp _ (by simp) _ st.TI,⟨u,v,kp _ (by simp) _ m⟩,⟨r,kp _ (by simp) _ e1,r1⟩,⟨J,kp _ (by simp) _ e2,r2⟩⟩
 item:=by
  intro X C hw B hc i pins s σ H E I hf st D;subst C hw B;obtain⟨xs,ys,x,y,q1,q2,U,V⟩:=D;obtain⟨p,M,L,_⟩:=I.list q1;obtain⟨F,Yx,p2,_⟩:=I.list q2;obtain⟨N,R,M9⟩:=M.get U;obtain⟨O,S,T6⟩:=Yx.get V;obtain⟨u,v,m⟩:=st.TO;have W:=bL st.z;have l1:i<p.toArray.size:=by rw[cM];exact(List.getElem?_eq_some_iff.mp R).1
  have l2:i<F.toArray.size:=by rw[cM];exact(List.getElem?_eq_some_iff.mp S).1
  have g:∀d∈[n+4,n+2,n+3,n,n+1],a≠d:=λd hd=>nI I q1 (hf d hd);have l:∀d∈[n+4,n+2,n+3,n,n+1],b≠d:=λd hd=>nI I q2 (hf d hd);have j:jv (n+4) (n+2) (n+3) n (n+1) (n::a::gA X.A.in1) ((n+1)::b::gA X.A.in1):=by have G:∀d∈[n+4,n+2,n+3,n,n+1],d∉gA X.A.in1:=λd hd z=>I.EG hc (hf d hd).2.2.2.1 (hf d hd).2.2.2.2.2 d (gY z) rfl;have a1:=g (n+4) (by simp);have a2:=g (n+3) (by simp);have a3:=g (n+1) (by simp);have b1:=l (n+4) (by simp);have b2:=l (n+3) (by simp);have b3:=l n (by simp);constructor<;>(try simp only[eB,not_or])<;>first|lia|exact⟨by lia,by lia,G _ (by simp)⟩
  have t:∀d∈[n+4,n+2,n+3,n,n+1],∀a,X.A.in1.handled=some (.ref a)->a≠d:=λd hd=>I.EG hc (hf d hd).2.2.2.1 (hf d hd).2.2.2.2.2;refine wZ (hZ n a (g n (by simp)) (t n (by simp)) p.toArray) (hZ (n+1) b (l (n+1) (by simp)) (t (n+1) (by simp)) F.toArray) j st.z st.TI m ⟨st.i1,L.isList,I.hb hc⟩ ⟨st.i2,p2.isList,I.hb hc⟩ l1 l2 λY Z h1 tk e1 e2 z1 r s1 s2 pr kp=>?_;have e1:p.toArray[i]?=some Y:=e1;have e2:F.toArray[i]?=some Z:=e2;have ex:N=Y:=by rw[List.getElem?_toArray,R]at e1;exact Option.some.inj e1
  have ey:O=Z:=by rw[List.getElem?_toArray,S]at e2;exact Option.some.inj e2
  subst ex ey;refine⟨_,rfl,wpAny_letOwnedTupleGo_zip (s:={s with heap:=h1,toks:=tk}) z1 λh2 z2 sb=>?_⟩;have lt:∀d∈[n+4,n+2,n+3,n,n+1],d<s.heap.objs.size:=λd hd=>by
   have :d<=n+4:=by simp at hd;lia
   exact Nat.lt_of_le_of_lt this W
  have up:∀c o,c≠n+4->h1.get? c=some o->h2.get? c=some o:=λc o f e=>(sb.2 c f).trans e;have prT:h2.get? s.heap.objs.size=some {cls:= .type "tuple",data:= .seq #[N,O]}:=up _ _ (Nat.ne_of_gt W) pr;refine⟨.ref s.heap.objs.size,_,nB (s:=s) (h':=h2) (t':=tk) (ch:=[n+4,n+3,n,n+1]) (T:=s.heap.objs.size) (o:= .tup [x,y]) I (λc o f e=>?_) (λd hd=>hf d (by simp only[eB,fH,or_false]at hd⊢;rcases hd with z|z|z|z<;>simp[z])) (bJ _) ?_,rfl,⟨_,x,y,rfl,I.bX.fresh (bJ _),rfl,λxs' ys' a1 a2=>?_⟩,?_,λd hd=>?_⟩;·simp only[eB,fH,or_false,not_or]at f;exact up c o f.1 (kp c o f.1 f.2.1 f.2.2.1 f.2.2.2 e)
  ·exact⟨(dw rfl),[N,O], .cons M9 (.cons T6 .nil),⟨_,prT,rfl,_,rfl⟩⟩
  ·rw[I.lY a1 q1,I.lY a2 q2];exact⟨U,V⟩
  ·obtain⟨⟨oa,ea,ra⟩,_⟩:=s1;obtain⟨⟨ob,eb,rb⟩,_⟩:=s2;refine⟨z2,up _ _ j.TIz (kp _ _ j.TIz j.TITO j.TI1 j.TI2 st.TI),⟨_,_,up _ _ (by lia) r⟩,⟨oa,up _ _ (by lia) ea,ra⟩,⟨ob,up _ _ (by lia) eb,rb⟩⟩
  ·rw[bf (dN (lt d hd))];exact(hf d hd).1
 done:=by
  intro X C hw B hc i pins s σ H E I hf st D;subst C hw B;obtain⟨xs,ys,q1,q2,hl⟩:=D;obtain⟨p,M,L,_⟩:=I.list q1;obtain⟨u,v,m⟩:=st.TO;have g:∀d∈[n+4,n+2,n+3,n,n+1],a≠d:=λd hd=>nI I q1 (hf d hd);have l:∀d∈[n+4,n+2,n+3,n,n+1],b≠d:=λd hd=>nI I q2 (hf d hd);have j:jv (n+4) (n+2) (n+3) n (n+1) (n::a::gA X.A.in1) ((n+1)::b::gA X.A.in1):=by have G:∀d∈[n+4,n+2,n+3,n,n+1],d∉gA X.A.in1:=λd hd z=>I.EG hc (hf d hd).2.2.2.1 (hf d hd).2.2.2.2.2 d (gY z) rfl;have a1:=g (n+4) (by simp);have a2:=g (n+3) (by simp);have a3:=g (n+1) (by simp);have b1:=l (n+4) (by simp);have b2:=l (n+3) (by simp);have b3:=l n (by simp);constructor<;>(try simp only[eB,not_or])<;>first|lia|exact⟨by lia,by lia,G _ (by simp)⟩
  have hi:p.toArray.size=i:=by rw[cM,<-M.length];exact hl
  subst hi;have t:∀d∈[n+4,n+2,n+3,n,n+1],∀a,X.A.in1.handled=some (.ref a)->a≠d:=λd hd=>I.EG hc (hf d hd).2.2.2.1 (hf d hd).2.2.2.2.2;refine vV (hZ n a (g n (by simp)) (t n (by simp)) p.toArray) j st.z st.TI m ⟨st.i1,L.isList,I.hb hc⟩ λh1 kp=>⟨rfl,?_⟩;refine AH (t':=s.toks) (ch:=[n+4,n+3,n,n+1]) I (λc o f e=>?_) λd hd=>hf d (by simp only[eB,fH,or_false]at hd⊢;rcases hd with z|z|z|z<;>simp[z]);simp only[eB,fH,or_false,not_or]at f;exact kp c o f.1 f.2.1 f.2.2.1 f.2.2.2 e
 self:=λA i s Q E st h=>wpAny_pyIter_zip st.z h
noncomputable def Xm(K:PySem.W.Frag)(d:TA):TI:=λσ H R=>d σ H λvs c=>∃a b xs e,vs=[.ref a, .ref b]/\bN K c a xs/\bN K c b e/\R (aai K a b) c
theorem Pl{X:Cx}{es:List Expr}{k:Nat}{D:Pos}{a b:Expr}{j:TA}{p i:Pos}(n:Gl X "zip")(hm:X.mg "zip"=none)(ha:PA X [a,b] j)(o:starEach [a,b] X.env=[(false,eval a X.env),(false,eval b X.env)]:=by rfl)(g:starEach [b] X.env=[(false,eval b X.env)]:=by rfl):PI X (.Tuple es k D) (.Call (.Name "zip" p) [a,b] [] i) (Xm X.K j):=by
 intro pins s σ H R I h;refine Call_ (jt I n hm boot_zip (PyProof.Rows.callWith_type1 (bQ (ha i pins s σ H _ I h) λus s1⟨vs,f,c,x,q1⟩=>?_) (by rw[o,g]) (by rw[g];rfl)));obtain⟨a1,b1,xs,M,e,r,t,q⟩:=q1;subst e;obtain⟨K,L,rfl,y,A⟩:=Vals.two x;cases y;cases A;obtain⟨E,G,v,_⟩:=c.list r;obtain⟨F,J,w,_⟩:=c.list t;refine IE v.isList w.isList λh1 l t1 u B C kp=>?_;refine wpAny_pyIter_zip (s:={s1 with heap:=h1}) l ?_;have m:Inv X pins σ f {s1 with heap:=h1}:=c.kept (t':=s1.toks) kp;refine⟨_,_,_,_,f,rfl,m,IF a1 b1 s1.heap.objs.size,⟨l,t1,⟨_,_,u⟩,B,C⟩,λd hd=>?_,q⟩;have :s1.heap.objs.size<=d:=by simp only[eB,fH,or_false]at hd;rcases hd with z|z|z|z|z<;>rw[z]<;>first|exact Nat.le_add_right _ _|exact bJ _
 exact c.DR this (c.bX.fresh this)
theorem lS:bootBuiltins "tuple"=some (.type "tuple"):=by decide+kernel
theorem U0:bootBuiltins "int"=some (.type "int"):=by decide+kernel
theorem PR:bootBuiltins "bool"=some (.type "bool"):=by decide+kernel
theorem UP:bootBuiltins "str"=some (.type "str"):=by decide+kernel
theorem HV:bootBuiltins "list"=some (.type "list"):=by decide+kernel
theorem dP:bootBuiltins "len"=some (.builtin "len"):=by decide+kernel
theorem cW:bootBuiltins "isinstance"=some (.builtin "isinstance"):=by decide+kernel
theorem N1:bootBuiltins "all"=some (.builtin "all"):=by decide+kernel
theorem E1:bootBuiltins "max"=some (.builtin "max"):=by decide+kernel
def Df(K:PySem.W.Frag)(mg:Str->Option Value)(x:Str)(st:Stmt)(ps:List Str):Prop:=∃f fd,Q2 K x x st f fd/\mg x=some (.ref f)/\Binds K fd ps []
noncomputable def bj(P:Program)(w:World)(K:PySem.W.Frag)(mg:Str->Option Value)(CX:oJ)(x:Str)(k:Nat)(ps:List Str)(sp:Sp):Prop:=∃f fd,(∀base,m9 P w K mg base CX k f fd ps sp)/\mg x=some (.ref f)/\PySem.W.keepIn K (.ref f)=true/\Binds K fd ps []
section
variable{P:Program}{w:World}{K:PySem.W.Frag}{mg:Str->Option Value}
theorem Df.ok{x:Str}{st:Stmt}{N ps:List Str}{k:Nat}{sp:Sp}(D:Df K mg x st ps)(S:aN N ps (ak st))(len:∀vs H Q E,sp vs H Q E->vs.length=ps.length)(a:∀(base:Heap)(f:Addr)(cF:Value)(A:Around)(outer:List Env)(s:Shared)(H:Hp)(vs:List V)(Q:VK)(E:XK),cZ k (A.deeper (envOfC x (ak st) s.heap.objs.size f cF))->sp vs H Q E->∃t,gT (eS bA P w K mg base N x (ak st) f cF A outer s H E).Nc (cC st) t/\t {nx:=λ_ H'=>Q .aP H',rt:=Q} (start N vs) H):bj P w K mg bA x (k+1) ps sp:=by obtain⟨f,fd,F,m,b⟩:=D;exact⟨f,fd,λbase=>F.ok S len (a base f),m,F.kp,b⟩
theorem bj.mono{CX:oJ}{x:Str}{j k:Nat}{ps:List Str}{sp:Sp}(F:bj P w K mg CX x j ps sp)(h:j<=k):bj P w K mg CX x k ps sp:=by obtain⟨f,fd,F,r⟩:=F;exact⟨f,fd,λbase=>(F base).mono h,r⟩
theorem bj.never{x:Str}{st:Stmt}{ps:List Str}{sp:Sp}{k:Nat}{CX:oJ}(D:Df K mg x st ps)(no:∀vs H Q E,¬sp vs H Q E):bj P w K mg CX x k ps sp:=by obtain⟨f,fd,F,m,b⟩:=D;exact⟨f,fd,λbase=>⟨λvs H Q E h=>absurd h (no vs H Q E),λA outer s H args us vs Q E _ _ _ _ h=>absurd h (no vs H Q E)⟩,m,F.kp,b⟩
end
noncomputable def z4(h:Heap)(H:Hp)(fs:List Addr):Heap:=PySem.W.hideAll (As h H) fs
theorem jk{h:Heap}{H:Hp}{fs:List Addr}{b:Addr}{o:Obj}(e:h.get? b=some o)(n:H b=none)(hf:b∉fs):(z4 h H fs).get? b=some o:=PySem.W.hideAll_get _ (ll e n) hf
theorem QB{h:Heap}{H:Hp}{fs:List Addr}{b:Addr}{o:Obj}(e:(z4 h H fs).get? b=some o):h.get? b=some o/\H b=none:=He (PySem.W.of_hideAll fs e)
theorem ID(h:Heap)(H:Hp)(fs:List Addr):(z4 h H fs).objs.size=h.objs.size:=(PySem.W.hideAll_size _ _).trans (vZ h H)
theorem lL{h B a:Heap}:∀{l:List Env},h.FunFrames B l->(∀L∈jL l,a.get? L=none)->h.FunFrames a l|[],_,_=>trivial|env::l,⟨c,⟨L,o,hf,_,d,hd⟩,e⟩,hn=>⟨c,⟨L,o,hf,hn L (by unfold jL;rw[List.filterMap_cons,hf];exact eC),d,hd⟩,lL e λb hb=>hn b (by unfold jL at hb⊢;rw[List.filterMap_cons,hf];exact dX _ hb)⟩
theorem Pe{X:Cx}{pins:List (Addr×Obj)}{σ:L2.St}{H:Hp}{s:Shared}(I:Inv X pins σ H s)(hc:X.calm=true):Cb X.prog X.w X.K X.mg (z4 s.heap H (jL X.stack)) X.A X.stack s H:=by
 have g:∀b o,X.base.get? b=some o->b∉jL X.stack:=λb o e z=>by
  rcases List.mem_cons.mp (I.f7 b z)with z|z;·have :=bL e;rw[z]at this;exact absurd this (Nat.not_lt.mpr (cS I.ok.Ba I.ok.above))
  ·exact I.ok.Ub e z
 have up:∀b o,X.base.get? b=some o->(z4 s.heap H (jL X.stack)).get? b=some o:=λb o e=>jk (I.bs b o e).1 (I.bs b o e).2 (g b o e);obtain⟨mb,b1,c⟩:=I.ok.mod.blt;refine⟨I.ok.frames,⟨I.ok.mod.JA.keeps up,I.ok.mod.glob.keeps up,⟨mb,b1.keeps up,c⟩,I.ok.mod.nolimit.keeps up,I.ok.mod.bm.keeps up⟩,λb o e=>QB e,Nat.le_of_eq (ID _ _ _),lL I.stack λL f=>PySem.W.hideAll_none _ f,I.zX,I.bX,I.bare,?_⟩;rcases I.ok.hd hc with h|⟨a,oe,vs,e1,e2,d⟩;·exact .inl h
 ·refine .inr ⟨a,oe,vs,e1,?_,d⟩;rcases e2 with e2|e2;·exact up a oe e2
  ·obtain⟨q1,q2,q3,q4,_⟩:=I.pin (a,oe) (p_ _ e2);refine jk q1 q2 λz=>?_;rcases List.mem_cons.mp (I.f7 a z)with z|z;·exact q3 z
   ·exact q4 z
theorem Gh{X:Cx}{CX:oJ}{k:Nat}{f:Addr}{fd:FuncData}{ps:List Str}{sp:Sp}{E:XK}{pins:List (Addr×Obj)}{σ:L2.St}{H:Hp}{s:Shared}{Q:VK}{us:List Value}{vs:List V}{a:Value->Shared->Prop}(F:∀base,m9 X.prog X.w X.K X.mg base CX k f fd ps sp)(c:cZ k X.A)(hb:Binds X.K fd ps [])(I:Inv X pins σ H s)(hc:X.calm=true)(d:∀e s',CX X.A.handled X.stack H s E e s'->a e s')(r:Vals vs us)(h:sp vs H Q E):wpAny (model X.prog X.w) X.A (call (.ref f) us) (EP X pins σ Q) a s:=by
 have hl:us.length=ps.length:=by rw[<-r.length];exact(F (z4 s.heap H (jL X.stack))).len _ _ _ _ h
 have b:=hb s us I.kS (by rw[nX];exact hl);rw[nX]at b;refine wpAny_call (codeAny_mono ((F _).run X.A X.stack s H ⟨us,[]⟩ us vs Q E c (Pe I hc) b r h) λr s' hq=>?_);cases r with|error e=>exact d e s' hq|ok fl=>cases fl with|ret u=>exact I.after hq|next=>exact False.elim hq|brk=>exact False.elim hq|cont=>exact False.elim hq
theorem ay{X:Cx}{CX:oJ}{x:Str}{k:Nat}{ps:List Str}{sp:Sp}{E:XK}{e:Expr}{es:List Expr}{t:TA}{p c:Pos}(F:bj X.prog X.w X.K X.mg CX x k ps sp)(n:cZ k X.A)(j:Gl X x)(o:Passes CX X E)(ha:PA X (e::es) t)(g:(x==("__debug__":Str))=false:=by decide)(i:starEach (e::es) X.env=(false,eval e X.env)::starEach es X.env:=by rfl)(l:(backTo c (starEach es X.env)).any (·.1)=false:=by rfl)(hc:X.calm=true:=by rfl):PE X (.Call (.Name x p) (e::es) [] c) (X6 sp [] E t):=by obtain⟨f,fd,F,m,kp,b⟩:=F;intro pins s σ H Q I h;refine wpAny_Call_Name_kw (j4 I j m ?_ g);refine PySem.W.callWith_K (h₀:=X.base) I.ok.mod.JA kp (bQ (ha c pins s σ H _ I h) λus s1⟨vs,d,a,r,q⟩=>⟨a.kS,?_⟩) i l;have q:sp (vs++[]) d Q E:=q;rw[nX]at q;exact Gh F n b a hc (λe s' hc=>o pins σ d s1 e s' a hc) r q
theorem mR{X:Cx}{x:Str}{i:Int}{b:Pos}(hm:∃t,X.mg x=some (.int i t))(a:Gl X x)(hd:(x==("__debug__":Str))=false:=by decide):PE X (.Name x b) (tC (.int i)):=by obtain⟨t,hm⟩:=hm;exact zH a hm ⟨t,rfl⟩ hd
theorem OU{X:Cx}{x:Str}{z:Str}{b:Pos}(hm:∃t,X.mg x=some (.str z t))(a:Gl X x)(hd:(x==("__debug__":Str))=false:=by decide):PE X (.Name x b) (tC (.str z)):=by obtain⟨t,hm⟩:=hm;exact zH a hm ⟨t,rfl⟩ hd
theorem gQ{X:Cx}{x:Str}{a:Addr}{c:Pos}(hm:X.mg x=some (.ref a))(b:Gl X x)(hd:(x==("__debug__":Str))=false:=by decide):PE X (.Name x c) (tC (.ref a)):=zH b hm rfl hd
theorem vW{X:Cx}{x:Str}{n:String}{c:Pos}(hm:X.mg x=none)(b:bootBuiltins x=some (.type n))(a:Gl X x)(hn:x≠"__name__":=by decide)(hd:(x==("__debug__":Str))=false:=by decide):PE X (.Name x c) (tC (.ty n)):=Qz a hm b rfl hn hd
noncomputable def NI(outer:List (Str×NameKind))(N N':List Str)(own:Nat)(fr:List Nat)(scope:Scope):Bool:=scope.names.all (λy=>y.2 != .cell&&(y.2 != .local||scope.names.lookup y.1==some .local)&&(y.2 != .free||outer.lookup y.1==some .cell||outer.lookup y.1==some .free))&&decide (N'.length=own+fr.length)&&(List.range fr.length).all (λj=>match fr[j]? with
 |some i=>match N'[own+j]? with|some x=>N[i]?==some x&&scope.names.lookup x==some .free|none=>false
 |none=>true)
theorem iI{X:Cx}{N N':List Str}{own:Nat}{fr:List Nat}{sc scope:Scope}(g:X.env.scope=sc)(c:X.N=N)(f:scope.kind= .function)(h:NI sc.names N N' own fr scope=true):mF X N' own fr scope:=by
 unfold NI at h;simp only[cf,List.all_eq_true,decide_eq_true_eq]at h;obtain⟨⟨h1,h2⟩,h3⟩:=h;subst c;refine⟨f,λy a=>?_,λy a e=>?_,λy a e=>?_,h2,λj i e=>?_⟩;·simpa using(h1 y a).1.1
 ·have :=(h1 y a).1.2;simpa[e]using this
 ·have :=(h1 y a).2;unfold Env.kindOf;rw[g];simpa[e]using this
 ·have d:j<fr.length:=(List.getElem?_eq_some_iff.mp e).1;have :=h3 j (by simpa using d);rw[e]at this;cases b:N'[own+j]? with|none=>simp[b]at this|some x=>simp only[b,cf,beq_iff_eq]at this;exact⟨x,rfl,this.1,this.2⟩
theorem J5(a v:Value):argsOk "max" ⟨[a],[(Str.ofString "default",v)]⟩:=by unfold argsOk;kernel_rfl
section
variable{prog:Program}{w:World}{A:Around}{E:Value->Shared->Prop}{s:Shared}
theorem BM{id:String}{b:Builtin}{args:List Value}{a:List (Str×Value)}{Q:Value->Shared->Prop}(d:builtinKind id=none)(g:plainId id=true)(hb:entryFor table id=some b)(ha:argsOk id ⟨args,a⟩)(hc:wpAny (model prog w) A.in1 (b ⟨args,a⟩) (λfin s'=>match fin with| .done f=>(match(Except.ok f:Result)with| .ok (.ret v)=>Q v s'| .ok _=>False| .error e=>E e s')| .again c'=>c'.quiet=true/\codeAny (model prog w) A c' (λr s'=>match r with| .ok (.ret v)=>Q v s'| .ok _=>False| .error e=>E e s') s') E s):wpAny (model prog w) A (call (.builtin id) args a) Q E s:=by refine wpAny_call (codeAny_call_builtin g hb ?_);simp only[checkBuiltinCall,d];cases h:Manifest.signature? id with|none=>exact aU hc|some c=>simp only[argsOk,h]at ha;have h2:Bind.checkArgs id c ⟨args,a⟩=pure ():=ha;show wpAny _ A.in1 (Bind.checkArgs id c ⟨args,a⟩) _ _ s;rw[h2];exact aU hc
theorem QI{i j:Int}{t u:Tok}{Q:Value->Shared->Prop}(h:Q (.bool (decide (i>j))) s):wpAny (model prog w) A (richCompare .Gt (.int i t) (.int j u)) Q E s:=richCompare_gives (op:= .Gt) (typeIs_int s _ t) (typeIs_int s _ u) F.slot_int_gt F.entry_int_gt (F.args_int_gt_2 _ _) (gives_int_gt _ _ t u) (λx=>nomatch x) h
end
noncomputable def Vf(m x:Int):Int:=if x>m then x else m
noncomputable def maxD(ns:List Int)(d:Int):Int:=match ns with|[]=>d|a::r=>r.foldl Vf a
def U6(ns:List Int)(j:Nat)(l:Array Value):Prop:=(j=0/\l=#[])\/(0<j/\∃t,l=#[.int (maxD (ns.take j) 0) t, .int (maxD (ns.take j) 0) t])
theorem Jn{l:List Int}(x d:Int)(h:l≠[]):maxD (l++[x]) d=Vf (maxD l d) x:=by cases l with|nil=>exact absurd rfl h|cons a r=>simp[maxD,List.foldl_append]
section
variable{prog:Program}{w:World}{A:Around}{R:Result->Shared->Prop}{I:Addr}{fp wr:List Addr}{P:Nat->Value->Prop}{St:Nat->Heap->Prop}
theorem Jf{ns:List Int}{d:Value}(W:Walks prog w A.in1 I fp wr ns.length P St)(V:∀(i:Nat)v,P i v->∃x t,ns[i]?=some x/\v= .int x t)(S:Addr)(N:S∉fp):∀(k j:Nat)(s:Shared)(l:Array Value)(c:Nat),ns.length-j=k->j<=ns.length->St j s.heap->U6 ns j l->s.heap.get? S=some {cls:= .type "list",dict:=none,data:= .seq l c,slots:=#[]}->(∀v h' tk,(ns=[]/\v=d\/ns≠[]/\∃t,v= .int (maxD ns 0) t)->(∀b o,b∉wr->b≠S->s.heap.get? b=some o->h'.get? b=some o)->R (.ok (.ret v)) {s with heap:=h',toks:=tk})->codeAny (model prog w) A (.builtin "max.loop" ⟨[.ref I, .none, .ref S],[(Str.ofString "default",d)]⟩) R s:=by
 have O:S∉wr:=λh=>N (W.sub _ h);have T:(toString "max"++toString ".loop":String)="max.loop":=by decide
 intro k;induction k with
  |zero=>
   intro j s l c Z Y D hb p n;have y:j=ns.length:=by lia
   refine codeAny_builtin F.entry_max_loop ?_;rw[Around.under_plainId F.plain_max_loop _];show wpAny _ A.in1 (seqItems? (.ref S)>>=_) _ _ s;refine aj (wpAny_seqItems p rfl ?_);rcases hb with⟨K,rfl⟩|⟨K,t,rfl⟩;·show wpAny _ A.in1 (tryCatch (pyNext (.ref I)) _>>=_) _ _ s;refine aj (wpAny_tryCatch (W.done s _ _ (y▸D) λh' tk f=>?_));show wpAny _ A.in1 (rule _>>=_) _ _ _;refine aj (wpAny_rule (aU ?_));have e:ns=[]:=List.eq_nil_of_length_eq_zero (by lia);exact n d _ tk (.inl ⟨e,rfl⟩) λb o a g q=>f b o a q
   ·show wpAny _ A.in1 (tryCatch (pyNext (.ref I)) _>>=_) _ _ s;refine aj (wpAny_tryCatch (W.done s _ _ (y▸D) λh' tk f=>?_));have m:=f S _ O p;show wpAny _ A.in1 (updateSeq S (λ_=>#[])>>=_) _ _ _;refine aj ?_;refine wpAny_updateSeq m rfl (aj (wpAny_letGo (aU ?_)));have e:ns≠[]:=λz=>by rw[z]at y;simp at y;lia
    refine n _ _ tk (.inr ⟨e,t,by rw[y,List.take_length]⟩) λb o a g q=>(ka _ _ (Ne.symm g)).trans (f b o a q)
  |succ k U=>
   intro j s l c Z Y D hb p n;have C:j<ns.length:=by lia
   refine codeAny_builtin F.entry_max_loop ?_;rw[Around.under_plainId F.plain_max_loop _];show wpAny _ A.in1 (seqItems? (.ref S)>>=_) _ _ s;refine aj (wpAny_seqItems p rfl ?_);have X:∀x,ns[j]?=some x->ns.take (j+1)=ns.take j++[x]:=λx G=>by rw[List.take_add_one,G];rfl
   rcases hb with⟨K,rfl⟩|⟨K,t,rfl⟩
   ·show wpAny _ A.in1 (tryCatch (pyNext (.ref I)) _>>=_) _ _ s;refine aj (wpAny_tryCatch (W.item j s _ _ C D λv h' tk M L f=>?_));obtain⟨x,u,G,rfl⟩:=V j v M;have m:=f S _ O p;show wpAny _ A.in1 (updateSeq S (λ_=>#[.int x u, .int x u])>>=_) _ _ _;refine aj ?_;refine wpAny_updateSeq m rfl ?_;rw[T];refine aU ⟨plainId_quiet F.plain_max_loop _,U (j+1) _ _ _ (by lia) C (W.frame _ _ _ L λb Q o e=>?_) (.inr ⟨by lia,u,?_⟩) (uW _ m rfl) λJ r H E B=>?_⟩;·exact(ka _ _ (λh:S=b=>N (by rw[h];exact Q))).trans e
    ·rw[X x G,K];rfl
    ·exact n J r H E λb o a g e=>B b o a g ((ka _ _ (Ne.symm g)).trans (f b o a e))
   ·show wpAny _ A.in1 (tryCatch (pyNext (.ref I)) _>>=_) _ _ s;refine aj (wpAny_tryCatch (W.item j s _ _ C D λv h' tk M L f=>?_));obtain⟨x,u,G,rfl⟩:=V j v M;have m:=f S _ O p;have ne:ns.take j≠[]:=λz=>by
     have :(ns.take j).length=0:=by rw[z];rfl
     rw[List.length_take]at this;lia
    have em:maxD (ns.take (j+1)) 0=Vf (maxD (ns.take j) 0) x:=by rw[X x G,Jn x 0 ne]
    show wpAny _ A.in1 (tryCatch (holding [.int x u, .int x u] (richCompare .Gt (.int x u) (.int (maxD (ns.take j) 0) t)>>=_)) _>>=_) _ _ _;refine aj (wpAny_tryCatch (gy (aj (QI ?_))));refine aj (gy (kH ?_));refine aj (wpAny_letGo (aU ?_));by_cases hb:x>maxD (ns.take j) 0
    ·rw[decide_eq_true hb];simp only[if_true];refine aj ?_;refine wpAny_updateSeq m rfl (aj (wpAny_letGo ?_));rw[T];refine aU ⟨plainId_quiet F.plain_max_loop _,U (j+1) _ _ _ (by lia) C (W.frame _ _ _ L λb Q o e=>?_) (.inr ⟨by lia,u,?_⟩) (uW _ m rfl) λJ r H E B=>?_⟩;·exact(ka _ _ (λh:S=b=>N (by rw[h];exact Q))).trans e
     ·rw[em,Vf,if_pos hb]
     ·exact n J r H E λb o a g e=>B b o a g ((ka _ _ (Ne.symm g)).trans (f b o a e))
    ·rw[decide_eq_false hb];simp only[pW,if_false];refine aj (wpAny_letGo ?_);rw[T];refine aU ⟨plainId_quiet F.plain_max_loop _,U (j+1) _ _ c (by lia) C L (.inr ⟨by lia,t,?_⟩) m λJ r H E B=>?_⟩;·rw[em,Vf,if_neg hb]
     ·exact n J r H E λb o a g e=>B b o a g (f b o a e)
end
theorem ints_get:∀{ns:List Int}{us:List Value},Vals (ns.map V.int) us->∀(i:Nat)(u:Value),us[i]?=some u->∃x t,ns[i]?=some x/\u= .int x t|[],_, .nil,i,u,e=>by simp at e|n::ns,_, .cons r t,0,u,e=>by obtain⟨tk,r⟩:=r;simp at e;exact⟨n,tk,rfl,by rw[<-e,r]⟩|n::ns,_, .cons r t,i+1,u,e=>by simpa using ints_get t i u (by simpa using e)
section
variable{X:Cx}{pins:List (Addr×Obj)}{σ:L2.St}{H:Hp}{s:Shared}
theorem NO{p:Addr}{ns:List Int}{i:Int}{v:Value}{Q:VK}(hc:X.calm=true)(I:Inv X pins σ H s)(hq:bN X.K H p (ns.map V.int))(D:RelV (.int i) v)(q:Q (.int (maxD ns i)) H):wpAny (model X.prog X.w) X.A (call (.builtin "max") [.ref p] [(Str.ofString "default",v)]) (EP X pins σ Q) X.xe s:=by
 obtain⟨k,r,pl,E⟩:=I.list hq;have hl:=pl.isList;have lt:p<s.heap.objs.size:=by obtain⟨o,e,_⟩:=hl;exact bL e
 have C:∀a,X.A.in1.handled=some (.ref a)->a≠s.heap.objs.size:=λa c=>by
  rcases I.hb hc with z|⟨b,oe,vs,e1,e2,_⟩;·rw[show X.A.in1.handled=X.A.handled from rfl,z]at c;cases c
  ·rw[show X.A.in1.handled=X.A.handled from rfl,e1]at c;cases c;exact dN (bL e2)
 have x:(toString "max"++toString ".loop":String)="max.loop":=by decide
 refine BM F.kind_max F.plain_max F.entry_max (J5 _ _) ?_;show wpAny _ X.A.in1 (Builtin.Builtins.bindParams "max" ["key","default"] 0 ⟨[],[(Str.ofString "default",v)]⟩>>=_) _ _ s;refine aj (wpAny_of_eq (show Builtin.Builtins.bindParams "max" ["key","default"] 0 ⟨[],[(Str.ofString "default",v)]⟩=pure [none,some v]from rfl) ?_);refine aj (aU ?_);refine aj (wpAny_pyIter_list hl ?_);refine aj (wpAny_newObj_type ?_);have len:k.toArray.size=ns.length:=by rw[cM,<-r.length,c_]
 have h:=sS (prog:=X.prog) (w:=X.w) (A:=X.A.in1) s.heap.objs.size p (dN lt) k.toArray C;rw[len]at h;rw[x];have m:((s.heap.push {cls:= .type "list_iterator",data:= .fields #[.ref p, .int 0 0]}).objs.size)∉s.heap.objs.size::p::gA X.A.in1:=by
  rw[mZ];intro z;rcases List.mem_cons.mp z with z|z;·exact Nat.succ_ne_self _ z
  ·rcases List.mem_cons.mp z with z|z;·rw[<-z]at lt;exact Nat.not_succ_lt_self lt
   ·have g:=gY z;rcases I.hb hc with q|⟨b,oe,vs,e1,e2,_⟩;·rw[show X.A.in1.handled=X.A.handled from rfl,q]at g;cases g
    ·rw[show X.A.in1.handled=X.A.handled from rfl,e1]at g;cases g;exact Nat.not_succ_lt_self (bL e2)
 refine aU ⟨plainId_quiet F.plain_max_loop _,Jf (d:=v) h (λj u e=>ints_get r j u (by simpa using e)) _ m _ 0 _ #[] _ rfl (d4 _) ?_ (.inl ⟨rfl,rfl⟩) (eD _ rfl) λu h' tk B n=>?_⟩;·exact⟨⟨_,bD _ (eD _ rfl),rfl,rfl⟩,(hl.push _).push _,(I.hb hc).mono λa o _ l=>bD _ (bD _ l)⟩
 ·refine⟨.int (maxD ns i),H,I.kept (h':=h') (t':=tk) λb o f=>n b o (λhm=>?_) (λhm=>?_) (bD _ (bD _ f)),?_,q⟩;·rw[List.mem_singleton.mp hm]at f;exact Nat.lt_irrefl _ (bL f)
  ·have :=bL f;rw[hm,mZ]at this;exact Nat.not_succ_lt_self this
  ·rcases B with⟨rfl,rfl⟩|⟨y,t,rfl⟩;·exact D
   ·refine⟨t,?_⟩;cases ns with|nil=>exact absurd rfl y|cons a r=>rfl
end
noncomputable def aaq(K:PySem.W.Frag)(t tk:TA):TE:=λσ H Q=>t σ H λvs b=>tk σ b λc a=>∃p ns i,vs=[.ref p]/\c=[.int i]/\bN K a p (ns.map V.int)/\Q (.int (maxD ns i)) a
theorem O6{X:Cx}{e d:Expr}{t tk:TA}{p kp a:Pos}(hm:X.mg "max"=none)(ha:PA X [e] t)(k:PK X [⟨some (Str.ofString "default"),d,kp⟩] tk)(hc:X.calm=true:=by rfl)(j:Gl X "max":=by rfl)(b:starEach [e] X.env=[(false,eval e X.env)]:=by rfl):PE X (.Call (.Name "max" p) [e] [⟨some (Str.ofString "default"),d,kp⟩] a) (aaq X.K t tk):=by intro pins s σ H Q I h;refine wpAny_Call_Name_kw (jt I j hm E1 ?_);refine callWith_kw (bQ (ha a pins s σ H _ I h) λus s1⟨vs,c,f,l,q1⟩=>bQ (k a pins s1 σ c _ f q1) λws s2⟨w,r,g,m,q2⟩=>?_) (by rw[b];rfl) (by rw[b];rfl);obtain⟨p,ns,i,rfl,rfl,hq,q⟩:=q2;obtain⟨u,rfl,n⟩:=l.one;cases n;obtain⟨v,rfl,o⟩:=m.one;exact NO hc g hq o q
theorem g8{H a:Hp}{p:Addr}{o:HO}(h:aL H a)(c:H p=none):aL H (upd a p o):=λb u q=>by rw[bf (aT q c)];exact h b u q
theorem Oo{J:It}{p:Addr}{k:Hp}{g:TG}{z:TT}{w:TE}{b:L2.St}{C:Hp->Prop}(n:Nat)(f:Nat->Option V)(s:k p=none)(hn:n<=sizeLine)(D:∀i a,i<n->aL k a->J.go i a/\∀x h,J.wM i a x h->∀(R:V->Hp->Prop)(r:Hp->Prop),(∀v j,f i=some v->aL a j->R v j)->(∀d,f i=none->aL a d->r d)->g x b h λo q=>z o q λok d=>if ok=true then w o d R else r d)(hd:∀a,aL k a->a p=some (.lst ((List.range n).filterMap f))->J.stop n a/\C a):∃W:Nat->Nat->List V->Hp->Prop,(∃m,W 0 m [] (upd k p (.lst [])))/\∀i m c a,W i m c a->(J.stop i a/\C a)\/(J.go i a/\∀x h,J.wM i a x h->g x b h λo q=>z o q λok d=>if ok=true then w o d λv j=>j p=some (.lst c)/\c.length<sizeLine/\∃l,l<m/\W (i+1) l (c++[v]) (upd j p (.lst (c++[v])))else∃l,l<m/\W (i+1) l c d):=by
 refine mS (Q:=λ_ H=>C H) n (λi c a=>c=(List.range i).filterMap f/\a p=some (.lst c)/\aL k a) ⟨rfl,aq,ar s _⟩ ?_ ?_
 ·rintro i c a hi⟨rfl,h2,s2⟩;obtain⟨A,B⟩:=D i a hi s2;have E:((List.range i).filterMap f).length<sizeLine:=by have :=List.length_filterMap_le f (List.range i);rw[List.length_range]at this;lia
  refine⟨A,λx h y=>B x h y _ _ (λv j e u=>⟨u _ _ h2,E,nx hi ⟨?_,aq,g8 (s2.trans u) s⟩⟩) λd e t=>nx hi ⟨?_,t _ _ h2,s2.trans t⟩⟩;·rw[List.range_succ,List.filterMap_append];simp[e]
  ·rw[List.range_succ,List.filterMap_append];simp[e]
 ·rintro c a⟨rfl,h2,s2⟩;exact hd a s2 h2
theorem j8{J:It}{p:Addr}{h:Hp}{g:TG}{s:TE}{b:L2.St}{C:Hp->Prop}(n:Nat)(f:Nat->V)(q:h p=none)(hn:n<=sizeLine)(w:∀i a,i<n->aL h a->J.go i a/\∀x d,J.wM i a x d->∀(R:V->Hp->Prop),(∀e,aL a e->R (f i) e)->g x b d λk l=>s k l R)(hd:∀a,aL h a->a p=some (.lst ((List.range n).map f))->J.stop n a/\C a):∃W:Nat->Nat->List V->Hp->Prop,(∃m,W 0 m [] (upd h p (.lst [])))/\∀i m c a,W i m c a->(J.stop i a/\C a)\/(J.go i a/\∀x d,J.wM i a x d->g x b d λk l=>Aw k l λok o=>if ok=true then s k o λv e=>e p=some (.lst c)/\c.length<sizeLine/\∃j,j<m/\W (i+1) j (c++[v]) (upd e p (.lst (c++[v])))else∃j,j<m/\W (i+1) j c o):=by
 refine mS (Q:=λ_ H=>C H) n (λi c a=>c=(List.range i).map f/\a p=some (.lst c)/\aL h a) ⟨rfl,aq,ar q _⟩ ?_ ?_;·rintro i c a hi⟨rfl,h2,s2⟩;obtain⟨t,u⟩:=w i a hi s2;refine⟨t,λx d y=>?_⟩;simp only[Aw,if_true];refine u x d y _ λe r=>⟨r _ _ h2,by rw[c_,List.length_range];lia,nx hi ⟨?_,aq,g8 (s2.trans r) q⟩⟩;rw[List.range_succ,List.map_append];rfl
 ·rintro c a⟨rfl,h2,s2⟩;exact hd a s2 h2
theorem yn{X:Cx}(d:X.A.units+1<cLine):ji X (compareOp .NotIn) (λx y H Q=>(∃k a D,x= .str k/\y= .ref a/\gV X.K a D/\Q (.bl (!Kj k D)) H)\/∃a D,y= .ref a/\gV X.K a D/\FJ H x/\Q (.bl true) H):=by
 intro pins s σ H x y v u Q I b c h;rcases h with h|h;·exact mJ pins s σ H x y v u Q I b c h
 ·exact yL d pins s σ H x y v u Q I b c h
end L3
end
section
namespace HT
open PySem PyProof.Rows
section
open PySem.SeqAt
open PySem.AutoSeq1(wpAny_loadPart')
open PySem.MeetsSeq PySem.MeetsSeq2 PySem.MeetsSeq3
variable{prog:Program}{w:World}{A:Around}{E:Value->Shared->Prop}{s:Shared}
theorem ke{t sl:Addr}{items:Array Value}{b c:Value}{lo hi:Option Int}{Q:Value->Shared->Prop}(ht:IsTup s.heap t items)(a:s.heap.IsSliceOf sl b c .none)(pl:IsPart b lo)(i:IsPart c hi)(h1:cX items.size 0 lo=0)(h2:cX items.size items.size hi=items.size)(h:Q (.ref t) s):wpAny (model prog w) A (getItem (.ref t) (.ref sl)) Q E s:=by
 obtain⟨os,f,e,j⟩:=id a;have d:s.TypeIs (.ref sl) "slice":=⟨os,f,e⟩;unfold getItem;try with_reducible refine gy ?_
 first|refine aj (aU ?_)|skip
 refine aj (wpAny_sequenceKey ht.typeIs (by decide) ?_);refine aj (wpAny_callSpecial?_slot (name:=Str.ofString "__getitem__") ht.typeIs PyProof.Rows.slot_tuple_getitem (iQ PyProof.Rows.slot_tuple_getitem ht.typeIs entry_tuple_getitem ?_ (args_tuple_getitem _ _)));show wpAny _ _ (Builtin.Tuple.tupleItemsOf (.ref t)>>=_) _ _ s;refine aj (tupleItemsOf_ ht ?_);refine aj (wpAny_typeOf d ?_);rw[if_pos (by decide)];refine aj (ik a pl i ?_);have g:(((cX items.size 0 lo:Nat):Int)==0&&(1:Int)==1&&(cX items.size items.size hi-cX items.size 0 lo)==items.size)=true:=by rw[h1,h2];simp
 show wpAny _ _ (if(((cX items.size 0 lo:Nat):Int)==0&&(1:Int)==1&&(cX items.size items.size hi-cX items.size 0 lo)==items.size)=true then _ else _) _ _ s;rw[if_pos g];show wpAny _ _ (Builtin.Tuple.tupleIsExact (.ref t)>>=_) _ _ s;refine aj ?_;unfold Builtin.Tuple.tupleIsExact;refine aj (wpAny_typeOf ht.typeIs (aU ?_));rw[if_pos (by decide)];exact aj (wpAny_rule (aU ⟨_,rfl,aU h⟩))
end
end HT
end
section
namespace L3
open PySem PySem.Spec PyProof.Rows L2
noncomputable def ab7(K:PySem.W.Frag):V->Option Int->Option Int->Hp->VK->Prop:=λx lo hi H Q=>∃a xs,x= .ref a/\bS K H a xs/\(∀p,H p=none->Q (.ref p) (upd H p (.tup (iK xs lo hi))))/\(iK xs lo hi=xs->Q (.ref a) H)
theorem qO{X:Cx}:P5 X (ab7 X.K):=by
 intro pins s σ H x v g i lo hi sl Q I e b pl d h;obtain⟨a,xs,rfl,c,q1,q2⟩:=h;by_cases hw:HT.cX xs.length 0 lo=0/\HT.cX xs.length xs.length hi=xs.length
 ·cases e;obtain⟨f,r,ht,j⟩:=I.tuple c;have hlen:f.toArray.size=xs.length:=by rw[cM];exact r.length.symm
  refine⟨"tuple",_,PyProof.Rows.slot_tuple_getitem.lookup,ht.typeIs,?_⟩;refine HT.ke ht b pl d (by rw[hlen];exact hw.1) (by rw[hlen];exact hw.2) ⟨.ref a,H,I,rfl,q2 ?_⟩;unfold iK;rw[hw.1,hw.2,List.drop_zero,Nat.sub_zero,List.take_length]
 ·exact VN pins s σ H _ v g i lo hi sl Q I e b pl d ⟨a,xs,rfl,c,hw,q1⟩
theorem hI(xs:List V)(k:Nat):iK xs (some (k:Int)) none=xs.drop k:=by
 unfold iK;rw[HT.lh,HT.rG];by_cases h:k<=xs.length;·rw[Nat.min_eq_left h];exact zD (by rw[List.length_drop];lia)
 ·rw[Nat.min_eq_right (by lia),List.drop_eq_nil_of_le (bJ _),List.drop_eq_nil_of_le (show xs.length<=k by lia)];simp
theorem FW(xs:List V)(k:Nat):iK xs none (some (k:Int))=xs.take k:=by
 unfold iK;rw[HT.lh,HT.rG,List.drop_zero,Nat.sub_zero];by_cases h:k<=xs.length;·rw[Nat.min_eq_left h]
 ·rw[Nat.min_eq_right (by lia),zD (bJ _),zD (show xs.length<=k by lia)]
section
variable{X:Cx}{K:PySem.W.Frag}
theorem yx(a:X.K=K:=by rfl):jD X (.builtin "isinstance") (λxs H Q=>∃x t n b,xs=[x, .ty n]/\kb K H x t/\PySem.W.kitOne K t (.type n)=some b/\Q (.bl b) H):=by subst a;exact d9
end
noncomputable def iU:List Nat->Nat|[]=>0|a::r=>max a (iU r)
end L3
end
section
namespace L3
open PySem PySem.Spec L2
variable{K:PySem.W.Frag}
def qC(K:PySem.W.Frag)(a:Addr)(xs:List V):Prop:=∃(o:Obj)(b:Array Value)(n:Nat),K.lookup a=some o/\o.cls= .type "tuple"/\o.data= .seq b n/\b.size<=sizeLine/\Vals xs b.toList
structure KD(K:PySem.W.Frag)(a:Addr)(rows:List (Str×List V))(as:List Addr):Prop where
 len:as.length=rows.length
 tab:gV K a ((rows.zip as).map λp=>(p.1.1,V.ref p.2))
 sq:∀p∈rows.zip as,qC K p.2 p.1.2
theorem n9{c d:Type}{x:Str}(f:(Str×c)×d->V):∀(rows:List (Str×c))(as:List d),as.length=rows.length->(∃r a,(r,a)∈rows.zip as/\r.1=x/\rows.lookup x=some r.2/\PyProof.Rows.KTD.datumAt x ((rows.zip as).map λp=>(p.1.1,f p))=some (f (r,a)))\/(rows.lookup x=none/\PyProof.Rows.KTD.datumAt x ((rows.zip as).map λp=>(p.1.1,f p))=none)
 |[],_,_=> .inr ⟨rfl,rfl⟩
 |(k,v)::rows,[],h=>by simp at h
 |(k,v)::rows,a::as,h=>by
  have g:=n9 (x:=x) f rows as (by simpa using h);by_cases e:x=k;·subst e;exact .inl ⟨(x,v),a,eC,rfl,by simp[List.lookup],by simp[PyProof.Rows.KTD.datumAt]⟩
  ·have e1:(x==k)=false:=by simpa using e
   have e2:¬k=x:=λz=>e z.symm;rcases g with⟨r,b,h1,h2,h3,h4⟩|⟨h1,h2⟩;·exact .inl ⟨r,b,dX _ h1,h2,by rw[mP,e1];exact h3,by simp only[List.zip_cons_cons,eF,PyProof.Rows.KTD.datumAt,e,decide_false,pW,if_false];exact h4⟩
   ·exact .inr ⟨by rw[mP,e1];exact h1,by simp only[List.zip_cons_cons,eF,PyProof.Rows.KTD.datumAt,e,decide_false,pW,if_false];exact h2⟩
theorem KD.some{a:Addr}{rows:List (Str×List V)}{as:List Addr}(T:KD K a rows as){x:Str}{ds:List V}(h:rows.lookup x=Option.some ds):∃b,PyProof.Rows.KTD.datumAt x ((rows.zip as).map λp=>(p.1.1,V.ref p.2))=Option.some (.ref b)/\∀H,bS K H b ds:=by
 rcases n9 (x:=x) (λp=>V.ref p.2) rows as T.len with⟨r,b,h1,h2,h3,h4⟩|⟨h1,_⟩;·rw[h]at h3;cases h3;exact⟨b,h4,λH=> .inr (T.sq _ h1)⟩
 ·rw[h]at h1;cases h1
theorem KD.Kj{a:Addr}{rows:List (Str×List V)}{as:List Addr}(T:KD K a rows as)(x:Str):L3.Kj x ((rows.zip as).map λp=>(p.1.1,V.ref p.2))=(rows.lookup x).isSome:=by
 unfold L3.Kj;rcases n9 (x:=x) (λp=>V.ref p.2) rows as T.len with⟨r,b,h1,h2,h3,h4⟩|⟨h1,h2⟩;·rw[h3,h4];rfl
 ·rw[h1,h2];rfl
noncomputable def bo:List V->List Value->Bool|[],[]=>true| .str x::vs, .str y _::us=>decide (x=y)&&bo vs us| .int i::vs, .int j _::us=>decide (i=j)&&bo vs us|_,_=>false
theorem kD:∀{vs:List V}{us:List Value},bo vs us=true->Vals vs us|[],[],_=> .nil| .str x::vs, .str y t::us,h=>by simp only[bo,cf,decide_eq_true_eq]at h;obtain⟨rfl,h⟩:=h;exact .cons ⟨t,rfl⟩ (kD h)| .int x::vs, .int y t::us,h=>by simp only[bo,cf,decide_eq_true_eq]at h;obtain⟨rfl,h⟩:=h;exact .cons ⟨t,rfl⟩ (kD h)|[],_::_,h=>by simp[bo]at h|_::_,[],h=>by simp[bo]at h| .aP::_,_::_,h=>by simp[bo]at h| .bl _::_,_::_,h=>by simp[bo]at h| .Ke _::_,_::_,h=>by simp[bo]at h| .V2 _::_,_::_,h=>by simp[bo]at h| .ref _::_,_::_,h=>by simp[bo]at h| .ty _::_,_::_,h=>by simp[bo]at h| .str _::_, .none::_,h=>by simp[bo]at h| .str _::_, .int _ _::_,h=>by simp[bo]at h| .str _::_, .ref _::_,h=>by simp[bo]at h| .str _::_, .bool _::_,h=>by simp[bo]at h| .str _::_, .float _ _::_,h=>by simp[bo]at h| .str _::_, .bytes _ _::_,h=>by simp[bo]at h| .str _::_, .type _::_,h=>by simp[bo]at h| .str _::_, .builtin _::_,h=>by simp[bo]at h| .str _::_, .ellipsis::_,h=>by simp[bo]at h| .str _::_, .notImplemented::_,h=>by simp[bo]at h| .int _::_, .none::_,h=>by simp[bo]at h| .int _::_, .str _ _::_,h=>by simp[bo]at h| .int _::_, .ref _::_,h=>by simp[bo]at h| .int _::_, .bool _::_,h=>by simp[bo]at h| .int _::_, .float _ _::_,h=>by simp[bo]at h| .int _::_, .bytes _ _::_,h=>by simp[bo]at h| .int _::_, .type _::_,h=>by simp[bo]at h| .int _::_, .builtin _::_,h=>by simp[bo]at h| .int _::_, .ellipsis::_,h=>by simp[bo]at h| .int _::_, .notImplemented::_,h=>by simp[bo]at h
noncomputable def bW(vs:List V)(a:Array Value):Bool:=bo vs a.toList&&decide (a.size<=100)
theorem b9{K:PySem.W.Frag}{a:Addr}{d:Option Addr}{b:Array Value}{n:Nat}{sl:Array (Option Value)}{vs:List V}(h:K.lookup a=some ⟨.type "tuple",d, .seq b n,sl⟩)(c:bW vs b=true):qC K a vs:=by simp only[bW,cf,decide_eq_true_eq]at c;exact⟨_,b,n,h,rfl,rfl,cS c.2 (by decide),kD c.1⟩
noncomputable def fP:List DictEntry->List Str->Bool|[],[]=>true|e::es,k::ks=>(match e.key,e.val with| .str x _, .ref _=>decide (x=k)|_,_=>false)&&fP es ks|_,_=>false
noncomputable def refsOf(es:List DictEntry):List Addr:=es.map λe=>match e.val with| .ref a=>a|_=>0
theorem zU:∀{es:List DictEntry}{ks:List Str},fP es ks=true->PyProof.Rows.KTD.Rows RelV es ((ks.zip (refsOf es)).map λp=>(p.1,V.ref p.2))
 |[],[],_=> .nil
 |[],_::_,h=>by simp[fP]at h
 |_::_,[],h=>by simp[fP]at h
 |e::es,k::ks,h=>by
  obtain⟨c,a,val⟩:=e;rw[fP,cf]at h;cases a with
   |str x t=>
    cases val with
     |ref b=>
      have h1:x=k:=by simpa using h.1
      subst h1;exact .cons rfl rfl (zU h.2)
     |_=>simp at h
   |_=>simp at h
theorem Z1{a:Addr}{es:Array DictEntry}{ep:Nat}{rows:List (Str×List V)}{as:List Addr}(c:(a==sysModules)=false)(b:K.lookup a=some ⟨.type "dict",none, .dict es ep,#[]⟩)(ks:fP es.toList (rows.map (·.1))=true)(rf:refsOf es.toList=as)(hl:as.length=rows.length)(sq:∀p∈rows.zip as,qC K p.2 p.1.2):KD K a rows as:=by refine⟨hl,⟨c,_,es,ep,b,⟨rfl,rfl,rfl⟩,rfl,?_⟩,sq⟩;have h:=zU ks;rw[rf,List.zip_map_left,List.map_map]at h;exact h
theorem cz{r:Str×List V}{b:Addr}{rows:List (Str×List V)}{as:List Addr}(h:qC K b r.2)(t:∀p∈rows.zip as,qC K p.2 p.1.2):∀p∈(r::rows).zip (b::as),qC K p.2 p.1.2:=λp a=>by
 rcases List.mem_cons.mp a with rfl|a;·exact h
 ·exact t p a
theorem VO:∀p∈([]:List (Str×List V)).zip ([]:List Addr),qC K p.2 p.1.2:=λp a=>by simp at a
noncomputable def iS:List DictEntry->List (Str×Int)->Bool|[],[]=>true|e::es,(k,i)::ks=>(match e.key,e.val with| .str x _, .int j _=>decide (x=k)&&decide (j=i)|_,_=>false)&&iS es ks|_,_=>false
theorem sY:∀{es:List DictEntry}{ks:List (Str×Int)},iS es ks=true->PyProof.Rows.KTD.Rows RelV es (ks.map λp=>(p.1,V.int p.2))
 |[],[],_=> .nil
 |[],_::_,h=>by simp[iS]at h
 |_::_,[],h=>by simp[iS]at h
 |e::es,(k,i)::ks,h=>by
  obtain⟨c,a,val⟩:=e;rw[iS,cf]at h;cases a with
   |str x t=>
    cases val with
     |int b u=>
      have h1:x=k/\b=i:=by simpa using h.1
      obtain⟨rfl,rfl⟩:=h1;exact .cons rfl ⟨u,rfl⟩ (sY h.2)
     |_=>simp at h
   |_=>simp at h
theorem O7{a:Addr}{es:Array DictEntry}{ep:Nat}{rows:List (Str×Int)}(c:(a==sysModules)=false)(b:K.lookup a=some ⟨.type "dict",none, .dict es ep,#[]⟩)(ks:iS es.toList rows=true):gV K a (rows.map λp=>(p.1,V.int p.2)):=⟨c,_,es,ep,b,⟨rfl,rfl,rfl⟩,rfl,sY ks⟩
end L3
end
section
namespace L3
open PySem PySem.Spec PyProof.Rows L2
structure MadeX(h h':Heap)(e C:Addr)(hh:Option Value):Prop where
 keeps:∀b o,h.get? b=some o->h'.get? b=some o
 new:h.get? e=none
 there:∃oe vs t c,h'.get? e=some oe/\oe.cls= .ref C/\oe.data= .fields vs/\vs[0]?=some (.ref t)/\vs[1]?=some .none/\vs[2]?=some c/\(hh=none->c= .none)
section
variable{prog:Program}{w:World}{A:Around}{E:Value->Shared->Prop}{s:Shared}
theorem J3{g:Type}{Q:g->Shared->Prop}{h₀:Heap}{e C:Addr}{vs:List Value}(hb:HB h₀ A)(hm:Heap.MadeExcOf h₀ s.heap e (.ref C) vs)(f:∀h',MadeX h₀ h' e C A.handled->E (.ref e) {s with heap:=h'}):wpAny (model prog w) A (raiseNew (.ref e):Sem g) Q E s:=by
 obtain⟨t,d,_,_⟩:=hm.there;simp only[raiseNew];refine aj (wpAny_handled ?_);rcases hb with hb|⟨a,oe,ws,hb,e1,e2,h⟩;·rw[hb];refine aj (aU (wpAny_throw (f s.heap ⟨hm.keeps,hm.new,_,_,t,_,d,rfl,rfl,rfl,rfl,rfl,λ_=>rfl⟩)))
 ·rw[hb];have ne:a≠e:=λz=>by rw[z,hm.new]at e1;cases e1
  dsimp only;rw[if_pos (by simpa using ne)];refine aj (gy (Dr (hm.keeps _ _ e1) e2 h ?_));refine aj ?_;show wpAny (model prog w) A (setField (.ref e) 2 (.ref a)) _ _ _;refine wpAny_setField d rfl (by simp) (wpAny_throw (f _ ⟨λb o c=>?_,hm.new,_,_,t, .ref a,uW _ d (Obj.isFreed_of_fields (Obj.data_mapFields rfl _)),Obj.cls_mapFields _ _,Obj.data_mapFields rfl _,by simp,by simp,by simp,λz=>by rw[hb]at z;cases z⟩));rw[ka _ _ λz=>by rw[<-z,hm.new]at c;cases c];exact hm.keeps b o c
end
def pP(K:PySem.W.Frag)(C:Addr):Prop:=∃a newId b,ExcBaseFacts "ValueError" newId b a/\PySem.W.excIn K C a newId=true
theorem tE{K:PySem.W.Frag}{h:Heap}{C:Addr}{o:List Value}{newId:String}(X:K.In h)(q:PySem.W.excIn K C o newId=true):∃bm N j k bs u m sub f g i a b c d e t,h.get? C=some (excClassObj j k C N bs bm u m sub f g i a b c d e newId)/\h.Ns N t/\t "__init__"=none/\OwnTail h o bm:=by
 unfold PySem.W.excIn at q;split at q
 ·rename_i i cd sl v;split at q
  ·rename_i x bm a b c d n e hm s;simp only[cf,beq_iff_eq,Bool.not_eq_true']at q;obtain⟨⟨⟨⟨⟨rfl,rfl⟩,p⟩,ht⟩,bX⟩,r⟩:=q;obtain⟨j,bs,z,ns,k,hd,m,sub,f,g,y⟩:=cd;dsimp only at hm p bX r;subst hm p;have w:sl=#[a,b,c,d,some (.builtin n),e]:=by obtain⟨l⟩:=sl;simp only at s;rw[s]
   subst w;exact⟨bm,ns,j,k,bs,hd,m,sub,f,g,i,a,b,c,d,e,_,X _ _ v, .of_isNs (PySem.W.isNs_of_in X bX),PySem.W.nsMap_none_of_in X bX r,PySem.W.tail_of_in X ht⟩
  ·cases q
 ·cases q
noncomputable def VF(G:Hp->Prop)(t:TA):TS:=λD σ H=>t σ H λvs a=>vs.length<=100/\G a
theorem lx{X:Cx}{G:Hp->Prop}{x:Str}{C:Addr}{b:Expr}{t:TA}{np eN pos:Pos}(A:pP X.K C)(hm:X.mg x=some (.ref C))(ha:PA X [b] t)(O:∀pins σ H s e h',Inv X pins σ H s->MadeX s.heap h' e C X.A.handled->G H->X.xe (.ref e) {s with heap:=h'})(hc:X.calm=true:=by rfl)(L:Gl X x:=by rfl)(E:(x==("__debug__":Str))=false:=by decide)(J:starEach [b] X.env=[(false,eval b X.env)]:=by rfl):PS X (.Raise (some (.Call (.Name x np) [b] [] eN)) none pos) (VF G t):=by
 intro pins s σ H D I h;obtain⟨Vz,newId,E_,FB,q⟩:=A;have V:wpAny (model X.prog X.w) X.A (eval (.Call (.Name x np) [b] [] eN) X.env) (λv a=>∃e t h₀ vs,v= .ref e/\X.K.In a.heap/\a.heap.get? e=some {cls:= .ref C,data:= .fields #[.ref t, .none, .none, .none, .bool false, .none]}/\HB h₀ X.A/\Heap.MadeExcOf h₀ a.heap e (.ref C) vs/\∀h',MadeX h₀ h' e C X.A.handled->X.xe (.ref e) {a with heap:=h'}) X.xe s:=by refine wpAny_Call_Name_kw (j4 I L hm ?_ E);have m:=ha eN pins s σ H _ I h;rw[J]at m⊢;unfold callWith;refine aj (gy (Calls.evalArgs_plain (bQ m λus s1⟨vs,n,i,r,hl,g⟩=>aj (wpAny_standAt ?_))));obtain⟨bm,N,Z,qn,bs,F,sn,sub,o,p,u,P,Q,R,S,U,W,c,j,k,T⟩:=tE i.kS q;have hb:=i.hb hc;have M:=O pins σ n s1;have JA:=i.kS;obtain⟨l,w,d,tk,os⟩:=s1;show wpAny _ _ (keeperOf (.ref C)>>=_) _ _ _;refine aj (wpAny_keeperOf_exc c ?_);refine aj (wpAny_call_exc_subT (hrest:=by rw[List.nil_append,<-r.length];exact cS hl (by decide)) FB T c j k λh' e f=>aj (gy (wpAny_point (aU ?_))));obtain⟨t,ht,_,_⟩:=f.there;exact⟨e,t,l,_,rfl,JA.keeps f.keeps,ht,hb,f,λy Y=>M e y i Y g⟩
 rw[arm_exec_Raise];refine aj (wpAny_standAt ?_);unfold raiseStmt;refine aj (aj (bQ V λv a h₁=>aj (wpAny_standAt (aU ?_))));obtain⟨e,t,h₀,vs,rfl,JA,K,hb,f,z⟩:=h₁;obtain⟨bm,N,Z,qn,bs,F,sn,sub,o,p,u,P,Q,R,S,U,W,c,j,k,T⟩:=tE JA q;have B:(Value.ref C::bm).contains (.type "BaseException")=true:=by rw[List.contains_cons,T.hasType FB.hasBase,Bool.or_true]
 obtain⟨l,w,d,tk,os⟩:=a;repeat(first|with_reducible refine wpAny_loadPart_at K ?_|with_reducible refine wpAny_loadPart_at c ?_|(with_reducible refine wpAny_isSubtype_exc c ?_;rw[B])|wp_step)
 exact J3 hb f z
def Ex(h:Heap)(a C:Addr)(T c:Value):Prop:=∃oe vs a0,h.get? a=some oe/\oe.cls= .ref C/\oe.data= .fields vs/\vs[0]?=some a0/\vs[1]?=some T/\vs[2]?=some c
def Tb(h:Heap)(T:Addr)(fl:Value):Prop:=∃a ts,h.get? T=some a/\a.data= .fields ts/\ts[3]?=some fl
structure Ka(fs:List Addr)(xs:List Addr)(h h':Heap):Prop where
 keep:∀b o,h.get? b=some o->b∉fs->b∉xs->h'.get? b=some o
 slot:∀b o,h.get? b=some o->b∈fs->b∉xs->∃sl,h'.get? b=some {o with slots:=sl}
section
variable{M:Model}{A:Around}{E:Value->Shared->Prop}{s:Shared}
theorem K8{base:Heap}{l:List Env}{b:Addr}{o:Obj}{vs:Array Value}(hl:s.heap.FunFrames base l)(e:s.heap.get? b=some o)(d:o.data= .fields vs):b∉jL l:=λhm=>by obtain⟨_,o',a,c⟩:=hl.mem hm;rw[e]at a;cases a;exact c vs d
theorem wD{base:Heap}{env:Env}{outer:List Env}{L a C:Addr}{head T c:Value}{q:Bool}{Q:Unit->Shared->Prop}(r:A.frames=some (env::outer))(hl:s.heap.FunFrames base (env::outer))(hf:env.frame=some L)(x:Ex s.heap a C T c)(h:∀h' g,Ex h' a C (.ref g) c->Tb h' g (rawInt L)->s.heap.get? g=none->g≠a->Ka (jL (env::outer)) [a] s.heap h'->Q () {s with heap:=h'}):wpAny M A (do let f<-frameOf env;let pl<-entryPlaceOf L q;let b<-EntryCells.newEntry head f .none (rawInt L) .none pl;setField (.ref a) 1 b) Q E s:=by
 obtain⟨oe,vs,a0,k,hc,hd,p,h1,h2⟩:=x;have t:a∉jL (env::outer):=K8 hl k hd;refine aj (wpAny_frameOf_fun r hl hf λd i=>aj (wpAny_entryPlaceOf λpl l=>?_));unfold EntryCells.newEntry newFields;refine aj (wpAny_newObj_type ?_ (l.sizeOk5 _ _ _ _ _));have j:d.get? a=some oe:=(i.2.1 a t).trans k;have sz:d.objs.size=s.heap.objs.size:=i.1;have nT:d.objs.size≠a:=Nat.ne_of_gt (bL j);refine wpAny_setField (bD _ j) hd (Array.getElem?_eq_some_iff.mp h1).1 (h _ d.objs.size ?_ ?_ ?_ nT ?_)
 ·refine⟨_,_,a0,uW _ (bD _ j) (Obj.isFreed_of_fields (Obj.data_mapFields hd _)),(Obj.cls_mapFields _ _).trans hc,Obj.data_mapFields hd _,?_,?_,?_⟩;·rw[Array.getElem?_setIfInBounds_ne (by decide)];exact p
  ·have :=(Array.getElem?_eq_some_iff.mp h1).1;simp[this]
  ·rw[Array.getElem?_setIfInBounds_ne (by decide)];exact h2
 ·refine⟨_,_,(ka _ _ (Ne.symm nT)).trans (eD _ rfl),rfl,?_⟩;first|(simp;done)|(rcases l with rfl|⟨_,_,_,_,_,_,_,rfl⟩<;>simp)
 ·rw[sz];exact Heap.get?_none_of_le (bJ _)
 ·refine⟨λb o e n m=>?_,λb o e n m=>?_⟩;·have e1:d.get? b=some o:=(i.2.1 b n).trans e;rw[ka _ _ λz=>m (by simp[z])];exact bD _ e1
  ·obtain⟨sl,e1⟩:=i.2.2 b o e;refine⟨sl,?_⟩;rw[ka _ _ λz=>m (by simp[z])];exact bD _ e1
theorem Et{base:Heap}{env:Env}{outer:List Env}{L a C:Addr}{c:Value}{Q:Unit->Shared->Prop}(e:A.frames=some (env::outer))(hl:s.heap.FunFrames base (env::outer))(hf:env.frame=some L)(x:Ex s.heap a C .none c)(h:∀h' b,Ex h' a C (.ref b) c->Tb h' b (rawInt L)->s.heap.get? b=none->b≠a->Ka (jL (env::outer)) [a] s.heap h'->Q () {s with heap:=h'}):wpAny M A (noteFrame (.ref a) env) Q E s:=by obtain⟨oe,vs,a0,d,hc,hd,f,h1,h2⟩:=id x;unfold noteFrame;simp only[hf];refine aj (dy d hd h1 ?_);rw[if_neg (by decide)];exact wD e hl hf x h
theorem wQ{base:Heap}{env:Env}{outer:List Env}{L a C T:Addr}{c:Value}{Q:Unit->Shared->Prop}(t:A.frames=some (env::outer))(hl:s.heap.FunFrames base (env::outer))(hf:env.frame=some L)(x:Ex s.heap a C (.ref T) c)(y:Tb s.heap T .none)(r:T≠a)(h:∀h' d,Ex h' a C (.ref d) c->Tb h' d (rawInt L)->s.heap.get? d=none->d≠a->Ka (jL (env::outer)) [a,T] s.heap h'->Q () {s with heap:=h'}):wpAny M A (noteFrame (.ref a) env) Q E s:=by
 obtain⟨oe,vs,a0,k,hc,hd,p,h1,h2⟩:=id x;obtain⟨v,ts,g,dT,h3⟩:=y;unfold noteFrame;simp only[hf];refine aj (dy k hd h1 ?_);rw[if_pos (show(Value.ref T !=Value.none)=true from by simp)];refine aj (dy g dT h3 ?_);rw[if_neg (show¬((Value.none==rawInt L)=true)from by simp[rawInt])];refine aj (wpAny_setField g dT (Array.getElem?_eq_some_iff.mp h3).1 ?_);have f:∀b,b≠T->(s.heap.update T (Obj.mapFields (·.setIfInBounds 3 Value.none))).get? b=s.heap.get? b:=λb hb=>ka _ _ (Ne.symm hb);have nr:∀b o,s.heap.get? b=some o->(∀vs,o.data≠ .fields vs)->b≠T:=λb o hb i q=>by rw[q,g]at hb;cases hb;exact i ts dT
 refine wD (s:={s with heap:=s.heap.update T (Obj.mapFields (·.setIfInBounds 3 Value.none))}) t (hl.of_keeps λb o hb i=>⟨o,(f b (nr b o hb i)).trans hb,rfl⟩) hf ⟨oe,vs,a0,(f a (Ne.symm r)).trans k,hc,hd,p,h1,h2⟩ λh' d x1 x2 j u l=>h h' d x1 x2 ?_ u ⟨λb o e n m=>?_,λb o e n m=>?_⟩
 ·by_cases z:d=T;·rw[z]at j;have :=uW (Obj.mapFields (·.setIfInBounds 3 Value.none)) g (Obj.isFreed_of_fields (Obj.data_mapFields dT _));rw[j]at this;cases this
  ·rw[<-f d z];exact j
 ·exact l.keep b o ((f b λz=>m (by simp[z])).trans e) n λz=>m (by simp at z;simp[z])
 ·exact l.slot b o ((f b λz=>m (by simp[z])).trans e) n λz=>m (by simp at z;simp[z])
theorem gN{a C T:Addr}{c fl:Value}{Q:Unit->Shared->Prop}(x:Ex s.heap a C (.ref T) c)(y:Tb s.heap T fl)(k:T≠a)(h:∀h',Ex h' a C (.ref T) c->Tb h' T .none->(∀b,b≠T->h'.get? b=s.heap.get? b)->Q () {s with heap:=h'}):wpAny M A (setFlight (.ref a) none) Q E s:=by obtain⟨oe,vs,a0,e,hc,hd,j,h1,h2⟩:=x;obtain⟨l,ts,d,dT,h3⟩:=y;have g:=(Array.getElem?_eq_some_iff.mp h3).1;unfold setFlight;refine aj (dy e hd h1 ?_);rw[if_pos (show(Value.ref T !=Value.none)=true from by simp)];have i:∀b,b≠T->(s.heap.update T (Obj.mapFields (·.setIfInBounds 3 ((none:Option Addr).elim Value.none λf=>rawInt f)))).get? b=s.heap.get? b:=λb hb=>ka _ _ (Ne.symm hb);exact wpAny_setField d dT g (h _ ⟨oe,vs,a0,(i a (Ne.symm k)).trans e,hc,hd,j,h1,h2⟩ ⟨_,_,uW _ d (Obj.isFreed_of_fields (Obj.data_mapFields dT _)),Obj.data_mapFields dT _,by simp[g]⟩ i)
theorem Cu{base:Heap}{env:Env}{outer:List Env}{L a C:Addr}{c:Value}{Q:Unit->Shared->Prop}(k:A.frames=some (env::outer))(hl:s.heap.FunFrames base (env::outer))(hf:env.frame=some L)(x:Ex s.heap a C .none c)(h:∀h' d,Ex h' a C (.ref d) c->Tb h' d .none->s.heap.get? d=none->d≠a->Ka (jL (env::outer)) [a] s.heap h'->Q () {s with heap:=h'}):wpAny M A (leaving env (.ref a)) Q E s:=by unfold leaving;refine aj (Et k hl hf x λh1 T1 x1 l f g j=>gN (s:={s with heap:=h1}) x1 l g λh2 x2 p i=>h h2 T1 x2 p f g ?_);refine⟨λb o e n m=>(i b λz=>by rw[z,f]at e;cases e).trans (j.keep b o e n m),λb o e n m=>?_⟩;obtain⟨sl,q⟩:=j.slot b o e n m;exact⟨sl,(i b λz=>by rw[z,f]at e;cases e).trans q⟩
theorem EH{base:Heap}{env:Env}{outer:List Env}{L a C T:Addr}{c:Value}{Q:Unit->Shared->Prop}(l:A.frames=some (env::outer))(hl:s.heap.FunFrames base (env::outer))(hf:env.frame=some L)(x:Ex s.heap a C (.ref T) c)(y:Tb s.heap T .none)(k:T≠a)(h:∀h' d,Ex h' a C (.ref d) c->Tb h' d .none->s.heap.get? d=none->d≠a->Ka (jL (env::outer)) [a,T] s.heap h'->Q () {s with heap:=h'}):wpAny M A (leaving env (.ref a)) Q E s:=by unfold leaving;refine aj (wQ l hl hf x y k λh1 T1 x1 p f g j=>gN (s:={s with heap:=h1}) x1 p g λh2 x2 r i=>h h2 T1 x2 r f g ?_);refine⟨λb o e n m=>(i b λz=>by rw[z,f]at e;cases e).trans (j.keep b o e n m),λb o e n m=>?_⟩;obtain⟨sl,q⟩:=j.slot b o e n m;exact⟨sl,(i b λz=>by rw[z,f]at e;cases e).trans q⟩
end
theorem FL{P:Program}{w:World}{H:Hp}{h:Heap}{a:Addr}{o:HO}(x:cu P w H h a o):∃u,h.get? a=some u:=by
 cases o with
  |lst xs=>obtain⟨_,_,_,_,e⟩:=x;exact⟨_,e⟩
  |tup xs=>obtain⟨_,_,_,o,e,_⟩:=x;exact⟨_,e⟩
  |dK aF=>obtain⟨_,_,_,_,o,_,_,e,_⟩:=x;exact⟨_,e⟩
  |dT aF=>obtain⟨_,_,_,_,o,_,_,e,_⟩:=x;exact⟨_,e⟩
  |set S n=>obtain⟨o,_,_,_,e,_⟩:=x;exact⟨_,e⟩
  |ins C dx fs=>obtain⟨_,_,_,e,_⟩:=x;exact⟨_,e⟩
  |own y=>exact x
  |xd fs=>obtain⟨_,⟨_,_,_,e,_⟩,_⟩:=x;exact⟨_,e⟩
  |rng lo hi=>obtain⟨_,_,_,e⟩:=x;exact⟨_,e⟩
  |DK ob u=>obtain⟨e,_⟩:=x;exact⟨_,e⟩
  |uQ ps=>cases ps with|tab q ln cl=>rcases x with e|⟨c,e,_⟩<;>exact⟨_,e⟩|code q=>obtain⟨c,o,vs,t,e1,e2,_⟩:=x;cases e1;exact⟨_,e2⟩
  |met f y=>exact⟨_,show h.get? a=some _ from x⟩
  |ext φ=>obtain⟨_,e,_⟩:=x;exact e
theorem mw{P:Program}{w:World}{H:Hp}{h:Heap}{a:Addr}(x:jd P w H h)(e:h.get? a=none):H a=none:=by cases q:H a with|none=>rfl|some o=>obtain⟨u,z⟩:=FL (x a o q);rw[e]at z;cases z
theorem Ka.any{fs xs:List Addr}{h h':Heap}(p:Ka fs xs h h'){b:Addr}{o:Obj}(e:h.get? b=some o)(m:b∉xs):∃sl,h'.get? b=some {o with slots:=sl}:=by
 by_cases hb:b∈fs;·exact p.slot b o e hb m
 ·exact⟨o.slots,p.keep b o e hb m⟩
theorem QL{P:Program}{w:World}{H:Hp}{h h':Heap}{fs xs:List Addr}(x:jd P w H h)(p:Ka fs xs h h')(c:∀b∈fs,H b=none)(nx:∀b∈xs,H b=none):jd P w H h':=λa o e=>by
 have st:∀b u,H b≠none->h.get? b=some u->h'.get? b=some u:=λb u n q=>p.keep b u q (λz=>n (c b z)) λz=>n (nx b z);refine(x a o e).pO (λb u hb q=>st b u ?_ q) (λ_ q=>q) λ_ _ q=>q;rcases hb with z|z;·rw[z,e];simp
 ·rw[z];simp
structure OK(X:Cx)(pins:List (Addr×Obj))(H:Hp)(b:Addr):Prop where
 un:H b=none
 new:X.cj.heap.get? b=none
 loc:b≠X.env.locals
 cel:∀x c,X.env.cells.lookup x=some c->c≠b
 pin:∀p∈X.pn++pins,p.1≠b
section
variable{X:Cx}{pins:List (Addr×Obj)}{σ:L2.St}{H H':Hp}{s s':Shared}{h':Heap}{a:Addr}
theorem k_(I:Inv X pins σ H s)(e:s.heap.get? a=none)(f:a∉X.ex)(hn:H' a=none):OK X pins H' a:=by
 refine⟨hn,?_,λz=>?_,λx c q z=>?_,λp d z=>?_⟩;·cases q:X.cj.heap.get? a with|none=>rfl|some o=>obtain⟨o',z⟩:=I.base.there a o q f;rw[e]at z;cases z
 ·obtain⟨m,⟨o,_,_,b,_⟩,_⟩:=I.loc;rw[<-z,e]at b;cases b
 ·obtain⟨v,o,b,_⟩:=I.cell x c q;rw[z,e]at b;cases b
 ·have :=(I.pin p d).1;rw[z,e]at this;cases this
theorem Inv.uR{ch:List Addr}(I:Inv X pins σ H s)(p:Ka (jL X.stack) ch s.heap h')(hc:∀b∈ch,OK X pins H b):Inv X pins σ H {s with heap:=h'}:=by
 have h:∀b o,X.cj.heap.get? b=some o->b∉ch:=λb o e z=>by rw[(hc b z).new]at e;cases e
 have y:∀b o,X.cj.heap.get? b=some o->b∉X.fs->b∉jL X.stack:=λb o e hb z=>by
  rcases List.mem_cons.mp (I.f7 b z)with q|q;·have :=bL e;rw[q]at this;exact absurd this (Nat.not_lt.mpr I.ok.above)
  ·exact hb q
 have cellK:∀x c,X.env.cells.lookup x=some c->∀v,s.heap.IsCell c v->h'.IsCell c v:=λx c e v⟨o,g,hd⟩=>by obtain⟨sl,q⟩:=p.any g λz=>(hc c z).cel x c e rfl;exact⟨_,q,hd⟩
 refine⟨I.ok,I.os,I.bare,⟨λb o e n hb f=>?_,λb o e n hb f=>?_,λb o e n f=>I.base.free b o e n f,λb o e f=>?_,I.base.va,I.base.uc,I.base.uq⟩,?_,λx c e=>?_,I.free,I.eE,λq hq=>?_,QL I.bX p I.zX λb hb=>(hc b hb).un,I.len⟩;·exact p.keep b o (I.base.keep b o e n hb f) (y b o e hb) (h b o e)
 ·obtain⟨sl,e1⟩:=I.base.slot b o e n hb f;obtain⟨A,e2⟩:=p.any e1 (h b o e);exact⟨A,e2⟩
 ·obtain⟨o',e1⟩:=I.base.there b o e f;obtain⟨sl,e2⟩:=p.any e1 (h b o e);exact⟨_,e2⟩
 ·obtain⟨m,⟨o,es,ep,g,r⟩,hl⟩:=I.loc;obtain⟨sl,w⟩:=p.any g λz=>(hc _ z).loc rfl;refine⟨m,⟨_,es,ep,w,r⟩,λi x v e1 e2 t=>?_⟩;obtain⟨u,r,l⟩:=hl i x v e1 e2 t;refine⟨u,r,?_⟩;rcases l with l|⟨k,c,e,z⟩;·exact .inl l
  ·exact .inr ⟨k,c,e,cellK x c e _ z⟩
 ·obtain⟨v,z⟩:=I.cell x c e;exact⟨v,cellK x c e v z⟩
 ·obtain⟨e,n,ne,j,d⟩:=I.pin q hq;exact⟨p.keep q.1 q.2 e (λz=>(List.mem_cons.mp (I.f7 q.1 z)).elim ne j) λz=>(hc q.1 z).pin q hq rfl,n,ne,j,d⟩
end
structure QF(X:Cx)(pins:List (Addr×Obj))(H:Hp)(s:Shared)(a C T:Addr)(c fl:Value):Prop where
 ex:Ex s.heap a C (.ref T) c
 tb:Tb s.heap T fl
 ne:T≠a
 fa:OK X pins H a
 fT:OK X pins H T
noncomputable def fG(P:Program)(w:World):oJ:=λhh outer H s E e s'=>∃(a C T:Addr)(c:Value)(H':Hp),e= .ref a/\s'.os=s.os/\AllBare s'.gens/\Un (jL outer) [] H H' s.heap s'.heap/\jd P w H' s'.heap/\Ex s'.heap a C (.ref T) c/\(hh=none->c= .none)/\Tb s'.heap T .none/\T≠a/\H' a=none/\H' T=none/\s.heap.get? a=none/\s.heap.get? T=none/\E (.ref C) none H'
section
variable{X:Cx}{pins:List (Addr×Obj)}{σ:L2.St}{H:Hp}{s s':Shared}{E:XK}{e:Value}{hh:Option Value}
theorem E4(I:Inv X pins σ H s)(d:X.ex=[])(h:fG X.prog X.w hh X.stack H s E e s'):∃a C T c H',e= .ref a/\Inv X pins σ H' s'/\QF X pins H' s' a C T c .none/\(hh=none->c= .none)/\E (.ref C) none H':=by obtain⟨a,C,T,c,H',rfl,os,bare,un,bX,ex,hc,tb,ne,f,nT,fa,fT,q⟩:=h;refine⟨a,C,T,c,H',rfl,I.MH os un bX bare (λb z=>absurd z (by simp)),⟨ex,tb,ne,k_ I fa (by rw[d];simp) f,k_ I fT (by rw[d];simp) nT⟩,hc,q⟩
end
section
variable{P:Program}{w:World}{K:PySem.W.Frag}{mg:Str->Option Value}{base:Heap}{N:List Str}{qual:Str}{sc:Scope}{f:Addr}{cd:Value}{A:Around}{outer:List Env}{cj:Shared}{H₀:Hp}{E:XK}
theorem K2{σ:L2.St}{H:Hp}{s:Shared}{pins:List (Addr×Obj)}{a C T:Addr}{c:Value}{h':Heap}{ch:List Addr}(I:Inv (eS (fG P w) P w K mg base N qual sc f cd A outer cj H₀ E) pins σ H s)(p:Ka (jL (eS (fG P w) P w K mg base N qual sc f cd A outer cj H₀ E).stack) ch s.heap h')(d:∀b∈ch,OK (eS (fG P w) P w K mg base N qual sc f cd A outer cj H₀ E) pins H b)(fa:OK (eS (fG P w) P w K mg base N qual sc f cd A outer cj H₀ E) pins H a)(ex:Ex h' a C (.ref T) c)(tb:Tb h' T .none)(nT:s.heap.get? T=none)(ne:T≠a)(hc:A.handled=none->c= .none)(q:E (.ref C) none H):fG P w A.handled outer H₀ cj E (.ref a) {s with heap:=h'}:=by have J:=Inv.uR I p d;exact⟨a,C,T,c,H,rfl,J.os,J.bare,J.base,J.bX,ex,hc,tb,ne,fa.un,mw I.bX nT,fa.new,(k_ (H':=H) I nT (by show T∉[];simp) (mw I.bX nT)).new,q⟩
theorem Wy{σ:L2.St}{H:Hp}{s:Shared}{pins:List (Addr×Obj)}{a C T:Addr}{c:Value}(I:Inv (eS (fG P w) P w K mg base N qual sc f cd A outer cj H₀ E) pins σ H s)(F:QF (eS (fG P w) P w K mg base N qual sc f cd A outer cj H₀ E) pins H s a C T c .none)(hc:A.handled=none->c= .none)(q:E (.ref C) none H):(eS (fG P w) P w K mg base N qual sc f cd A outer cj H₀ E).xe (.ref a) s:=by
 refine EH I.ok.frames I.stack rfl F.ex F.tb F.ne λh' g x1 x2 d e p=>?_;exact K2 (ch:=[a,T]) I p (λb hb=>by
  rcases List.mem_cons.mp hb with z|z;·rw[z];exact F.fa
  ·rw[List.mem_singleton.mp z];exact F.fT) F.fa x1 x2 d e hc q
theorem dg{N:List Str}:Passes (fG P w) (eS (fG P w) P w K mg base N qual sc f cd A outer cj H₀ E) E:=λpins σ H s e s' I h=>by obtain⟨a,C,T,c,H',rfl,J,F,hc,q⟩:=E4 I rfl h;exact Wy J F hc q
theorem rT{σ:L2.St}{H:Hp}{s:Shared}{pins:List (Addr×Obj)}{a C:Addr}{h':Heap}(I:Inv (eS (fG P w) P w K mg base N qual sc f cd A outer cj H₀ E) pins σ H s)(m:MadeX s.heap h' a C A.handled)(q:E (.ref C) none H):(eS (fG P w) P w K mg base N qual sc f cd A outer cj H₀ E).xe (.ref a) {s with heap:=h'}:=by have J:Inv (eS (fG P w) P w K mg base N qual sc f cd A outer cj H₀ E) pins σ H {s with heap:=h'}:=I.kept (t':=s.toks) m.keeps;obtain⟨oe,vs,t,c,e1,e2,d,e4,e,g,h⟩:=m.there;have fa:OK (eS (fG P w) P w K mg base N qual sc f cd A outer cj H₀ E) pins H a:=k_ I m.new (by show a∉[];simp) (mw I.bX m.new);refine Cu J.ok.frames J.stack rfl ⟨oe,vs, .ref t,e1,e2,d,e4,e,g⟩ λl k x1 x2 i j p=>?_;exact K2 (ch:=[a]) J p (λb hb=>by rw[List.mem_singleton.mp hb];exact fa) fa x1 x2 i j h q
theorem S7{N:List Str}:PassesOwn (model P w) (eS (fG P w) P w K mg base N qual sc f cd A outer cj H₀ E).A (eS (fG P w) P w K mg base N qual sc f cd A outer cj H₀ E).env (eS (fG P w) P w K mg base N qual sc f cd A outer cj H₀ E).xe:=PassesOwn.leaving
end
theorem Df.OP{P:Program}{w:World}{K:PySem.W.Frag}{mg:Str->Option Value}{x:Str}{st:Stmt}{N ps:List Str}{k:Nat}{sp:Sp}(D:Df K mg x st ps)(S:aN N ps (ak st))(len:∀vs H Q E,sp vs H Q E->vs.length=ps.length)(a:∀(base:Heap)(f:Addr)(cF:Value)(A:Around)(outer:List Env)(s:Shared)(H:Hp)(vs:List V)(Q:VK)(E:XK),cZ k (A.deeper (envOfC x (ak st) s.heap.objs.size f cF))->sp vs H Q E->∃t,gT (eS (fG P w) P w K mg base N x (ak st) f cF A outer s H E) (cC st) t/\t {nx:=λ_ H'=>Q .aP H',rt:=Q} (start N vs) H):bj P w K mg (fG P w) x (k+1) ps sp:=by obtain⟨f,fd,F,m,b⟩:=D;refine⟨f,fd,λbase=>?_,m,F.kp,b⟩;obtain⟨oc,od,kV,doc,pm,an,cF,ct,DL,rfl,g,c⟩:=F.ex;exact Hz g c S len λA outer s H vs Q E d e=>a base f cF A outer s H vs Q E d e
noncomputable abbrev DI(X:Cx)(a:Addr)(oe:Obj)(b:Bool):Cx:={X with A:=X.A.mark (some (.ref a)),calm:=b,pn:=(a,oe)::X.pn,xe:=λ_ _=>False}
section
variable{X:Cx}{pins:List (Addr×Obj)}{σ:L2.St}{H:Hp}{s:Shared}{a:Addr}{oe:Obj}{cm:Bool}
theorem YN(ok:X.Ok)(hc:cm=true->∃vs,oe.data= .fields vs/\vs[2]?=some .none):(DI X a oe cm).Ok:=⟨ok.mod,ok.kind,ok.glob,ok.blt,ok.above,ok.inj,ok.has,ok.OQ,λh=>let⟨vs,e1,e2⟩:=hc h; .inr ⟨a,oe,vs,rfl, .inr eC,e1,e2⟩,ok.frames,ok.Q_,ok.RO,ok.bs,ok.Ba,ok.pS,ok.vx,ok.gZ,ok.Oq⟩
theorem Ro(I:Inv X pins σ H s){vs:Array Value}(e:s.heap.get? a=some oe)(d:oe.data= .fields vs)(F:OK X pins H a)(hc:cm=true->∃vs,oe.data= .fields vs/\vs[2]?=some .none):Inv (DI X a oe cm) pins σ H s:=by
 refine⟨YN I.ok hc,I.os,I.bare,I.base,I.loc,I.cell,I.free,I.eE,λp b=>?_,I.bX,I.len⟩;rcases List.mem_cons.mp (show p∈(a,oe)::(X.pn++pins)from b)with z|z;·rw[z];exact⟨e,F.un,F.loc,K8 I.gZ e d,λv q=>by rw[d]at q;cases q⟩
 ·exact I.pin p z
theorem nZ(ok:X.Ok)(I:Inv (DI X a oe cm) pins σ H s):Inv X pins σ H s:=⟨ok,I.os,I.bare,I.base,I.loc,I.cell,I.free,I.eE,λp b=>I.pin p (dX _ b),I.bX,I.len⟩
theorem aaf(ok:X.Ok){D:Ends}{f:Flow}(h:SP (DI X a oe cm) pins D f s):SP X pins D f s:=by cases f with|next=>obtain⟨b,H',I,q⟩:=h;exact⟨b,H',nZ ok I,q⟩|brk=>obtain⟨b,H',I,q⟩:=h;exact⟨b,H',nZ ok I,q⟩|cont=>obtain⟨b,H',I,q⟩:=h;exact⟨b,H',nZ ok I,q⟩|ret u=>obtain⟨v,b,H',I,r,q⟩:=h;exact⟨v,b,H',nZ ok I,r,q⟩
end
theorem C4{K:PySem.W.Frag}{prog:Program}{w:World}{A:Around}{E:Value->Shared->Prop}{Q:Bool->Shared->Prop}{s:Shared}{a C c:Addr}{oe:Obj}{b:Bool}(X:K.In s.heap)(k:s.heap.get? a=some oe)(hc:oe.cls= .ref C)(i:pP K c)(e:PySem.W.subIn K (.ref C) (.ref c)=some b)(q:Q b s):wpAny (model prog w) A (excMatches (.ref a) (.ref c)) Q E s:=by
 obtain⟨n,newId,y,FB,l⟩:=i;obtain⟨bm,N,I,J,bs,u,O,sub,m,o,p,z,B,D,F,G,H,h,r,v,T⟩:=tE X l;have j:(Value.ref c::bm).contains (.type "BaseException")=true:=by rw[List.contains_cons,T.hasType FB.hasBase,Bool.or_true]
 have f:=tc_notTuple;have L:=PySem.W.looks_subIn (M:=model prog w) X e;obtain⟨x,g,d,t,os⟩:=s;unfold excMatches;repeat(first|with_reducible refine aj (L.at ?_)|(with_reducible refine wpAny_loadPart_at k ?_;rw[hc])|with_reducible refine wpAny_loadPart_at h ?_|(with_reducible refine wpAny_isSubtype_exc h ?_;rw[j])|wp_step)
 cases b<;>(wp_walk;exact q)
noncomputable abbrev TH:=Addr->Addr->TS
def PH(X:Cx)(b:List ExceptHandler)(t:TH):Prop:=∀(pins:List (Addr×Obj))(s:Shared)(σ:L2.St)(H:Hp)(D:Ends)(a C T:Addr)(c:Value),Inv X pins σ H s->QF X pins H s a C T c .none->(X.A.handled=none->c= .none)->t C a D σ H->wpAny (model X.prog X.w) X.A (handleBy (.ref a) X.env b) (SP X pins D) X.xe s
noncomputable def aaV:TH:=λ_ _ _ _ _=>False
theorem Ma{X:Cx}:PH X [] aaV:=λ_ _ _ _ _ _ _ _ _ _ _ _ h=>h.elim
def Cm(X:Cx)(a:Bool):Prop:=a=true->X.A.handled=none
section
variable{X:Cx}{cm:Bool}
theorem Ts{pins:List (Addr×Obj)}{s:Shared}{H:Hp}{a C T:Addr}{c fl:Value}(F:QF X pins H s a C T c fl)(hc:X.A.handled=none->c= .none)(hm:Cm X cm):∃oe vs,s.heap.get? a=some oe/\oe.cls= .ref C/\oe.data= .fields vs/\(cm=true->∃vs,oe.data= .fields vs/\vs[2]?=some .none):=by obtain⟨oe,vs,a0,e1,e2,b,e4,e,d⟩:=F.ex;exact⟨oe,vs,e1,e2,b,λz=>⟨vs,b,by rw[d,hc (hm z)]⟩⟩
theorem B0{x:Str}{d:Addr}{np G:Pos}{pins:List (Addr×Obj)}{s:Shared}{σ:L2.St}{H:Hp}{a C T:Addr}{c:Value}{b:Bool}{R:Result->Shared->Prop}(y:pP X.K d)(hm:X.mg x=some (.ref d))(B:Gl X x)(A:(x==("__debug__":Str))=false)(I:Inv X pins σ H s)(F:QF X pins H s a C T c .none)(e:PySem.W.subIn X.K (.ref C) (.ref d)=some b)(h:∀s1,Inv X pins σ H s1->QF X pins H s1 a C T c .none->R (.ok (if b then .brk else .next)) s1):codeAny (model X.prog X.w) (X.A.mark (some (.ref a))) (.handlers (.ref a) [.ExceptHandler (some (.Name x np)) none [] G] X.env) R s:=by
 obtain⟨oe,vs,a0,e1,e2,k,e4,n,o⟩:=F.ex;obtain⟨g,ts,f1,f2,t⟩:=F.tb;have i:Inv X ((T,g)::pins) σ H s:=I.qN λp f=>by
  rcases List.mem_cons.mp f with z|z;·rw[z];exact⟨f1,F.fT.un,F.fT.loc,K8 I.gZ f1 f2,λv q=>by rw[f2]at q;cases q⟩
  ·exact I.pin p (js _ z)
 have u:OK X ((T,g)::pins) H a:=⟨F.fa.un,F.fa.new,F.fa.loc,F.fa.cel,λp f=>by
  rcases List.mem_append.mp f with z|z;·exact F.fa.pin p (p_ _ z)
  ·rcases List.mem_cons.mp z with z|z;·rw[z];exact F.ne
   ·exact F.fa.pin p (js _ z)⟩;have m:Inv (DI X a oe false) ((T,g)::pins) σ H s:=Ro i e1 k u (λz=>nomatch z);refine codeAny_handlers_test (fE (gQ (X:=DI X a oe false) (a:=d) hm B A _ _ _ _ (λv H'=>v= .ref d/\H'=H) m ⟨rfl,rfl⟩) (λv s1 D=>?_) λ_ _ z=>z.elim);obtain⟨w,H',J,r,rfl,rfl⟩:=D;cases(show v=Value.ref d from r);have l:=(J.pin (a,oe) (by simp)).1;have E:=(J.pin (T,g) (by simp)).1;have j:Inv X pins σ H' s1:=(nZ I.ok J).qN λp f=>i.ok|>λ_=>(nZ I.ok J).pin p (js _ (dX _ f));exact C4 j.kS l e2 y e (h s1 j ⟨⟨oe,vs,a0,l,e2,k,e4,n,o⟩,⟨g,ts,E,f2,t⟩,F.ne,F.fa,F.fT⟩)
theorem MP{pins:List (Addr×Obj)}{s:Shared}{σ:L2.St}{H:Hp}{a C T:Addr}{c fl:Value}{A:Around}{E:Value->Shared->Prop}{Q:Unit->Shared->Prop}(I:Inv X pins σ H s)(F:QF X pins H s a C T c fl)(hc:X.A.handled=none->c= .none)(hm:Cm X cm)(h:∀s1 oe,Inv (DI X a oe cm) pins σ H s1->oe.cls= .ref C->Q () s1):wpAny (model X.prog X.w) A (setFlight (.ref a) none) Q E s:=by
 refine gN F.ex F.tb F.ne λh' x1 x2 d=>?_;have p:Ka (jL X.stack) [T] s.heap h':=⟨λb o e _ m=>(d b (by simpa using m)).trans e,λb o e _ m=>⟨o.slots,(d b (by simpa using m)).trans e⟩⟩;have J:=Inv.uR I p λb hb=>by rw[List.mem_singleton.mp hb];exact F.fT
 have f:QF X pins H {s with heap:=h'} a C T c .none:=⟨x1,x2,F.ne,F.fa,F.fT⟩;obtain⟨oe,vs,e1,e2,g,e4⟩:=Ts f hc hm;exact h _ oe (Ro J e1 g F.fa e4) e2
noncomputable def hCl(K:PySem.W.Frag)(c:Addr)(ts tr:TH):TH:=λC a D σ H=>∃b,PySem.W.subIn K (.ref C) (.ref c)=some b/\if b=true then ts C a D σ H else tr C a D σ H
theorem yA{x:Str}{d:Addr}{np u:Pos}{i:Stmt}{j:List Stmt}{rest:List ExceptHandler}{ts tr:TH}(cm:Bool)(m:pP X.K d)(hm:X.mg x=some (.ref d))(p:Gl X x)(n:Cm X cm)(t:∀(a C:Addr)(oe:Obj),oe.cls= .ref C->gT (DI X a oe cm) (i::j) (ts C a))(r:PH X rest tr)(o:(x==("__debug__":Str))=false:=by decide):PH X (.ExceptHandler (some (.Name x np)) none (i::j) u::rest) (hCl X.K d ts tr):=by
 intro pins s σ H D a C T c I F hc h;obtain⟨b,e,h⟩:=h;refine wpAny_handleBy_cons (B0 m hm p o I F e λs1 J g=>?_) (by intro q;cases q);cases b with
  |false=>
   have h:tr C a D σ H:=by simpa using h
   exact r pins s1 σ H D a C T c J g hc h
  |true=>
   have h:ts C a D σ H:=by simpa using h
   refine codeAny_handlers_suite (MP J g hc n λs2 oe k l=>?_);exact fE (t a C oe l pins s2 σ H D k h) (λf v q=>aaf I.ok q) λ_ _ z=>z.elim
noncomputable def D1(i:Nat)(D:Ends):Ends:={nx:=λσ H=>D.nx (σ.set i none) H,rt:=D.rt,bk:=λσ H=>D.bk (σ.set i none) H,ct:=λσ H=>D.ct (σ.set i none) H}
end
noncomputable abbrev TB:=Ends->(Addr->L2.St->Hp->Prop)->L2.St->Hp->Prop
def BX(X:Cx)(pins:List (Addr×Obj))(G:Addr->L2.St->Hp->Prop)(e:Value)(s':Shared):Prop:=∃(a C T:Addr)(c:Value)(b:L2.St)(H':Hp),e= .ref a/\Inv X pins b H' s'/\QF X pins H' s' a C T c .none/\(X.A.handled=none->c= .none)/\G C b H'
def PB(X:Cx)(body:List Stmt)(t:TB):Prop:=∀(pins:List (Addr×Obj))(s:Shared)(σ:L2.St)(H:Hp)(D:Ends)(G:Addr->L2.St->Hp->Prop),Inv X pins σ H s->t D G σ H->wpAny (model X.prog X.w) X.A (execs body X.env) (SP X pins D) (BX X pins G) s
noncomputable def aaS(tb:TB)(th:TH):TS:=λD σ H=>tb D (λC b H'=>∀a,H' a=none->th C a D b H') σ H
theorem L5{X:Cx}{body:List Stmt}{h₀:ExceptHandler}{j:List ExceptHandler}{tb:TB}{th:TH}{x:Pos}(t:X.ex=[])(d:X.stack=X.env::X.outer)(hf:X.env.frame=some X.env.locals)(hb:PB X body tb)(hh:PH X (h₀::j) th):PS X (.Try body (h₀::j) [] [] x) (aaS tb th):=by
 intro pins s σ H D I h;refine wpAny_Try_except (fE (hb pins s σ H D _ I h) (λf s1 q=>?_) λe s1 q=>?_);·cases f with|next=>exact(by first|exact wpAny_execs_nil q|(rw[execs];exact aU q)|exact aU q)|brk=>exact q|cont=>exact q|ret u=>exact q
 ·obtain⟨a,C,T,c,g,H',rfl,J,F,hc,q⟩:=q;refine wQ (by rw[J.ok.frames,d]) (d▸J.stack) hf F.ex F.tb F.ne λh1 T1 x1 y l k v=>gN (s:={s1 with heap:=h1}) x1 y k λh2 x2 A n=>?_;have p:Inv X pins g H' {s1 with heap:=h1}:=Inv.uR J (d▸v) λb hb=>by
   rcases List.mem_cons.mp hb with z|z;·rw[z];exact F.fa
   ·rw[List.mem_singleton.mp z];exact F.fT
  have i:OK X pins H' T1:=k_ J l (by rw[t];simp) (mw J.bX l);have w:Ka (jL X.stack) [T1] h1 h2:=⟨λb o e _ m=>(n b (by simpa using m)).trans e,λb o e _ m=>⟨o.slots,(n b (by simpa using m)).trans e⟩⟩;have r:Inv X pins g H' {s1 with heap:=h2}:=Inv.uR (s:={s1 with heap:=h1}) p w λb hb=>by rw[List.mem_singleton.mp hb];exact i
  exact hh pins _ g H' D a C T1 c r ⟨x2,A,k,F.fa,i⟩ hc (q a F.fa.un)
theorem Vh{X:Cx}{x:Str}{k:Nat}{ps:List Str}{sp:Sp}{e:Expr}{es:List Expr}{t:TA}{p g:Pos}{pins:List (Addr×Obj)}{s:Shared}{σ:L2.St}{H:Hp}{Q:VK}{G:Addr->L2.St->Hp->Prop}(F:bj X.prog X.w X.K X.mg (fG X.prog X.w) x k ps sp)(A:cZ k X.A)(w:Gl X x)(B:X.ex=[])(ha:PA X.Nc (e::es) t)(u:(x==("__debug__":Str))=false)(v:starEach (e::es) X.env=(false,eval e X.env)::starEach es X.env)(y:(backTo g (starEach es X.env)).any (·.1)=false)(hc:X.calm=true)(I:Inv X pins σ H s)(h:t σ H λvs i=>sp vs i Q λj _ n=>∃C,j= .ref C/\G C σ n):wpAny (model X.prog X.w) X.A (eval (.Call (.Name x p) (e::es) [] g) X.env) (EP X pins σ Q) (BX X pins G) s:=by obtain⟨f,fd,F,m,kp,b⟩:=F;refine wpAny_Call_Name_kw (j4 I w m ?_ u);refine PySem.W.callWith_K (h₀:=X.base) I.ok.mod.JA kp (fE (ha g pins s σ H _ (I.tS _) h) (λus s1⟨vs,i,d,r,q⟩=>⟨d.gf.kS,?_⟩) λ_ _ z=>z.elim) v y;refine Gh F A b d.gf hc (λe s' hc=>?_) r q;obtain⟨a,C,T,c,H',rfl,J,l,hn,D,o,q⟩:=E4 d.gf B hc;cases o;exact⟨a,C,T,c,σ,H',rfl,J,l,hn,q⟩
noncomputable def ab9(i:Nat)(sp:Sp)(t:TA):TB:=λD G σ H=>t σ H λvs c=>sp vs c (λv a=>D.nx (σ.set i (some v)) a) λb _ a=>∃C,b= .ref C/\G C σ a
theorem Ut{X:Cx}{x y:Str}{i k:Nat}{ps:List Str}{sp:Sp}{e:Expr}{es:List Expr}{t:TA}{p a pos' b:Pos}(g:X.N.Nodup)(hi:X.N[i]?=some y)(u:Loc X.env.scope y)(F:bj X.prog X.w X.K X.mg (fG X.prog X.w) x k ps sp)(o:cZ k X.A)(m:Gl X x)(r:X.ex=[])(ha:PA X.Nc (e::es) t)(q:swapsWith (.Call (.Name x p) (e::es) [] a) (some (.Name y b)) pos'.line X.env=pure false:=by rfl)(hf:X.fn y=true\/X.env.scope.names.lookup y=some .local:=by first|exact .inl rfl|exact .inr rfl|assumption)(j:(x==("__debug__":Str))=false:=by decide)(l:starEach (e::es) X.env=(false,eval e X.env)::starEach es X.env:=by rfl)(n:(backTo a (starEach es X.env)).any (·.1)=false:=by rfl)(hc:X.calm=true:=by rfl):PB X [.Assign [.Name y b] (.Call (.Name x p) (e::es) [] a) pos'] (ab9 i sp t):=by intro pins s σ H D G I h;refine wpAny_execs_cons (wpAny_Assign_Name (bQ (Vh F o m r ha j l n hc I h) λv s1 A=>?_) q);obtain⟨z,c,d,w,q1⟩:=A;exact ju d g hi u w (λs2 f=>wpAny_execs_nil ⟨_,c,f,q1⟩) hf
structure acd(K:PySem.W.Frag)(C:Addr):Prop where
 ga:PySem.W.findIn K (.ref C) "__getattribute__"=some (some (.builtin "BaseException.__getattribute__"))
 cl:PySem.W.findIn K (.ref C) "__class__"=some (some (.builtin "object.__class__"))
 gt:PySem.W.findIn K (.ref C) "__getattr__"=some none
 ob:PySem.W.mroIn K C (.type "object")=some true
 be:PySem.W.mroIn K C (.type "BaseException")=some true
 is:(PySem.W.clsIn K C).isSome=true
section
variable{prog:Program}{w:World}{A:Around}{E:Value->Shared->Prop}{h:Heap}{g:Array GenState}{d:Drawn}{t:Nat}{os:OsState}{a C:Addr}{o:Obj}{K:PySem.W.Frag}
end
section
variable{X:Cx}{pins:List (Addr×Obj)}{σ:L2.St}{H:Hp}{s:Shared}{a:Addr}{D:List (Str×V)}{k:Str}{tk:Tok}{A:Around}{E:Value->Shared->Prop}
theorem K3{Q:Value->Shared->Prop}(T:gV X.K a D)(I:Inv X pins σ H s)(h:∀b,RelV ((KTD.datumAt k D).getD .aP) b->Q b {s with toks:=s.toks+1}):wpAny (model X.prog X.w) A (call (.builtin "dict.get") [.ref a, .str k tk]) Q E s:=by
 have ty:=T.typeIs I;refine iQ PySem.F.slot_dict_get ty PySem.F.entry_dict_get ?_ (PySem.F.args_dict_get_2 _ _);show wpAny (model X.prog X.w) _ (dictGet a (.str k tk)>>=_) _ _ s;refine aj (rm T I (λv u e r=>?_) λhn=>?_);·have h:=h u (by rw[e];exact r);exact aU ⟨u,rfl,h⟩
 ·have h:=h .none (by rw[hn];exact rfl);refine aj ?_;unfold Builtin.Dict.missed;rw[T.sys];simp only[pW,if_false];exact aU (aU ⟨_,rfl,h⟩)
end
noncomputable def Vg(K:PySem.W.Frag)(td ty:TE):TE:=λσ H Q=>td σ H λx b=>∃a D,x= .ref a/\gV K a D/\ty σ b λy c=>∃k,y= .str k/\Q ((KTD.datumAt k D).getD .aP) c
theorem LN{X:Cx}{o e:Expr}{apos eN:Pos}{td ty:TE}(l:PE X o td)(j:PE X e ty)(m:M1 X o "get" apos e eN):PE X (.Call (.Attribute o "get" apos) [e] [] eN) (Vg X.K td ty):=by
 intro pins s σ H Q I h;refine wpAny_Call_method m.base m.few m.line PySem.F.plainAttrs_dict PySem.F.slot_dict_get PySem.F.type_dict_get (bQ (l pins s σ H _ I h) λu s1 v=>?_);obtain⟨x,f,c,n,a,D,ex,T,q1⟩:=v;subst ex;obtain rfl:u=Value.ref a:=n;have t1:=T.typeIs c;refine⟨t1,λb q=>?_,?_⟩;·cases q;obtain⟨o,_,_,e,x,_⟩:=T.ex;exact⟨o,c.kS a o e,x.2.1⟩
 rw[m.trees];refine Calls.callWith_builtin rfl (Calls.evalArgs_plain (Calls.spliced_cons (bQ (j pins s1 σ f _ c q1) λw s2⟨y,g,d,p,k,i,q2⟩=>Calls.spliced_nil ?_)));subst i;obtain⟨t,rfl⟩:=p;exact K3 T d λz r=>⟨_,g,d.tok _,r,q2⟩
noncomputable def YS(K:PySem.W.Frag)(a:Addr):It:=⟨λi H=>∃xs x,bN K H a xs/\xs[i]?=some x,λi H v H'=>∃p x,v= .ref p/\H p=none/\H'=upd H p (.tup [.int i,x])/\∀xs,bN K H a xs->xs[i]?=some x,λi H=>∃xs,bN K H a xs/\xs.length=i⟩
structure abG(a e it:Addr)(i:Nat)(h:Heap):Prop where
 e:∃old,IsEnum h e it i old
 it:h.IsListIter it a i
theorem Iu{P:Program}{w:World}{K:PySem.W.Frag}{es:List Expr}{k:Nat}{R:Pos}(a n:Nat):Turn P w K (.Tuple es k R) (YS K a) [n+1,n] (n+1) (abG a (n+1) n)where
 mem:=by simp
 obj:=λi h st c hc=>by
  simp only[eB,fH,or_false]at hc;obtain⟨old,e0⟩:=st.e;obtain⟨r,e1,_,G⟩:=st.it;rcases hc with rfl|rfl;·exact⟨_,e0,λv q=>by cases q⟩
  ·exact⟨r,e1,λv q=>by rw[G]at q;cases q⟩
 keep:=λi h h' st kp=>by obtain⟨old,e0⟩:=st.e;obtain⟨r,e1,V⟩:=st.it;exact⟨⟨old,kp _ (by simp) _ e0⟩,⟨r,kp _ (by simp) _ e1,V⟩⟩
 item:=by
  intro X l hw j hc i pins s σ H E I hf st p;subst l hw j;obtain⟨xs,x,q1,C⟩:=p;obtain⟨f,u,t,_⟩:=I.list q1;obtain⟨y,B,W⟩:=u.get C;obtain⟨old,e0⟩:=st.e;have D:=bL e0;have M:i<f.toArray.size:=by rw[cM];exact(List.getElem?_eq_some_iff.mp B).1
  have g:∀d∈[n+1,n],a≠d:=λd hd=>nI I q1 (hf d hd);have N:∀d∈[n+1,n],d∉gA X.A.in1:=λd hd z=>I.EG hc (hf d hd).2.2.2.1 (hf d hd).2.2.2.2.2 d (gY z) rfl;have m:∀d∈[n+1,n],∀a,X.A.in1.handled=some (.ref a)->a≠d:=λd hd=>I.EG hc (hf d hd).2.2.2.1 (hf d hd).2.2.2.2.2;have L:n+1∉(n::a::gA X.A.in1):=by simp only[eB,not_or];exact⟨by lia,Ne.symm (g (n+1) (by simp)),N (n+1) (by simp)⟩
  refine wpAny_pyNext_enum_itemD (hZ n a (g n (by simp)) (m n (by simp)) f.toArray) e0 ⟨st.it,t.isList,I.hb hc⟩ M (Nat.succ_ne_self n) L λF h1 tk ex Y s1 S sz kp=>?_;have ex:f.toArray[i]?=some F:=ex;have ex:y=F:=by rw[List.getElem?_toArray,B]at ex;exact Option.some.inj ex
  subst ex;refine⟨_,rfl,wpAny_letOwnedTupleGo_enum (s:={s with heap:=h1,toks:=tk+1}) Y λh2 Z sb=>?_⟩;have lt:∀d∈[n+1,n],d<s.heap.objs.size:=λd hd=>by
   have :d<=n+1:=by simp at hd;lia
   exact Nat.lt_of_le_of_lt this D
  have up:∀c o,c≠n+1->h1.get? c=some o->h2.get? c=some o:=λc o b e=>(sb.2 c b).trans e;have U:h2.get? s.heap.objs.size=some {cls:= .type "tuple",data:= .seq #[.int i tk,y]}:=up _ _ (Nat.ne_of_gt D) S;refine⟨.ref s.heap.objs.size,_,nB (s:=s) (h':=h2) (t':=tk+1) (ch:=[n+1,n]) (T:=s.heap.objs.size) (o:= .tup [.int i,x]) I (λc o b e=>?_) hf (bJ _) ?_,rfl,⟨_,x,rfl,I.bX.fresh (bJ _),rfl,λxs' a1=>?_⟩,?_,λd hd=>?_⟩;·simp only[eB,fH,or_false,not_or]at b;exact up c o b.1 (kp c o b.1 b.2 e)
  ·exact⟨(dw rfl),[.int i tk,y], .cons ⟨tk,rfl⟩ (.cons W .nil),⟨_,U,rfl,_,rfl⟩⟩
  ·rw[I.lY a1 q1];exact C
  ·obtain⟨⟨O,J,ra⟩,_⟩:=s1;refine⟨⟨_,by simpa using Z⟩,⟨O,up _ _ (by lia) J,ra⟩⟩
  ·rw[bf (dN (lt d hd))];exact(hf d hd).1
 done:=by
  intro X l hw j hc i pins s σ H E I hf st p;subst l hw j;obtain⟨xs,q1,hl⟩:=p;obtain⟨f,u,t,_⟩:=I.list q1;obtain⟨old,e0⟩:=st.e;have g:∀d∈[n+1,n],a≠d:=λd hd=>nI I q1 (hf d hd);have m:∀d∈[n+1,n],∀a,X.A.in1.handled=some (.ref a)->a≠d:=λd hd=>I.EG hc (hf d hd).2.2.2.1 (hf d hd).2.2.2.2.2;have hi:f.toArray.size=i:=by rw[cM,<-u.length];exact hl
  subst hi;refine wpAny_pyNext_enum_endD (hZ n a (g n (by simp)) (m n (by simp)) f.toArray) e0 ⟨st.it,t.isList,I.hb hc⟩ λh1 kp=>⟨rfl,?_⟩;refine AH (t':=s.toks) (ch:=[n+1,n]) I (λc o b e=>?_) hf;simp only[eB,fH,or_false,not_or]at b;exact kp c o b.2 e
 self:=λA i s Q E st h=>by obtain⟨old,e0⟩:=st.e;exact wpAny_pyIter_enum e0 h
noncomputable def abk(K:PySem.W.Frag)(c:TA):TI:=λσ H R=>c σ H λvs b=>∃a xs,vs=[.ref a]/\bN K b a xs/\R (YS K a) b
theorem Ck{X:Cx}{es:List Expr}{k:Nat}{v:Pos}{a:Expr}{g:TA}{p f:Pos}(l:Gl X "enumerate")(hm:X.mg "enumerate"=none)(ha:PA X [a] g)(m:starEach [a] X.env=[(false,eval a X.env)]:=by rfl):PI X (.Tuple es k v) (.Call (.Name "enumerate" p) [a] [] f) (abk X.K g):=by
 intro pins s σ H R I h;refine Call_ (jt I l hm boot_enumerate (PyProof.Rows.callWith_type1 (bQ (ha f pins s σ H _ I h) λus s1⟨vs,c,b,r,q1⟩=>?_) (by rw[m];rfl) (by rfl)));obtain⟨a1,xs,e,n,q⟩:=q1;subst e;obtain⟨y,rfl,t⟩:=Vals.one r;cases t;obtain⟨w,x,o,_⟩:=b.list n;refine call_enumerate_list o.isList λh1 i u sz kp=>?_;refine wpAny_pyIter_enum (s:={s1 with heap:=h1}) i ?_;have j:Inv X pins σ c {s1 with heap:=h1}:=b.kept (t':=s1.toks) kp;refine⟨_,_,_,_,c,rfl,j,Iu a1 s1.heap.objs.size,⟨⟨_,i⟩,u⟩,λd hd=>?_,q⟩;have :s1.heap.objs.size<=d:=by simp only[eB,fH,or_false]at hd;rcases hd with z|z<;>rw[z]<;>first|exact Nat.le_add_right _ _|exact bJ _
 exact b.DR this (b.bX.fresh this)
theorem gL{CX:oJ}{P:Program}{w:World}{K:PySem.W.Frag}{mg:Str->Option Value}{base:Heap}{N:List Str}{qual:Str}{scope:Scope}{f:Addr}{cd:Value}{A:Around}{outer:List Env}{s:Shared}{H:Hp}{E:XK}:(eS CX P w K mg base N qual scope f cd A outer s H E).Nc.K=K:=rfl
end L3
end
section
namespace L3
open PySem L2
theorem nH{t1 t2:TS}{D:Ends}{σ:L2.St}{H:Hp}(h:let a:Ends:=D;let b:TS:=t2;ba t1 b a σ H):(ba t1 (t2)) D σ H:=h
theorem El{t1 t2 a:TS}{D:Ends}{σ:L2.St}{H:Hp}(h:let b:Ends:=D;let d:TS:=a;let c:TS:=ba t2 d;ba t1 c b σ H):(ba t1 (ba t2 (a))) D σ H:=h
theorem IW{t1 t2 a t4:TS}{D:Ends}{σ:L2.St}{H:Hp}(h:let b:Ends:=D;let e:TS:=t4;let d:TS:=ba a e;let c:TS:=ba t2 d;ba t1 c b σ H):(ba t1 (ba t2 (ba a (t4)))) D σ H:=h
theorem Vc{t1 t2 a t4 b:TS}{D:Ends}{σ:L2.St}{H:Hp}(h:let c:Ends:=D;let g:TS:=b;let f:TS:=ba t4 g;let e:TS:=ba a f;let d:TS:=ba t2 e;ba t1 d c σ H):(ba t1 (ba t2 (ba a (ba t4 (b))))) D σ H:=h
theorem Px{t1 t2 a t4 b c:TS}{D:Ends}{σ:L2.St}{H:Hp}(h:let d:Ends:=D;let j:TS:=c;let i:TS:=ba b j;let g:TS:=ba t4 i;let f:TS:=ba a g;let e:TS:=ba t2 f;ba t1 e d σ H):(ba t1 (ba t2 (ba a (ba t4 (ba b (c)))))) D σ H:=h
theorem ab0{t1 t2 a t4 b c d:TS}{D:Ends}{σ:L2.St}{H:Hp}(h:let e:Ends:=D;let l:TS:=d;let k:TS:=ba c l;let j:TS:=ba b k;let i:TS:=ba t4 j;let g:TS:=ba a i;let f:TS:=ba t2 g;ba t1 f e σ H):(ba t1 (ba t2 (ba a (ba t4 (ba b (ba c (d))))))) D σ H:=h
theorem abS{t1 t2 a t4 b c d e:TS}{D:Ends}{σ:L2.St}{H:Hp}(h:let f:Ends:=D;let n:TS:=e;let m:TS:=ba d n;let l:TS:=ba c m;let k:TS:=ba b l;let j:TS:=ba t4 k;let i:TS:=ba a j;let g:TS:=ba t2 i;ba t1 g f σ H):(ba t1 (ba t2 (ba a (ba t4 (ba b (ba c (ba d (e)))))))) D σ H:=h
theorem aa5{t1 t2 a t4 b c d e f:TS}{D:Ends}{σ:L2.St}{H:Hp}(h:let g:Ends:=D;let p:TS:=f;let o:TS:=ba e p;let n:TS:=ba d o;let m:TS:=ba c n;let l:TS:=ba b m;let k:TS:=ba t4 l;let j:TS:=ba a k;let i:TS:=ba t2 j;ba t1 i g σ H):(ba t1 (ba t2 (ba a (ba t4 (ba b (ba c (ba d (ba e (f))))))))) D σ H:=h
theorem Ym{t1 t2 d t4 e f g i j a b c:TS}{D:Ends}{σ:L2.St}{H:Hp}(h:let k:Ends:=D;let n:TS:=c;let m:TS:=ba b n;let l:TS:=ba a m;let v:TS:=ba j l;let u:TS:=ba i v;let t:TS:=ba g u;let s:TS:=ba f t;let r:TS:=ba e s;let q:TS:=ba t4 r;let p:TS:=ba d q;let o:TS:=ba t2 p;ba t1 o k σ H):(ba t1 (ba t2 (ba d (ba t4 (ba e (ba f (ba g (ba i (ba j (ba a (ba b (c)))))))))))) D σ H:=h
end L3
end
section
namespace KM
theorem d0{t:D}{n:Nat}(h:depth t+0<=n):depth t<=n:=h
theorem q0{x:PySem.Str}{k n:Nat}(h:k+1<=n):depth (.tup [.str x])+k<=n:=by simp only[depth,aB];lia
theorem q1{x:PySem.Str}{a:D}{k n:Nat}(h:depth a+(k+1)<=n):depth (.tup [.str x,a])+k<=n:=by simp only[depth,aB];lia
theorem q2{x:PySem.Str}{a b:D}{k n:Nat}(h1:depth a+(k+1)<=n)(h2:depth b+(k+1)<=n):depth (.tup [.str x,a,b])+k<=n:=by simp only[depth,aB];lia
theorem q3{x:PySem.Str}{a b c:D}{k n:Nat}(h1:depth a+(k+1)<=n)(h2:depth b+(k+1)<=n)(h3:depth c+(k+1)<=n):depth (.tup [.str x,a,b,c])+k<=n:=by simp only[depth,aB];lia
theorem q4{x:PySem.Str}{a b c d:D}{k n:Nat}(h1:depth a+(k+1)<=n)(h2:depth b+(k+1)<=n)(h3:depth c+(k+1)<=n)(h4:depth d+(k+1)<=n):depth (.tup [.str x,a,b,c,d])+k<=n:=by simp only[depth,aB];lia
end KM
end
section
namespace L3
open PySem L2
theorem by0{P:List Value->Prop}(h:P []):∀us:List Value,us.length=0->P us:=λus e=>by rw[List.length_eq_zero_iff.mp e];exact h
theorem WU{P:List Value->Prop}{n:Nat}(h:∀a us,us.length=n->P (a::us)):∀us:List Value,us.length=n+1->P us|[],e=>nomatch e|a::us,e=>h a us (Nat.succ.inj e)
theorem kh{P:List Value->Prop}(h:∀a,P [a]):∀us:List Value,us.length=1->P us:=WU λa=>by0 (h a)
theorem DM{P:List Value->Prop}(h:∀a b,P [a,b]):∀us:List Value,us.length=2->P us:=WU λa=>kh (h a)
theorem Nn{P:List Value->Prop}(h:∀a b c,P [a,b,c]):∀us:List Value,us.length=3->P us:=WU λa=>DM (h a)
theorem by4{P:List Value->Prop}(h:∀a b c d,P [a,b,c,d]):∀us:List Value,us.length=4->P us:=WU λa=>Nn (h a)
theorem Rn{P:List Value->Prop}(h:∀a b c d e,P [a,b,c,d,e]):∀us:List Value,us.length=5->P us:=WU λa=>by4 (h a)
theorem by6{P:List Value->Prop}(h:∀a b c d e f,P [a,b,c,d,e,f]):∀us:List Value,us.length=6->P us:=WU λa=>Rn (h a)
def cg(K:PySem.W.Frag)(x:Str)(st:Stmt):Prop:=∃(f:Addr)(od an:Option Addr)(sl:Array (Option Value))(oc kV dc pm cd ct:Value),PySem.W.nsIn K mainGlobals x=some (some (.ref f))/\K.lookup f=some ⟨oc,od, .func (PySem.W.fnOf x x (fU st) (cC st) (ak st) .none kV dc pm an cd ct),sl⟩/\PySem.W.codeIn K cd x=true/\PySem.W.keepIn K (.ref f)=true
theorem dfi{K:PySem.W.Frag}{x:Str}{st:Stmt}{f:Addr}{od an:Option Addr}{sl:Array (Option Value)}{oc kV dc pm cd ct:Value}(a:PySem.W.nsIn K mainGlobals x=some (some (.ref f)))(l:K.lookup f=some ⟨oc,od, .func (PySem.W.fnOf x x (fU st) (cC st) (ak st) .none kV dc pm an cd ct),sl⟩)(c:PySem.W.codeIn K cd x=true)(k:PySem.W.keepIn K (.ref f)=true):cg K x st:=⟨f,od,an,sl,oc,kV,dc,pm,cd,ct,a,l,c,k⟩
theorem cg.df{K:PySem.W.Frag}{h:Heap}{mg:Str->Option Value}{x:Str}{st:Stmt}{ps:List Str}(D:cg K x st)(X:K.In h)(G:h.Ns mainGlobals mg)(b:∀(kV doc pm:Value)(an:Option Addr)(cF ct:Value)(us:List Value),us.length=ps.length->bindArgs (PySem.W.fnOf x x (fU st) (cC st) (ak st) .none kV doc pm an cF ct) ⟨us,[]⟩=pure (ps.zip us)):Df K mg x st ps:=by obtain⟨f,od,an,sl,oc,kV,dc,pm,cd,ct,a,l,c,k⟩:=D;exact⟨f,_,KG l c k,PySem.W.mg_of X G a,(KG l c k).binds b⟩
end L3
end
theorem L2.cZ.m{j k:Nat}{A:PySem.Around}(r:L2.cZ k A)(h:j<=k:=by first|decide|lia):L2.cZ j A:=r.mono h
section
namespace K25
open PySem L2 L3 KM
abbrev eA:List Str:=["_law_script","_law_tape","_law_deep","_law_near","_law_pool_here"]
abbrev IG:List Str:=["_law_script","_law_tape","_law_deep","_law_near","_law_pool_here","_law_way"]
abbrev FC:List Str:=["_law_script","_law_tape","_law_many"]
noncomputable def top(i:Nat):Stmt:=PySem.Challenge.pw_keeper_k25_whole_ways_meet.main.body.getD i (.Pass ⟨0,0,0,0⟩)
noncomputable abbrev gP:Stmt:=top 16
noncomputable abbrev g7:Stmt:=top 17
noncomputable abbrev fQ:Stmt:=top 18
noncomputable abbrev d8:Stmt:=top 19
noncomputable abbrev g6:Stmt:=top 20
noncomputable abbrev iV:Stmt:=top 21
noncomputable abbrev j7:Stmt:=top 22
noncomputable abbrev jW:Stmt:=top 23
noncomputable abbrev j3:Stmt:=top 24
noncomputable abbrev f9:Stmt:=top 25
noncomputable abbrev cN:Stmt:=top 26
noncomputable abbrev jQ:Stmt:=top 27
noncomputable abbrev jR:Stmt:=top 28
noncomputable abbrev lG:Stmt:=top 30
noncomputable abbrev iz:Stmt:=top 31
noncomputable abbrev eG:Stmt:=top 32
noncomputable abbrev j6:Stmt:=top 33
noncomputable abbrev d_:Stmt:=top 35
noncomputable abbrev jM:Stmt:=top 36
noncomputable abbrev jm:Stmt:=top 37
noncomputable abbrev jZ:Stmt:=top 40
noncomputable abbrev fJ:Stmt:=top 41
noncomputable abbrev fR:Stmt:=top 42
noncomputable abbrev j1:Stmt:=top 43
noncomputable abbrev eP:Stmt:=top 44
noncomputable abbrev eI:Stmt:=top 45
noncomputable abbrev ma:Stmt:=top 47
noncomputable abbrev iN:Stmt:=top 49
noncomputable abbrev gB:Stmt:=top 50
noncomputable abbrev eT:Stmt:=top 51
noncomputable abbrev iR:Stmt:=top 52
noncomputable abbrev gp:Stmt:=top 53
noncomputable abbrev iu:Stmt:=top 54
noncomputable abbrev gk:Stmt:=top 55
noncomputable abbrev gs:Stmt:=top 56
noncomputable abbrev eK:Stmt:=top 57
noncomputable abbrev eJ:Stmt:=top 58
noncomputable abbrev fe:Stmt:=top 59
noncomputable abbrev gq:Stmt:=top 60
noncomputable abbrev iX:Stmt:=top 61
noncomputable abbrev du:Stmt:=top 62
noncomputable abbrev gC:Stmt:=top 63
noncomputable abbrev gF:Stmt:=top 64
noncomputable abbrev iE:Stmt:=top 65
noncomputable abbrev jU:Stmt:=top 68
noncomputable abbrev Gi:Stmt:=top 69
structure ve where
 none_:Unit:=()
 kM:Addr
 gm:Addr
 jn:Addr
 H_:Addr
 dM:Addr
 cD:Addr
 yF:Addr
 OL:Addr
structure Mg(mg:Str->Option Value)(t:ve):Prop where
 Ra:mg "all"=none
 Wi:mg "bool"=none
 oG:mg "enumerate"=none
 XX:mg "int"=none
 dG:mg "isinstance"=none
 fB:mg "len"=none
 Ll:mg "list"=none
 LB:mg "max"=none
 Yb:mg "min"=none
 mX:mg "range"=none
 Z3:mg "str"=none
 qc:mg "tuple"=none
 Rb:mg "zip"=none
 g_MOST_KNOTS:∃tk,mg "MOST_KNOTS"=some (.int 600 tk)
 g_MOST_DEEP:∃tk,mg "MOST_DEEP"=some (.int 40 tk)
 g_MOST_VARIABLE:∃tk,mg "MOST_VARIABLE"=some (.int 99 tk)
 g_MOST_LETTERS:∃tk,mg "MOST_LETTERS"=some (.int 12 tk)
 g_LETTERS:∃tk,mg "LETTERS"=some (.str "abcdefghijklmnopqrstuvwxyz" tk)
 g_KIND_WORDS:mg "KIND_WORDS"=some (.ref t.kM)
 g_KIDS_DUE:mg "KIDS_DUE"=some (.ref t.gm)
 g_BINDER_OVER:mg "BINDER_OVER"=some (.ref t.jn)
 g_RULES:mg "RULES"=some (.ref t.H_)
 g_Great:mg "Great"=some (.ref t.dM)
 g_NoPlace:mg "NoPlace"=some (.ref t.cD)
 g_NoStep:mg "NoStep"=some (.ref t.yF)
 g_Dry:mg "Dry"=some (.ref t.OL)
seal L2.PE L2.PS L2.gT L2.PT L2.PW L2.PA L2.PG L2.uX L2.PI L2.PC L2.PO L2.DC L2.PK L3.vF
variable{P:Program}{w:World}{K:PySem.W.Frag}{mg:Str->Option Value}{base:Heap}{f:Addr}{fd:FuncData}
variable{P:Program}{w:World}{K:PySem.W.Frag}{mg:Str->Option Value}{base:Heap}{f:Addr}{fd:FuncData}
noncomputable def ZS:List (Key×V):=[(.inr "nat", .str ""),(.inr "none", .str ""),(.inr "zero", .str ""),(.inr "all", .str "kk"),(.inr "some", .str "kk"),(.inr "same", .str "ktt"),(.inr "fun", .str "kt"),(.inr "app", .str "tt")]
noncomputable def Z7:List (Key×V):=[(.inr "next", .str "t"),(.inr "rec", .str "kttt"),(.inr "like", .str "kt"),(.inr "carry", .str "ktt"),(.inr "never", .str "kt"),(.inr "pair", .str "ktt"),(.inr "first", .str "t")]
noncomputable def ZE:List (Key×V):=[(.inr "second", .str "t"),(.inr "var", .str "n"),(.inr "name", .str "w")]
noncomputable def cY(x:Str):V:=match fD ZS (Sum.inr x:Key)with|some v=>v|none=>match fD Z7 (Sum.inr x:Key)with|some v=>v|none=>(fD ZE (Sum.inr x:Key)).getD .aP
noncomputable def fC(w:Str):Bool:=QV (.str w) [.str "nat", .str "none", .str "all", .str "some", .str "same"]
noncomputable def iq:D->Bool| .int i=>decide (0<=i)|_=>false
mutual noncomputable def bh(nm:D->Bool)(k:Bool):D->Bool
 | .tup (.str w::ps)=>match cY w with| .str s=>(fC w==k)&&dQ nm s.cps.toList ps|_=>false
 |_=>false noncomputable def dQ(nm:D->Bool):List Nat->List D->Bool|[],[]=>true|c::cs,p::ps=>(if c=107 then bh nm true p else if c=116 then bh nm false p else if c=110 then iq p else nm p)&&dQ nm cs ps|_,_=>false end
noncomputable def cO(a:D->Bool)(c:Nat)(p:D):Bool:=if c=107 then bh a true p else if c=116 then bh a false p else if c=110 then iq p else a p
theorem az(a:D->Bool)(c:Nat)(cs:List Nat)(p:D)(ps:List D):dQ a (c::cs) (p::ps)=(cO a c p&&dQ a cs ps):=by rw[dQ];rfl
theorem cH{a:D->Bool}{k:Bool}{w s:Str}{ps:List D}(h1:cY w= .str s)(h2:fC w=k)(h3:dQ a s.cps.toList ps=true):bh a k (.tup (.str w::ps))=true:=by rw[bh,h1];simp[h2,h3]
theorem eg:cY "var"= .str "n":=by decide+kernel
theorem eY:cY "name"= .str "w":=by decide+kernel
theorem uu:fC "var"=false:=by decide+kernel
theorem Jc:fC "name"=false:=by decide+kernel
def Wd(k a:Bool)(w:Str):Prop:=(w="var"/\k=false)\/(w="name"/\k=false/\a=false)\/(w≠"var"/\w≠"name"/\w.length<=12/\fC w=k/\∃s,cY w= .str s/\(∀c∈s.cps.toList,c=107\/c=116)/\s.cps.size<=4/\(a=true->s=""))
theorem tY:(Str.ofString "n").cps.toList=[110]:=by decide+kernel
theorem C5:(Str.ofString "w").cps.toList=[119]:=by decide+kernel
theorem To{b:D->Bool}{z:Int}(a:0<=z)(h1:z<=99):bh b false (.tup [.str "var", .int z])=true:=by refine cH eg uu ?_;rw[tY,az];simp[cO,iq,a,h1,dQ]
theorem PM{a:D->Bool}{y:Str}(h:a (.str y)=true):bh a false (.tup [.str "name", .str y])=true:=by refine cH eY Jc ?_;rw[C5,az];simp[cO,h,dQ]
variable{P:Program}{w:World}{K:PySem.W.Frag}{mg:Str->Option Value}{base:Heap}{f fN fM fS:Addr}{fd fdN fdM fdS:FuncData}
noncomputable def w0(k:Bool):Str:=if k then"nat"else"var"
variable{t:ve}
end K25
end
section
namespace K25
open PySem L2 L3 KM
seal L2.PE L2.PS L2.gT L2.PT L2.PW L2.PA L2.PG L2.uX L2.PI L2.PC L2.PO L2.DC L2.PK L3.vF
variable{P:Program}{w:World}{K:PySem.W.Frag}{mg:Str->Option Value}{base:Heap}{t:ve}
noncomputable def b_:List (Str×List V):=[("nat",[]),("none",[]),("all",[.str "kind", .str "kind"]),("some",[.str "kind", .str "kind"]),("same",[.str "kind", .str "term", .str "term"]),("var",[]),("fun",[.str "kind", .str "term"]),("app",[.str "term", .str "term"]),("zero",[]),("next",[.str "term"]),("rec",[.str "kind", .str "term", .str "term", .str "term"]),("like",[.str "kind", .str "term"]),("carry",[.str "kind", .str "term", .str "term"]),("never",[.str "kind", .str "term"]),("pair",[.str "kind", .str "term", .str "term"]),("first",[.str "term"]),("second",[.str "term"]),("name",[])]
noncomputable def abc:Str:="abcdefghijklmnopqrstuvwxyz"
noncomputable def Ah(c:Nat):Bool:=!(Builtin.Str.occurrences abc ⟨#[c]⟩ 0 abc.length 1).isEmpty
noncomputable def ao:D->Bool| .str x=>decide ((1:Int)<=x.length)&&(decide ((x.length:Int)<=12)&&((b_.lookup x).isNone&&x.cps.toList.all Ah))|_=>false
noncomputable def vG(c:Nat):V:=if c=107 then .str "kind"else .str "term"
noncomputable def SQ(r:Str×List V):Bool:=match cY r.1 with| .str s=>decide (s.cps.size<=4)&&if r.1="var"then decide (s="n")else if r.1="name"then decide (s="w")else s.cps.toList.all (λc=>c==107||c==116)&&decide (r.2=s.cps.toList.map vG)|_=>false
theorem Pq:b_.all SQ=true:=by decide+kernel
theorem lookup_mem{a:Type}{x:Str}{v:a}:∀{l:List (Str×a)},l.lookup x=some v->(x,v)∈l
 |[],h=>by simp at h
 |(k,u)::l,h=>by
  rw[mP]at h;cases e:x==k with
   |true=>
    rw[e]at h;obtain rfl:x=k:=by simpa using e
    cases h;exact eC
   |false=>rw[e]at h;exact dX _ (lookup_mem h)
theorem lookup_none{a:Type}{x:Str}:∀{l:List (Str×a)},l.lookup x=none->x∉l.map (·.1)
 |[],_=>by simp
 |(k,u)::l,h=>by
  rw[mP]at h;cases e:x==k with
   |true=>rw[e]at h;cases h
   |false=>
    rw[e]at h;have :=lookup_none h;have e:¬x=k:=by simpa using e
    simp only[eF,eB,not_or];exact⟨e,this⟩
inductive Shp(w:Str):Prop where|aP(h1:b_.lookup w=none)(h2:cY w= .aP)|var(h1:b_.lookup w=some [])(h2:w="var")|name(h1:b_.lookup w=some [])(h2:w="name")|Ua(s:Str)(h1:b_.lookup w=some (s.cps.toList.map vG))(h2:cY w= .str s)(h3:w≠"var")(h4:w≠"name")(h5:∀c∈s.cps.toList,c=107\/c=116)(h6:s.cps.size<=4)
theorem Pg{tab:List (Key×V)}{w:Str}(h:∀k∈tab.map (·.1),k≠Sum.inr w):fD tab (Sum.inr w:Key)=none:=by cases e:fD tab (Sum.inr w:Key)with|none=>rfl|some v=>exact absurd rfl (h _ (Qe e))
noncomputable def Rc(k:Key)(l:List Str):Bool:=match k with| .inr x=>decide (x∈l)| .inl _=>true
theorem shp(w:Str):Shp w:=by
 cases h:b_.lookup w with
  |none=>
   refine .aP h ?_;have j:=lookup_none h;have sub:∀tab:List (Key×V),(tab.map (·.1)).all (λk=>Rc k (b_.map (·.1)))=true->fD tab (Sum.inr w:Key)=none:=λtab ht=>Pg λk i z=>by subst z;have :=List.all_eq_true.mp ht _ i;simp only[Rc,decide_eq_true_eq]at this;exact j this
   have e1:=sub ZS (by decide+kernel);have e2:=sub Z7 (by decide+kernel);have b:=sub ZE (by decide+kernel);unfold cY;rw[e1,e2,b];rfl
  |some ds=>
   have m:=lookup_mem h;have g:=List.all_eq_true.mp Pq _ m;unfold SQ at g;by_cases a:w="var";·subst a;exact .var (by decide+kernel) rfl
   ·by_cases hn:w="name";·subst hn;exact .name (by decide+kernel) rfl
    ·cases e:cY w with|str s=>rw[e]at g;simp only[a,hn,if_false,cf,List.all_eq_true,Bool.or_eq_true,beq_iff_eq,decide_eq_true_eq]at g;obtain⟨c,d,f⟩:=g;exact .Ua s (by rw[h,f]) e a hn d c|_=>rw[e]at g;simp at g
noncomputable def bC(x:Str):Bool:=decide (x="var")||decide (x="name")
noncomputable def av(x:Str)(ps:List D):List D:=if bC x=true then[]else ps
def d6:Sp:=λvs H Q _=>∃(x:Str)(ps:List D)(v:V),vs=[v]/\Rep H (.tup (.str x::ps)) v/\ps.length<=10/\∀(a:Addr)(us:List V)(H':Hp),H a=none->aL H H'->H' a=some (.lst us)->bE H' (av x ps) us->Q (.ref a) H'
theorem EV:aN ["thing"] ["thing"] (ak j3):=⟨rfl,rfl,rfl,by decide+kernel,rfl,by decide+kernel,by decide+kernel⟩
theorem JW(D:Df K mg "kids_of" j3 ["thing"])(M:Mg mg t):bj P w K mg bA "kids_of" (1) ["thing"] d6:=by
 refine D.ok EV (λvs H Q E h=>?_) (λbase f cF A outer s H vs Q E u h=>?_);·obtain⟨x,ps,v,rfl,_⟩:=h;rfl
 obtain⟨x,ps,v,rfl,r,hl,q⟩:=h;obtain⟨a,us,rfl,ha,B,us,rfl,⟨rfl,y⟩,i⟩:=r;have o:=i.length;have e:kZ (V.str x::us) 0=some (.str x):=aO (j:=0) rfl;have d:bS K H a (.str x::us):=bS.of ha;refine⟨_,(ag (bu (L2.PW.pt (lO (aD bP (aS aR (pv 0) ah (λ_ _=>rfl)) aE (aG _)) (jj (aD bP (aS aR (pv 0) ah (λ_ _=>rfl)) aE (aG _))))) (ai (aw (cA af))) aM) (ai (aw (oh md rfl M.Ll HV (aa (ip qO (pv 0) (eL ah) cJ) af))))),?_⟩;try dsimp only[gL,n]
 refine nH ?_;intro _ _;have leaf:bC x=true->0<=sizeLine/\∀p,H p=none->Q (.ref p) (upd H p (.lst [])):=λc=>⟨d4 _,λp b=>q p [] _ b (ar b _) aq (by unfold av;rw[if_pos c];exact rfl)⟩;refine⟨_,rfl,a,_,_,_,rfl,rfl,d,e,rfl,_,rfl,?_⟩;refine aV (λc=>?_) (λc=>?_);·refine pR ?_;have c:V.str x=V.str "var":=of_decide_eq_true c;cases c;exact leaf rfl
 refine⟨_,rfl,a,_,_,_,rfl,rfl,d,e,rfl,_,rfl,?_⟩;refine aV (λc2=>?_) (λc2=>?_);·have c2:V.str x=V.str "name":=of_decide_eq_true c2;cases c2;exact leaf (by decide+kernel)
 have m:bC x=false:=by unfold bC;have h1:x≠"var":=λz=>c (by rw[z];decide+kernel);have h2:x≠"name":=λz=>c2 (by rw[z];decide+kernel);simp[h1,h2]
 have k:av x ps=ps:=by unfold av;rw[m];rfl
 rw[k]at q;have g:iK (V.str x::us) (some 1) none=us:=by have :=hI (V.str x::us) 1;simpa using this
 refine⟨_,rfl,_,rfl,a,_,rfl,d,λp b=>?_,λz=>?_⟩;·rw[g];refine⟨p,us,rfl, .inr (bS.of aq),λl hl=>?_⟩;exact q l us _ ((ar b _).free hl) ((ar b _).trans (ar hl _)) aq (i.mono ((ar b _).trans (ar hl _)))
 ·rw[g]at z;exact absurd (congrArg List.length z) (by simp)
theorem lD{a:D->Bool}:∀{cs:List Nat}{ps:List D},dQ a cs ps=true->cs.length=ps.length|[],[],_=>rfl|[],_::_,h=>by simp[dQ]at h|_::_,[],h=>by simp[dQ]at h|c::cs,p::ps,h=>by rw[az,cf]at h;rw[hV,hV,lD h.2]
noncomputable def WK(c:Nat):Bool:=!(Builtin.Str.occurrences (Str.ofString "kt") ⟨#[c]⟩ 0 (Str.ofString "kt").length 1).isEmpty
theorem kt1:WK 107=true:=by decide+kernel
theorem kt2:WK 116=true:=by decide+kernel
theorem kt3:WK 110=false:=by decide+kernel
theorem kt4:WK 119=false:=by decide+kernel
theorem bB{f:D->Bool}{k:Bool}{x:Str}{ps:List D}(h:bh f k (.tup (.str x::ps))=true):∃s,cY x= .str s/\fC x=k/\dQ f s.cps.toList ps=true/\s.cps.size<=4/\s.cps.toList.length=ps.length/\(∀c∈s.cps.toList,WK c=!bC x)/\(bC x=false->∀c∈s.cps.toList,c=107\/c=116)/\∃r,b_.lookup x=some r/\r.length=(av x ps).length:=by
 have d:∀s,cY x= .str s->fC x=k/\dQ f s.cps.toList ps=true:=λs e=>by rw[bh,e,cf]at h;exact⟨by simpa using h.1,h.2⟩
 cases shp x with
  |aP h1 h2=>rw[bh,h2]at h;simp at h
  |var h1 h2=>subst h2;obtain⟨b,a⟩:=d _ eg;refine⟨_,eg,b,a,by decide,lD a,λc hc=>?_,λz=>absurd z (by decide+kernel),_,h1,by unfold av;rw[if_pos (by decide+kernel)];rfl⟩;rw[tY]at hc;rw[List.mem_singleton.mp hc,kt3];decide+kernel
  |name h1 h2=>subst h2;obtain⟨b,a⟩:=d _ eY;refine⟨_,eY,b,a,by decide,lD a,λc hc=>?_,λz=>absurd z (by decide+kernel),_,h1,by unfold av;rw[if_pos (by decide+kernel)];rfl⟩;rw[C5]at hc;rw[List.mem_singleton.mp hc,kt4];decide+kernel
  |Ua s h1 h2 h3 h4 h5 h6=>
   obtain⟨b,a⟩:=d s h2;have g:bC x=false:=by unfold bC;simp[h3,h4]
   refine⟨s,h2,b,a,h6,lD a,λc hc=>?_,λ_=>h5,_,h1,?_⟩
   ·rw[g];rcases h5 c hc with z|z<;>rw[z];·exact kt1
    ·exact kt2
   ·unfold av;rw[g,c_,lD a];rfl
end K25
end
section
namespace K25
open PySem L2 L3 KM PyProof.Rows
seal L2.PE L2.PS L2.gT L2.PT L2.PW L2.PA L2.PG L2.uX L2.PI L2.PC L2.PO L2.DC L2.PK L3.vF
variable{P:Program}{w:World}{K:PySem.W.Frag}{mg:Str->Option Value}{base:Heap}{t:ve}
noncomputable def BO:List (Str×V):=[("all", .int 1),("some", .int 1),("fun", .int 1),("rec", .int 0),("carry", .int 0)]
noncomputable def CL(x:Str):V:=(KTD.datumAt x BO).getD .aP
noncomputable def ly(x:Str)(i:Nat):V:=if decide (V.int i=CL x)=true then .int 1 else .int 0
noncomputable def E5(x:Str)(n:Nat):List V:=(List.range n).map (ly x)
def xC:Sp:=λvs H Q _=>∃(x:Str)(ps:List D)(v:V)(k:Bool),vs=[v]/\Rep H (.tup (.str x::ps)) v/\bh ao k (.tup (.str x::ps))=true/\∀(a:Addr)(H':Hp),aL H H'->H' a=some (.lst (E5 x (av x ps).length))->Q (.ref a) H'
theorem JY(x:Str)(i:Int):TN (.int i) (CL x)=true:=by
 unfold CL;cases e:KTD.datumAt x BO with
  |none=>rfl
  |some v=>
   have :v= .int 1\/v= .int 0:=by
    simp only[KTD.datumAt,BO]at e;repeat' split at e
    all_goals first|(cases e;exact .inl rfl)|(cases e;exact .inr rfl)|cases e
   rcases this with z|z<;>rw[z]<;>rfl
theorem pK:aN ["thing","over"] ["thing"] (ak f9):=⟨rfl,rfl,rfl,by decide+kernel,rfl,by decide+kernel,by decide+kernel⟩
theorem D3(D:Df K mg "binds_of" f9 ["thing"])(M:Mg mg t){as:List Addr}(T:KD K t.gm b_ as)(B:gV K t.jn BO):bj P w K mg bA "binds_of" (1) ["thing"] xC:=by
 refine D.ok pK (λvs H Q E h=>?_) (λbase f cF A outer s H vs Q E S h=>?_);·obtain⟨x,ps,v,k,rfl,_⟩:=h;rfl
 obtain⟨x,ps,v,k,rfl,r,wf,q⟩:=h;obtain⟨a,us,rfl,ha,Z,us,rfl,⟨rfl,X⟩,G⟩:=r;have O:=G.length;have m:kZ (V.str x::us) 0=some (.str x):=aO (j:=0) rfl;have o:bS K H a (.str x::us):=bS.of ha;obtain⟨Y,U,J,W,h4,hlen,L,_,d,F,u⟩:=bB wf;obtain⟨b,y,z⟩:=T.some F;have hn:(av x ps).length<=4:=by
  unfold av;split;·exact d4 _
  ·rw[<-hlen];simpa using h4
 refine⟨_,(ag (aH (i:=1) pK.nd rfl (cI rfl) (LN (gQ M.g_BINDER_OVER rfl) (aS aR (pv 0) ah (λ_ _=>rfl)) ⟨rfl,rfl,rfl,rfl⟩)) (ai (aw (gI (N':=["number","over"]) (own:=1) (fr:=[1]) rfl (iI (N:=["thing","over"]) (sc:=ak f9) rfl rfl rfl (by decide+kernel)) (gX rfl M.mX (aa (bw bx rfl M.fB dP (aa (Kr (gQ M.g_KIDS_DUE rfl) (aS aR (pv 0) ah (λ_ _=>rfl)) (λ_ _=>rfl)) af)) af)) (ij (by decide)) (λ_ _ _=>(bI (i:=0) (show List.Nodup (["number","over"]:List Str)by decide+kernel) rfl (Or.inl rfl))) (λ_ _ _=>gG) (λ_ _ _=>(ig (aD bP (pv 0) (pv 1) (aG _)) ah ah)))))),?_⟩;try dsimp only[gL,I]
 refine nH ?_;intro _ _;refine⟨_,_,rfl,B,_,rfl,a,_,_,_,rfl,rfl,o,m,x,rfl,?_⟩;refine⟨_,rfl,a,_,_,_,rfl,rfl,o,m,_,_,x,_,rfl,rfl,T.tab,y,b,_,rfl, .inr (z H),_,rfl,(by show-(2^62)<=((d.length:Nat):Int);omega),(by show((d.length:Nat):Int)<2^62;omega),λp C=>j8 d.length (ly x) C (by rw[u];exact cS hn (by decide)) (λi g hi s2=>⟨hi,?_⟩) λg s2 h2=>⟨bJ _,?_⟩⟩
 ·rintro x' l⟨rfl,rfl⟩R n;have e0:(0:Int)+(i:Int)=((i:Nat):Int):=by omega
  rw[e0];refine⟨_,rfl,_,rfl,JY x i,_,rfl,?_⟩;refine aV (λc=>?_) (λc=>?_)
  ·have e:ly x i= .int 1:=by unfold ly;exact if_pos c
   have :=n l (aL.refl _);rw[e]at this;exact this
  ·have e:ly x i= .int 0:=by unfold ly;exact if_neg c
   have :=n l (aL.refl _);rw[e]at this;exact this
 ·rw[u]at h2;exact q p g s2 h2
theorem mQ(x:Str):∀ws:List Str,QV (.str x) (ws.map V.str)=decide (x∈ws)
 |[]=>rfl
 |y::ws=>by
  have a:=mQ x ws;unfold QV at a⊢;rw[eF,List.any_cons,a];show(y==x||decide (x∈ws))=decide (x∈y::ws);by_cases e:y=x;·subst e;simp
  ·have e':¬x=y:=λz=>e z.symm;simp[e,e']
theorem nU:∀{ps:List D}{i:Nat}{p:D},ps[i]?=some p->depth p<=aB ps|[],_,_,e=>by simp at e|p::ps,0,_,e=>by simp at e;subst e;simp only[aB];omega|_::ps,i+1,p,e=>by have :=nU (ps:=ps) (i:=i) (by simpa using e);simp only[aB];omega
end K25
end
section
namespace L3
open PySem PySem.Spec PyProof.Rows L2 KM
theorem Nz{X:Cx}{K:PySem.W.Frag}(a:X.K=K:=by rfl):ji X (binaryOp .Add) (Rk K):=a▸Hd
theorem M5{prog:Program}{w:World}{A:Around}{E:Value->Shared->Prop}{s:Shared}{t b:Addr}{ws:List Value}{Q:Value->Shared->Prop}(ht:IsTup s.heap t (([]:List Value)).toArray)(hb:IsTup s.heap b ws.toArray)(h1:Q (.ref b) s):wpAny (model prog w) A (binaryOp .Add (.ref t) (.ref b)) Q E s:=by obtain⟨⟨cls,f,data,sl⟩,d,hc,n,hd⟩:=id ht;obtain⟨⟨j,g,data2,i⟩,e,a,h,c⟩:=id hb;simp only at hc hd a c;subst hc hd a c;exact concat_meets ⟨_,d,rfl⟩ ⟨_,e,rfl⟩ noFill_tuple_add seq_tuple_add PySem.F.slot_tuple_add PySem.F.entry_tuple_add (PySem.F.args_tuple_add_2 _ _) (tuple_addW0 t b _ ws.toArray n h f g sl i (by simp)) ⟨d,e,h1⟩
noncomputable def aaa(K:PySem.W.Frag):R2:=λx y H Q=>∃a b xs c,x= .ref a/\y= .ref b/\bS K H a xs/\bS K H b c/\xs.length+c.length<=sizeLine/\(xs=[]->Q (.ref b) H)/\(xs≠[]->c=[]->Q (.ref a) H)/\(xs≠[]->c≠[]->∀p,H p=none->Q (.ref p) (upd H p (.tup (xs++c))))
theorem QC{X:Cx}:ji X (binaryOp .Add) (aaa X.K):=by
 intro pins s σ H x y v u Q I d f h;obtain⟨a,b,xs,m,rfl,rfl,ha,hb,g,q0,q1,q2⟩:=h;by_cases c:xs=[];·cases d;cases f;subst c;obtain⟨i,l,j,_⟩:=I.tuple ha;obtain⟨n,o,k,_⟩:=I.tuple hb;have e:i=[]:=l.qE.mpr rfl;subst e;exact M5 j k ⟨.ref b,H,I,rfl,q0 rfl⟩
 ·exact Hd pins s σ H _ _ v u Q I d f ⟨a,b,xs,m,rfl,rfl,ha,hb,c,g,q1 c,q2 c⟩
theorem P5.imp{X:Cx}{r a:V->Option Int->Option Int->Hp->VK->Prop}(h:P5 X r)(i:∀x lo hi H Q,a x lo hi H Q->r x lo hi H Q):P5 X a:=by intro a1 a2 a3 a4 a5 a6 a7 a8 a9 b1 b c d;intros;apply h<;>first|assumption|(apply i;assumption)
noncomputable def abM:V->Option Int->Option Int->Hp->VK->Prop:=λx lo hi H Q=>∃a xs,x= .ref a/\H a=some (.tup xs)/\∀b H',aL H H'->H' b=some (.tup (iK xs lo hi))->Q (.ref b) H'
theorem HF{X:Cx}:P5 X abM:=P5.imp qO λx lo hi H Q⟨a,xs,e,h,q⟩=>⟨a,xs,e,bS.of h,λp b=>q p _ (ar b _) aq,λz=>q a H (aL.refl H) (by rw[z];exact h)⟩
noncomputable def Yg:R2:=λx y H Q=>∃a b xs c,x= .ref a/\y= .ref b/\H a=some (.tup xs)/\H b=some (.tup c)/\xs.length+c.length<=sizeLine/\∀p H',aL H H'->H' p=some (.tup (xs++c))->Q (.ref p) H'
theorem yd{X:Cx}:ji X (binaryOp .Add) Yg:=by
 intro pins s σ H x y v u Q I f g h;obtain⟨a,b,xs,i,rfl,rfl,ha,hb,d,q⟩:=h;refine QC pins s σ H _ _ v u Q I f g ⟨a,b,xs,i,rfl,rfl,bS.of ha,bS.of hb,d,λe=>?_,λ_ e=>?_,λ_ _ p c=>q p _ (ar c _) aq⟩;·subst e;exact q b H (aL.refl H) hb
 ·subst e;exact q a H (aL.refl H) (by rw[nX];exact ha)
mutual theorem Rep.um{H:Hp}{p:Addr}{xs:List V}{o:HO}(h:H p=some (.lst xs)):∀{d:D}{v:V},Rep H d v->Rep (upd H p o) d v| .aP,_,r=>r| .bl _,_,r=>r| .int _,_,r=>r| .str _,_,r=>r| .tup _,_,⟨a,vs,e,q,r⟩=>⟨a,vs,e,by rw[bf (RW q h (by simp))];exact q,bE.um h r⟩theorem bE.um{H:Hp}{p:Addr}{xs:List V}{o:HO}(h:H p=some (.lst xs)):∀{ds:List D}{vs:List V},bE H ds vs->bE (upd H p o) ds vs|[],_,r=>r|_::_,_,⟨v,r,e,q,t⟩=>⟨v,r,e,Rep.um h q,bE.um h t⟩end
theorem vP{J:It}{p:Addr}{h:Hp}{g:TG}{s:TE}{b:L2.St}{C:Hp->Prop}(n:Nat)(f:Nat->D)(r:h p=none)(hn:n<=sizeLine)(w:∀i a,i<n->aL h a->J.go i a/\∀x d,J.wM i a x d->∀(R:V->Hp->Prop),(∀v e,aL a e->Rep e (f i) v->R v e)->g x b d λl o=>s l o R)(hd:∀c a,aL h a->a p=some (.lst c)->bE a ((List.range n).map f) c->J.stop n a/\C a):∃W:Nat->Nat->List V->Hp->Prop,(∃m,W 0 m [] (upd h p (.lst [])))/\∀i m c a,W i m c a->(J.stop i a/\C a)\/(J.go i a/\∀x d,J.wM i a x d->g x b d λl o=>Aw l o λok q=>if ok=true then s l q λv e=>e p=some (.lst c)/\c.length<sizeLine/\∃j,j<m/\W (i+1) j (c++[v]) (upd e p (.lst (c++[v])))else∃j,j<m/\W (i+1) j c q):=by
 refine mS (Q:=λ_ H=>C H) n (λi c a=>bE a ((List.range i).map f) c/\a p=some (.lst c)/\aL h a) ⟨rfl,aq,ar r _⟩ ?_ ?_;·rintro i c a hi⟨rr,h2,s2⟩;obtain⟨t,u⟩:=w i a hi s2;refine⟨t,λx d y=>?_⟩;simp only[Aw,if_true];have hl:=rr.length;rw[c_,List.length_range]at hl;refine u x d y _ λv e k z=>⟨k _ _ h2,by lia,nx hi ⟨?_,aq,g8 (s2.trans k) r⟩⟩;rw[List.range_succ,List.map_append];exact((rr.mono k).um (k _ _ h2)).append (bE.one (z.um (k _ _ h2)))
 ·rintro c a⟨rr,h2,s2⟩;exact hd c a s2 h2 rr
end L3
end
section
namespace L3
open PySem PySem.Spec PyProof.Rows L2
end L3
end
section
namespace L3
open PySem PySem.Spec PyProof.Rows L2 KM
end L3
end
section
namespace K25
open PySem L2 L3 KM PyProof.Rows
seal L2.PE L2.PS L2.gT L2.PT L2.PW L2.PA L2.PG L2.uX L2.PI L2.PC L2.PO L2.DC L2.PK L3.vF
variable{P:Program}{w:World}{K:PySem.W.Frag}{mg:Str->Option Value}{base:Heap}{t:ve}
mutual noncomputable def plc:D->List (List Nat)| .tup (.str x::ps)=>[]::(if bC x=true then[]else XY 0 ps)|_=>[]noncomputable def XY:Nat->List D->List (List Nat)|_,[]=>[]|i,d::ds=>(plc d).map (i::·)++XY (i+1) ds end
theorem take_snoc{l:List D}{i:Nat}{d:D}(h:l[i]?=some d):l.take (i+1)=l.take i++[d]:=by rw[List.take_add_one,h];rfl
noncomputable def Uj(pl:List Nat):D:= .tup (pl.map λi=> .int (i:Nat))
theorem Jg{b d:Type}(g:b->d)(z:b)(l:List b):(List.range l.length).map (λj=>g ((l[j]?).getD z))=l.map g:=by induction l with|nil=>rfl|cons a l c=>rw[hV,List.range_succ_eq_map,eF,List.map_map,eF,<-c];rfl
theorem cU{a:D->Bool}{k:Bool}:∀{d:D},bh a k d=true->∃x ps,d= .tup (.str x::ps)| .tup (.str x::ps),_=>⟨x,ps,rfl⟩| .tup [],h=>by simp[bh]at h| .tup (.aP::_),h=>by simp[bh]at h| .tup (.bl _::_),h=>by simp[bh]at h| .tup (.int _::_),h=>by simp[bh]at h| .tup (.tup _::_),h=>by simp[bh]at h| .aP,h=>by simp[bh]at h| .bl _,h=>by simp[bh]at h| .int _,h=>by simp[bh]at h| .str _,h=>by simp[bh]at h
theorem FQ{a:D->Bool}:∀{cs:List Nat}{ps:List D}{i:Nat}{p:D},dQ a cs ps=true->(∀c∈cs,c=107\/c=116)->ps[i]?=some p->∃k,bh a k p=true
 |[],[],_,_,_,_,e=>by simp at e
 |[],_::_,_,_,h,_,_=>by simp[dQ]at h
 |_::_,[],_,_,h,_,_=>by simp[dQ]at h
 |c::cs,q::ps,0,p,h,hc,e=>by
  simp at e;subst e;rw[az,cf]at h;have h1:=h.1;unfold cO at h1;rcases hc c eC with z|z;·rw[z,if_pos rfl]at h1;exact⟨true,h1⟩
  ·rw[z,if_neg (by decide),if_pos rfl]at h1;exact⟨false,h1⟩
 |c::cs,q::ps,i+1,p,h,hc,e=>by rw[az,cf]at h;exact FQ (i:=i) h.2 (λc b=>hc c (dX _ b)) (by simpa using e)
theorem eQ{k:Bool}{x:Str}{ps:List D}{i:Nat}{p:D}(h:bh ao k (.tup (.str x::ps))=true)(e:(av x ps)[i]?=some p):(∃k,bh ao k p=true)/\depth p<depth (.tup (.str x::ps)):=by
 obtain⟨s,h1,h2,h3,h4,h5,h6,a,_⟩:=bB h;unfold av at e;split at e;·simp at e
 ·rename_i b;refine⟨FQ h3 (a (by simpa using b)) e,?_⟩;have :=nU e;simp only[depth,aB];omega
theorem oH{k:Bool}{x:Str}{ps:List D}(h:bh ao k (.tup (.str x::ps))=true):(av x ps).length<=4:=by
 obtain⟨s,h1,h2,h3,h4,h5,h6,a,_⟩:=bB h;unfold av;split;·exact d4 _
 ·rw[<-h5];simpa using h4
structure Rt(d:D)(n:Nat):Prop where
 wf:∃k,bh ao k d=true
 dp:depth d<n
 ct:(plc d).length<=2000000
 n60:n<=60
theorem xN{a:D->Bool}{d0 b:D}(c:bh a false d0=true)(h1:bh a false b=true):bh a false (.tup [.str "app",d0,b])=true:=by refine cH (w:="app") (s:="tt") (by decide+kernel) (by decide+kernel) ?_;rw[show(Str.ofString "tt").cps.toList=[116,116]by decide+kernel,az,az];simp[cO,dQ,c,h1]
theorem Vs{a:D->Bool}{d0 b:D}(c:bh a true d0=true)(h1:bh a false b=true):bh a false (.tup [.str "fun",d0,b])=true:=by refine cH (w:="fun") (s:="kt") (by decide+kernel) (by decide+kernel) ?_;rw[show(Str.ofString "kt").cps.toList=[107,116]by decide+kernel,az,az];simp[cO,dQ,c,h1]
theorem Qd{a:D->Bool}{d0 b c:D}(d:bh a true d0=true)(h1:bh a false b=true)(h2:bh a false c=true):bh a true (.tup [.str "same",d0,b,c])=true:=by refine cH (w:="same") (s:="ktt") (by decide+kernel) (by decide+kernel) ?_;rw[show(Str.ofString "ktt").cps.toList=[107,116,116]by decide+kernel,az,az,az];simp[cO,dQ,d,h1,h2]
theorem Eh{a:D->Bool}{d0 b c d:D}(e:bh a true d0=true)(h1:bh a false b=true)(h2:bh a false c=true)(h3:bh a false d=true):bh a false (.tup [.str "rec",d0,b,c,d])=true:=by refine cH (w:="rec") (s:="kttt") (by decide+kernel) (by decide+kernel) ?_;rw[show(Str.ofString "kttt").cps.toList=[107,116,116,116]by decide+kernel,az,az,az,az];simp[cO,dQ,e,h1,h2,h3]
theorem Bi{a:D->Bool}{d0 b c:D}(d:bh a true d0=true)(h1:bh a false b=true)(h2:bh a false c=true):bh a false (.tup [.str "carry",d0,b,c])=true:=by refine cH (w:="carry") (s:="ktt") (by decide+kernel) (by decide+kernel) ?_;rw[show(Str.ofString "ktt").cps.toList=[107,116,116]by decide+kernel,az,az,az];simp[cO,dQ,d,h1,h2]
theorem Vj{a:D->Bool}{d0 b:D}(c:bh a true d0=true)(h1:bh a true b=true):bh a true (.tup [.str "all",d0,b])=true:=by refine cH (w:="all") (s:="kk") (by decide+kernel) (by decide+kernel) ?_;rw[show(Str.ofString "kk").cps.toList=[107,107]by decide+kernel,az,az];simp[cO,dQ,c,h1]
theorem PX{a:D->Bool}{d0 b:D}(c:bh a true d0=true)(h1:bh a true b=true):bh a true (.tup [.str "some",d0,b])=true:=by refine cH (w:="some") (s:="kk") (by decide+kernel) (by decide+kernel) ?_;rw[show(Str.ofString "kk").cps.toList=[107,107]by decide+kernel,az,az];simp[cO,dQ,c,h1]
theorem DJ{a:D->Bool}{d0:D}(b:bh a false d0=true):bh a false (.tup [.str "first",d0])=true:=by refine cH (w:="first") (s:="t") (by decide+kernel) (by decide+kernel) ?_;rw[show(Str.ofString "t").cps.toList=[116]by decide+kernel,az];simp[cO,dQ,b]
theorem Nm{a:D->Bool}{d0 b:D}(c:bh a true d0=true)(h1:bh a false b=true):bh a false (.tup [.str "never",d0,b])=true:=by refine cH (w:="never") (s:="kt") (by decide+kernel) (by decide+kernel) ?_;rw[show(Str.ofString "kt").cps.toList=[107,116]by decide+kernel,az,az];simp[cO,dQ,c,h1]
theorem UN{a:D->Bool}:bh a true (.tup [.str "nat"])=true:=by refine cH (w:="nat") (s:="") (by decide+kernel) (by decide+kernel) ?_;rw[show(Str.ofString "").cps.toList=[]by decide+kernel];simp[cO,dQ]
theorem rX{a:D->Bool}:bh a false (.tup [.str "zero"])=true:=by refine cH (w:="zero") (s:="") (by decide+kernel) (by decide+kernel) ?_;rw[show(Str.ofString "").cps.toList=[]by decide+kernel];simp[cO,dQ]
theorem yy{a:D->Bool}{d0:D}(b:bh a false d0=true):bh a false (.tup [.str "next",d0])=true:=by refine cH (w:="next") (s:="t") (by decide+kernel) (by decide+kernel) ?_;rw[show(Str.ofString "t").cps.toList=[116]by decide+kernel,az];simp[cO,dQ,b]
theorem fO{H:Hp}{p:Addr}{ds:List D}{vs:List V}(a:H p=none)(r:bE H ds vs):Rep (upd H p (.tup vs)) (.tup ds) (.ref p):=⟨p,vs,rfl,aq,r.mono (ar a _)⟩
theorem rs{H:Hp}{d:D}{v:V}{ds:List D}{vs:List V}(r:Rep H d v)(t:bE H ds vs):bE H (d::ds) (v::vs):=⟨v,vs,rfl,r,t⟩
theorem r0{H:Hp}:bE H [] []:=rfl
theorem ky{H:Hp}{x:Str}(h:x.length<=1000:=by decide):Rep H (.str x) (.str x):=⟨rfl,h⟩
theorem ri{H:Hp}{i:Int}:Rep H (.int i) (.int i):=rfl
structure Th(d:D)(dp kn:Nat):Prop where
 wf:bh ao false d=true
 dp:depth d<=dp
 kn:aJ d<=kn
def Wf(d:D):Prop:=∃k,bh ao k d=true
theorem d7{d:D}(h:Wf d):∃x ps k,d= .tup (.str x::ps)/\bh ao k d=true/\ps.length<=10:=by obtain⟨k,h⟩:=h;obtain⟨x,ps,rfl⟩:=cU h;obtain⟨a,_,_,_,h4,h5,_⟩:=bB h;refine⟨x,ps,k,rfl,h,?_⟩;rw[<-h5];exact cS (by simpa using h4) (by decide)
end K25
end
section
namespace L3
open PySem PySem.Spec PyProof.Rows L2 KM
theorem JF{J:It}{p:Addr}{h:Hp}{g:TG}{w:TE}{b:L2.St}{C:Hp->Prop}(n:Nat)(B:Nat->Int->Prop)(t:h p=none)(hn:n<=sizeLine)(E:∀i a,i<n->aL h a->J.go i a/\∀x d,J.wM i a x d->∀(R:V->Hp->Prop),(∀(z:Int)f,aL a f->B i z->R (.int z) f)->g x b d λl o=>w l o R)(hd:∀(ns:List Int)a,aL h a->ns.length=n->(∀(i:Nat)(z:Int),ns[i]?=some z->B i z)->a p=some (.lst (ns.map V.int))->J.stop n a/\C a):∃W:Nat->Nat->List V->Hp->Prop,(∃m,W 0 m [] (upd h p (.lst [])))/\∀i m c a,W i m c a->(J.stop i a/\C a)\/(J.go i a/\∀x d,J.wM i a x d->g x b d λl o=>Aw l o λok s=>if ok=true then w l s λv f=>f p=some (.lst c)/\c.length<sizeLine/\∃k,k<m/\W (i+1) k (c++[v]) (upd f p (.lst (c++[v])))else∃k,k<m/\W (i+1) k c s):=by
 refine mS (Q:=λ_ H=>C H) n (λi c a=>∃ns:List Int,c=ns.map V.int/\ns.length=i/\(∀(j:Nat)(z:Int),ns[j]?=some z->B j z)/\a p=some (.lst c)/\aL h a) ⟨[],rfl,rfl,λj z e=>by simp at e,aq,ar t _⟩ ?_ ?_
 ·rintro i c a hi⟨ns,rfl,hl,r,h2,s2⟩;obtain⟨A,D⟩:=E i a hi s2;refine⟨A,λx d y=>?_⟩;simp only[Aw,if_true];refine D x d y _ λz f u G=>⟨u _ _ h2,by rw[c_];lia,nx hi ⟨ns++[z],by simp,by simp[hl],λj y e=>?_,aq,g8 (s2.trans u) t⟩⟩;by_cases F:j<ns.length;·rw[Ci F]at e;exact r j y e
  ·rw[List.getElem?_append_right (by lia)]at e;have :j-ns.length=0:=by
    by_cases q:j-ns.length=0;·exact q
    ·rw[List.getElem?_eq_none (by simp;lia)]at e;cases e
   rw[this]at e;simp at e;subst e;have :j=i:=by lia
   rw[this];exact G
 ·rintro c a⟨ns,rfl,hl,r,h2,s2⟩;exact hd ns a s2 hl r h2
end L3
end
section
namespace L3
open PySem PySem.Spec PyProof.Rows L2
theorem O1{X:Cx}{ix:Nat}{x:Str}{pos' apos:Pos}{tg iter G:Expr}{K:List Expr}{scope:Scope}{pos:Pos}{wi:TI}{g:TG}{tt:TT}{te:TE}{N':List Str}{own:Nat}{fr:List Nat}(hN:X.N.Nodup)(hix:X.N[ix]?=some x)(hlx:X.env.scope.names.lookup x=some .local)(hc:X.calm=true)(S:mF X N' own fr scope)(hi:PI X tg iter wi)(ho:Own own g)(hg:∀E B fp,PG (dH X N' scope E B fp) tg g)(hf:∀E B fp,vF (dH X N' scope E B fp) K tt)(he:∀E B fp,PE (dH X N' scope E B fp) G te)(hsw:swapsWithSole [.Name x pos'] (.ListComp G [⟨tg,iter,K,0⟩] scope pos) apos.line X.env=pure true:=by rfl)(hs:∀x,foldedSetIterable iter X.env x=pure x:=by intro _;rfl):PS X (.Assign [.Name x pos'] (.ListComp G [⟨tg,iter,K,0⟩] scope pos) apos) (Tg (Rf own fr wi g tt te) (sj ix)):=by
 intro pins s σ H D I h;have u4:∀x∈scope.names,x.2= .free->∃c,X.env.cells.lookup x.1=some c:=λx hx e=>I.ok.has x.1 (S.free x hx e);rw[exec_Assign_arm];refine aj (wpAny_standAt (aj (wpAny_of_eq hsw ?_)));rw[if_pos rfl,arm_evalThenUse_ListComp];refine aj (aj (fE (Q:=λ_ s'=>SP X pins D .next s') ?_ (λ_ s' q=>aU (aU q)) λ_ _ z=>z));refine wpAny_comprehension_free (use:=some _) (Q:=λ_ s'=>SP X pins D .next s') rfl hs (sr u4) S.kind S.loc ?_;refine bQ (hi pins s σ H _ I h) λv s1 h1=>bQ h1 λitv s2 h2=>?_;obtain⟨it,fp,tn,J,d,e,I2,T,VI,f2,h2⟩:=h2;subst e;refine wpAny_newObj_type (hd:=by size_fits) (wpAny_newFunctionEnv S.n8 (by intro y hy;simp at hy) (λh4 U Z=>?_) S.kind);have P_:=I2.bX.fresh (bJ s2.heap.objs.size);obtain⟨W,⟨m0,w0⟩,turn⟩:=h2 _ P_;have k:Inv X pins σ (upd d s2.heap.objs.size (.lst [])) {s2 with heap:=s2.heap.push {cls:= .type "list",dict:=none,data:= .seq ([]:List Value).toArray},toks:=s2.toks}:=I2.Yv .nil (d4 _);have Zw:∀b∈fp,b<s2.heap.objs.size:=λb hb=>let⟨o,e,_⟩:=T.obj _ _ VI b hb;bL e;have up2:∀b o,s2.heap.get? b=some o->∀ob:Obj,(s2.heap.push ob).get? b=some o:=λb o e ob=>bD _ e;have XQ:(s2.heap.push {cls:= .type "list",dict:=none,data:= .seq ([]:List Value).toArray}).objs.size=s2.heap.objs.size+1:=mZ ..;revert U Z k;generalize e3:s2.heap.push {cls:= .type "list",dict:=none,data:= .seq ([]:List Value).toArray}=h3 at XQ⊢;intro U Z k;have keep:∀b o,h3.get? b=some o->h4.get? b=some o:=λb o e=>(Z.2 b (dN (bL e))).trans (bD _ e);have P:∀b∈fp,kK X pins (upd d s2.heap.objs.size (.lst [])) b/\b<h3.objs.size:=λb hb=>by refine⟨⟨?_,(f2 b hb).2⟩,by rw[XQ];exact Nat.lt_succ_of_lt (Zw b hb)⟩;rw[bf (dN (Zw b hb))];exact(f2 b hb).1
 have F:=G6 (t4:=s2.toks+([]:List (Str×Value)).length) S k P keep U;have U1:tn 0 h4:=T.keep _ _ _ VI λb hb o e=>keep b o (by rw[<-e3];exact up2 b o e _);have uF:∀{H':Hp},(∀b∈fp,H' b=none)->∀b∈fp,kK (dH X N' scope {s2 with heap:=h3,toks:=s2.toks} (upd d s2.heap.objs.size (.lst [])) fp) [] H' b:=λ{H'}hn b hb=>⟨hn b hb,dN (P b hb).2,λz=>F.ok.vx b hb z, .inl hb,(F.ok.RO b hb).2,λp V=>(f2 b hb).2.2.2.2.2 p (p_ _ (by simpa using V))⟩;have loop:∀sx:Shared,Inv (dH X N' scope {s2 with heap:=h3,toks:=s2.toks} (upd d s2.heap.objs.size (.lst [])) fp) [] (gJ own fr σ) (upd d s2.heap.objs.size (.lst [])) sx->tn 0 sx.heap->codeAny (model X.prog X.w) X.A (.compLoop (.ListComp G [⟨tg,iter,K,0⟩] scope pos) 0 (.ref it) (.ref s2.heap.objs.size) (E3 X scope h3.objs.size)) (compPost (model X.prog X.w) X.A X.xe (some λv=>assignAll v ((assignEach [.Name x pos'] X.env).map (·.2))) (λ_ s'=>SP X pins D .next s') (.ref s2.heap.objs.size) h3.objs.size) sx:=by
  intro sx Ix tx;refine oZ (λn s'=>∃i t H',Inv (dH X N' scope {s2 with heap:=h3,toks:=s2.toks} (upd d s2.heap.objs.size (.lst [])) fp) [] (gJ own fr σ) H' s'/\tn i s'.heap/\(∀b∈fp,H' b=none)/\W i n t H') ?_ m0 ⟨0,[],_,Ix,tx,λb hb=>(P b hb).1.1,w0⟩;rintro n s5⟨i,t,C,I5,Qf,Um,w5⟩;rcases turn i n t C w5 with⟨stop,qn⟩|⟨go,step⟩
  ·refine bQ (T.done (dH X N' scope {s2 with heap:=h3,toks:=s2.toks} (upd d s2.heap.objs.size (.lst [])) fp) rfl rfl rfl hc i [] s5 _ C (λ_ _=>False) I5 (uF Um) Qf stop) λr L a=>?_;obtain⟨Y,w⟩:=a;subst Y;obtain⟨m6,hm6,_⟩:=id w.loc;have N:Inv X pins σ C L:=k.MH (s':=L) (ch:=fp) w.os (ua (h2:=L.heap) w.base (bJ _) ⟨rfl,λ_ _=>rfl⟩) w.bX w.bare λb hb=>⟨(f2 b hb).2.2.2.1,(f2 b hb).2.1,(f2 b hb).2.2.2.2.1,(f2 b hb).2.2.2.2.2⟩;show wpAny _ _ (assign (.Name x pos') X.env (.ref s2.heap.objs.size)) _ _ _;refine wpAny_assign_Name (vI (v:= .ref s2.heap.objs.size) N hN hix (.inl hlx) rfl (λs8 O a=>?_) (.inr hlx));obtain⟨a8,sb8,ha8⟩:=a;have ltc:∀y c,X.env.cells.lookup y=some c->c<h3.objs.size:=λy c e=>by obtain⟨v,o,eo,_⟩:=k.cell y c e;exact bL eo
   have na8:h3.objs.size≠a8:=by
    rcases ha8 with z|z;·rw[z];exact Nat.ne_of_gt k.lt
    ·exact Nat.ne_of_gt (ltc _ _ z)
   obtain⟨o6,es6,ep6,ho6,r6⟩:=hm6;refine⟨m6,⟨o6,es6,ep6,(sb8.2 _ na8).trans ho6,r6⟩,λh9 hs9=>?_⟩;have l:=O.turned (h':=h9) (t':=s8.toks) (it:=h3.objs.size) (λb o hb e=>(hs9.2 b hb).trans e) w.free (Nat.ne_of_gt k.lt) (.inr k.sz) (λy c e=>dN (ltc y c e)) λp V=>dN (bL (k.pin p V).1);exact⟨_,C,l,qn⟩
  ·refine bQ (T.item (dH X N' scope {s2 with heap:=h3,toks:=s2.toks} (upd d s2.heap.objs.size (.lst [])) fp) rfl rfl rfl hc i [] s5 _ C (λ_ _=>False) I5 (uF Um) Qf go) λr L a=>?_;obtain⟨u,Y,h6⟩:=a;subst Y;refine bQ h6 λ_ s7 a=>?_;obtain⟨x,H7,N,r7,y7,U8,fr7⟩:=a;have I7':=N.pinned (uF fr7) (T.obj _ _ U8);refine bQ (hg _ _ _ _ s7 _ H7 x u _ I7' r7 (ho _ _ _ _ (step x H7 y7))) λ_ s8 a=>?_;obtain⟨M,H8,O,q8,l8,k8⟩:=a;have again:∀{m:Hp}{A:Shared},Inv (dH X N' scope {s2 with heap:=h3,toks:=s2.toks} (upd d s2.heap.objs.size (.lst [])) fp) ([]++nS fp s7.heap) M m A->Inv (dH X N' scope {s2 with heap:=h3,toks:=s2.toks} (upd d s2.heap.objs.size (.lst [])) fp) [] (gJ own fr σ) m A/\tn (i+1) A.heap/\∀b∈fp,m b=none:=λ{m A}l=>by
    refine⟨l.jE.weak l8.symm λj v e=>?_,T.keep _ _ _ U8 λb hb o e=>(l.pin (b,o) (js _ (js _ (eV hb e)))).1,λb hb=>?_⟩
    ·have hj:own<=j:=by refine Nat.le_of_not_lt λz=>?_;unfold gJ at e;rw[Ci (by simpa using z),List.getElem?_replicate]at e;split at e<;>cases e
     rw[k8 j hj];exact e
    ·obtain⟨o,e,_⟩:=T.obj _ _ U8 b hb;exact(l.pin (b,o) (js _ (js _ (eV hb e)))).2.1
   refine bQ (hf _ _ _ _ s8 M H8 _ O q8) λok A a=>?_;obtain⟨m,l,q9⟩:=a;cases ok with|false=>obtain⟨m',R,w9⟩:=q9;obtain⟨a1,a2,a3⟩:=again l;exact⟨m',R,i+1,t,m,a1,a2,a3,w9⟩|true=>refine bQ (he _ _ _ _ A M m _ l q9) λy uV a=>?_;obtain⟨v,Pd,I10,r10,VD,Li,m',R,w10⟩:=a;refine bQ (nJ _ uV M Pd (.ref s2.heap.objs.size) [v] (.ref s2.heap.objs.size) [y] (λ_ Hn=>Hn=upd Pd s2.heap.objs.size (.lst (t++[v]))) I10 rfl (.cons r10 .nil) ⟨_,t,v,rfl,rfl,VD,Li,rfl⟩) λ_ s11 a=>?_;obtain⟨_,H11,I11,_,e11⟩:=a;subst e11;obtain⟨a1,a2,a3⟩:=again I11;exact⟨m',R,i+1,t++[v],_,a1,a2,a3,w10⟩
 exact codeAny_compStart_list (loop _ F U1) (fE (T.self X.A 0 _ (λv s'=>v= .ref it/\s'=_) (λ_ _=>False) U1 ⟨rfl,rfl⟩) (λv s'⟨e1,e2⟩=>by subst e1;subst e2;exact loop _ F U1) λ_ _ f=>f.elim)
end L3
end
section
namespace L3
open PySem PySem.Spec PyProof.Rows L2 KM
end L3
end
section
namespace K25
open PySem L2 L3 KM PyProof.Rows
seal L2.PE L2.PS L2.gT L2.PT L2.PW L2.PA L2.PG L2.uX L2.PI L2.PC L2.PO L2.DC L2.PK L3.vF
variable{P:Program}{w:World}{K:PySem.W.Frag}{mg:Str->Option Value}{base:Heap}{t:ve}
structure Tp(K:PySem.W.Frag)(a p:Addr)(ns:List Int)(H:Hp)(i:Int):Prop where
 src:(a≠p/\Rd H a (.lst (ns.map V.int)))\/∀H':Hp,bN K H' a (ns.map V.int)
 len:ns.length<=63
 fK:H p=some (.lst [.int i])
 i0:0<=i
theorem Tp.scr{a p:Addr}{ns:List Int}{H:Hp}{i:Int}(T:Tp K a p ns H i)(H':Hp)(s:bO p H H'):bN K H' a (ns.map V.int):=by
 rcases T.src with⟨n,h|⟨o,h⟩⟩|h;·exact .inl (.inl (s _ _ n h))
 ·exact .inl (.inr ⟨o,s _ _ n h⟩)
 ·exact h H'
theorem Tp.next{a p:Addr}{ns:List Int}{H H':Hp}{i j:Int}(T:Tp K a p ns H i)(s:bO p H H')(h:H' p=some (.lst [.int j]))(b:0<=j):Tp K a p ns H' j:=⟨by
 rcases T.src with⟨n,h|⟨o,h⟩⟩|h;·exact .inl ⟨n, .inl (s _ _ n h)⟩
 ·exact .inl ⟨n, .inr ⟨o,s _ _ n h⟩⟩
 ·exact .inr h,T.len,h,b⟩
theorem Tp.upd{a p b:Addr}{ns:List Int}{H:Hp}{i:Int}{aF:List (Key×V)}{o:HO}(T:Tp K a p ns H i)(hb:H b=some (.dK aF)):Tp K a p ns (L2.upd H b o) i:=by
 refine⟨?_,T.len,?_,T.i0⟩
 ·rcases T.src with⟨n,h|⟨o,h⟩⟩|h;·exact .inl ⟨n, .inl (by rw[bf (λz=>by rw[z,hb]at h;cases h)];exact h)⟩
  ·exact .inl ⟨n, .inr ⟨o,by rw[bf (λz=>by rw[z,hb]at h;cases h)];exact h⟩⟩
  ·exact .inr h
 ·rw[bf (λz=>by have :=T.fK;rw[z,hb]at this;cases this)];exact T.fK
theorem Tp.mono{a p:Addr}{ns:List Int}{H H':Hp}{i:Int}(T:Tp K a p ns H i)(s:aL H H'):Tp K a p ns H' i:=T.next s.x (s _ _ T.fK) T.i0
theorem Tp.rep{a p:Addr}{ns:List Int}{H H':Hp}{i:Int}{d:D}{v:V}(T:Tp K a p ns H i)(s:bO p H H')(r:Rep H d v):Rep H' d v:=r.ja s λvs z=>by rw[T.fK]at z;cases z
def ft(K:PySem.W.Frag):Sp:=λvs H Q _=>∃(a p:Addr)(ns:List Int)(i m:Int),vs=[.ref a, .ref p, .int m]/\Tp K a p ns H i/\i<2^60/\0<m/\∀(z:Int)(H':Hp),0<=z->z<m->bO p H H'->H' p=some (.lst [.int (i+1)])->Q (.int z) H'
theorem gR:aN ["_law_script","_law_tape","_law_many","_law_seed","_law_cell"] FC (ak iN):=⟨rfl,rfl,rfl,by decide+kernel,rfl,by decide+kernel,by decide+kernel⟩
theorem FO(D:Df K mg "_law_draw" iN FC)(M:Mg mg t):bj P w K mg bA "_law_draw" (1) FC (ft K):=by
 refine D.ok gR (λvs H Q E h=>?_) (λbase f cF A outer s H vs Q E F h=>?_);·obtain⟨a,p,ns,i,m,rfl,_⟩:=h;rfl
 obtain⟨a,p,ns,i,m,rfl,T,hi,hm,q⟩:=h;have i0:=T.i0;refine⟨_,(ag (K9 (aQ cy (aS cT (pv 1) ah (λ_ _=>rfl)) ah) (MG (pv 1) ah set_list)) (ag (bu (aD vK (aS cT (pv 1) ah (λ_ _=>rfl)) (bw bx rfl M.fB dP (aa (pv 0) af)) (aG _)) (ai (aw (aQ jx (aS cT (pv 0) (aQ bM (aS cT (pv 1) ah (λ_ _=>rfl)) ah) (λ_ _=>rfl)) (pv 2)))) aM) (ag (aH (i:=3) gR.nd rfl (cI rfl) (bw bx rfl M.fB dP (aa (pv 0) af))) (ag (gS PassesOwn.never rfl (j5 (ip OW (pv 0) cJ (eL ah))) (bI (i:=4) gR.nd rfl (cI rfl)) (ai (aH (i:=3) gR.nd rfl (cI rfl) (aQ jx (aQ cy (aQ yt (pv 3) ah) (pv 4)) ah)))) (ai (aw (aQ jx (aQ jx (aQ yt (aQ cy (pv 3) ah) (aQ cy (aQ yt (aS cT (pv 1) ah (λ_ _=>rfl)) (aS cT (pv 1) ah (λ_ _=>rfl))) ah)) ah) (pv 2)))))))),?_⟩;try dsimp only[gL,C]
 refine Vc ?_;intro _ _ _ _ _;refine⟨_,rfl,p,_,_,_,rfl,rfl,bN.of T.fK,rfl,_,_,rfl,rfl,_,rfl,p,_,_,0,rfl,rfl,T.fK,rfl,?_⟩;have e1:(upd H p (.lst ([V.int i].set 0 (V.int (i+1))))) p=some (.lst [.int (i+1)]):=aq;have x1:bO p H (upd H p (.lst ([V.int i].set 0 (V.int (i+1))))):=bO.upd _;generalize upd H p (.lst ([V.int i].set 0 (V.int (i+1))))=d at e1 x1⊢;have e:=T.scr d x1;have hl:(ns.map V.int).length=ns.length:=c_ _;have hlen:=T.len;refine⟨_,rfl,p,_,_,_,rfl,rfl,bN.of e1,rfl,_,rfl,a,_,rfl, .inl e,_,_,rfl,rfl,_,rfl,?_⟩;refine aV (λc=>?_) (λc=>?_)
 ·have c:i+1<=(((ns.map V.int).length:Nat):Int):=of_decide_eq_true c;have v:i.toNat<ns.length:=by rw[hl]at c;omega
  have e2:(i+1-1:Int)=((i.toNat:Nat):Int):=by omega
  refine⟨_,rfl,_,rfl,p,_,_,_,rfl,rfl,bN.of e1,rfl,_,_,rfl,rfl,a,_,_, .int ns[i.toNat],rfl,rfl,e,?_,_,rfl,_,_,rfl,rfl,hm,?_⟩;·rw[e2];exact aO (by rw[nY,e8 v];rfl)
  ·exact q _ d (Int.emod_nonneg _ (by omega)) (Int.emod_lt_of_pos _ hm) x1 e1
 ·refine⟨_,rfl,a,_,rfl, .inl e,?_⟩;refine⟨_,rfl,_,rfl,a,_,rfl,e,λb l=>?_⟩;have s2:=ar l (.lst (iK (ns.map V.int) none (some 4)));have G:p≠b:=aT e1 l;have h2:(upd d b (.lst (iK (ns.map V.int) none (some 4)))) b=some (.lst (iK (ns.map V.int) none (some 4))):=aq;rw[show(4:Int)=((4:Nat):Int)from rfl,FW,<-List.map_take]at s2 h2⊢;generalize upd d b (.lst ((ns.take 4).map V.int))=n at s2 h2⊢;refine⟨b,rfl,⟨_,bN.of h2⟩,?_⟩;let o:Nat->L2.St->Hp->Prop:=(λj k H'=>∃(z:Int)(cv:Option V),k=[some (.ref a),some (.ref p),some (.int m),some (.int z),cv]/\0<=z/\z<2000000/\H'=n);refine jz (ns.take 4).length o ?_ ?_ ?_;·exact⟨_,none,rfl,by omega,by rw[hl];omega,rfl⟩
  ·rintro j k H' r⟨z,cv,rfl,x,y,rfl⟩;have u:(ns.take 4)[j]?=some (ns.take 4)[j]:=e8 r;have hw:((ns.take 4).map V.int)[j]?=some (.int (ns.take 4)[j]):=by rw[nY,u];rfl
   refine⟨⟨_,_,bN.of h2,hw⟩,?_⟩;rintro I B⟨rfl,g⟩;have g:=g _ (bN.of h2);rw[hw]at g;cases g;refine⟨_,rfl,_,_,rfl,rfl, .inl ⟨by omega,by omega⟩,_,rfl,_,_,rfl,rfl,_,_,rfl,rfl,(by show(0:Int)<1000003;decide),?_⟩;refine⟨_,_,rfl,Int.emod_nonneg _ (by decide),?_,rfl⟩;have :=Int.emod_lt_of_pos (z*131+(ns.take 4)[j]) (show(0:Int)<1000003 by decide);omega
  ·rintro k H'⟨z,cv,rfl,x,y,rfl⟩;have e2:=s2 _ _ e1;refine⟨⟨_,bN.of h2,by rw[c_];exact bJ _⟩,?_⟩;refine⟨_,rfl,_,_,rfl,rfl,_,rfl,p,_,_,_,rfl,rfl,bN.of e2,rfl,_,rfl,p,_,_,_,rfl,rfl,bN.of e2,rfl,_,_,rfl,rfl, .inl ⟨by omega,by omega⟩,_,_,rfl,rfl,_,_,rfl,rfl, .inl ⟨by omega,by omega⟩,_,_,rfl,rfl,(by show(0:Int)<1000003;decide),_,rfl,_,_,rfl,rfl,hm,?_⟩;exact q _ _ (Int.emod_nonneg _ (by omega)) (Int.emod_lt_of_pos _ hm) (x1.trans s2.x) e2
end K25
end
section
namespace L3
open PySem PySem.Spec PyProof.Rows L2 KM
section
variable{X:Cx}
noncomputable def VS:V->List V->Hp->VK->Prop:=λx vs H Q=>∃(z y:Str)(i:Nat)(rest:List Nat),x= .str z/\vs=[.str y]/\Builtin.Str.occurrences z y 0 z.length 1=i::rest/\Q (.int (i:Nat)) H
theorem MF:MtR X "str.index" VS:=by intro pins s σ H x vs v us Q I d c h;obtain⟨z,y,i,rest,rfl,rfl,a,q⟩:=h;obtain⟨u,rfl,b⟩:=c.one;obtain⟨t,rfl⟩:=(show∃t,v=Value.str z t from d);obtain⟨t2,rfl⟩:=(show∃t,u=Value.str y t from b);exact SC.index a ⟨.int (i:Nat),H,I.tok _,⟨_,rfl⟩,q⟩
theorem B8:∀{a:List Str}{us:List Value},Vals (a.map V.str) us->StrsAre us a|[],_, .nil=> .nil|y::a,_, .cons r t=>by obtain⟨tk,rfl⟩:=(show∃t,_=Value.str y t from r);exact .cons y tk (B8 t)
noncomputable def rJoin(K:PySem.W.Frag):V->List V->Hp->VK->Prop:=λx vs H Q=>∃(z:Str)(l:Addr)(a:List Str),x= .str z/\vs=[.ref l]/\bN K H l (a.map V.str)/\(a.map (·.length)).sum+a.length*z.length<=16777216/\Q (.str (Txt.join z a)) H
theorem Pj:MtR X "str.join" (rJoin X.K):=by intro pins s σ H x vs v us Q I d c h;obtain⟨z,l,f,rfl,rfl,hl,a,q⟩:=h;obtain⟨u,rfl,b⟩:=c.one;obtain⟨t,rfl⟩:=(show∃t,v=Value.str z t from d);cases b;obtain⟨e,r,p,_⟩:=I.list hl;exact join_list p.isList (by simpa using B8 r) a λt' k=>⟨.str _,H,I.tok _,⟨_,rfl⟩,q⟩
theorem Ja(hh:X.A.handled=none):jD X (.builtin "min") (λxs H Q=>∃i j:Int,xs=[.int i, .int j]/\Q (.int (if j<i then j else i)) H):=by
 intro pins s σ H xs us Q I r h;obtain⟨i,j,rfl,q⟩:=h;obtain⟨d,e,rfl,b,c⟩:=Vals.two r;obtain⟨t1,rfl⟩:=(show∃t,d=Value.int i t from b);obtain⟨t2,rfl⟩:=(show∃t,e=Value.int j t from c);refine min_two_ints hh λh' tk a=>⟨.int (if j<i then j else i),H,I.kept (h':=h') (t':=tk) a,?_,q⟩;split;·exact⟨_,rfl⟩
 ·exact⟨_,rfl⟩
theorem wx(hh:X.A.handled=none):jD X (.builtin "max") (λxs H Q=>∃i j:Int,xs=[.int i, .int j]/\Q (.int (if j>i then j else i)) H):=by
 intro pins s σ H xs us Q I r h;obtain⟨i,j,rfl,q⟩:=h;obtain⟨d,e,rfl,b,c⟩:=Vals.two r;obtain⟨t1,rfl⟩:=(show∃t,d=Value.int i t from b);obtain⟨t2,rfl⟩:=(show∃t,e=Value.int j t from c);refine max_two_ints hh λh' tk a=>⟨.int (if j>i then j else i),H,I.kept (h':=h') (t':=tk) a,?_,q⟩;split;·exact⟨_,rfl⟩
 ·exact⟨_,rfl⟩
end
section
variable{X:Cx}{pins:List (Addr×Obj)}{σ:L2.St}{H:Hp}{s:Shared}{a:Addr}{D:List (Str×V)}{k:Str}{tk:Tok}{A:Around}{E:Value->Shared->Prop}
theorem LR{Q:Value->Shared->Prop}{x:V}{b:Value}(T:gV X.K a D)(I:Inv X pins σ H s)(d:RelV x b)(h:∀c,RelV ((KTD.datumAt k D).getD x) c->Q c {s with toks:=s.toks+1}):wpAny (model X.prog X.w) A (call (.builtin "dict.get") [.ref a, .str k tk,b]) Q E s:=by
 have ty:=T.typeIs I;refine iQ PySem.F.slot_dict_get ty PySem.F.entry_dict_get ?_ (PySem.F.args_dict_get_3 _ _ _);show wpAny (model X.prog X.w) _ (dictGet a (.str k tk)>>=_) _ _ s;refine aj (rm T I (λv u e r=>?_) λhn=>?_);·have h:=h u (by rw[e];exact r);exact aU ⟨u,rfl,h⟩
 ·have h:=h b (by rw[hn];exact d);refine aj ?_;unfold Builtin.Dict.missed;rw[T.sys];simp only[pW,if_false];exact aU (aU ⟨_,rfl,h⟩)
end
noncomputable def Wu(K:PySem.W.Frag)(td ty e:TE):TE:=λσ H Q=>td σ H λx b=>∃a D,x= .ref a/\gV K a D/\ty σ b λy c=>e σ c λz d=>∃k,y= .str k/\Q ((KTD.datumAt k D).getD z) d
theorem LP{X:Cx}{o e f:Expr}{apos eN:Pos}{td ty g:TE}(w:PE X o td)(v:PE X e ty)(hf:PE X f g)(m:M2 X o "get" apos e f eN):PE X (.Call (.Attribute o "get" apos) [e,f] [] eN) (Wu X.K td ty g):=by
 intro pins s σ H Q I h;refine wpAny_Call_method m.base m.few m.line PySem.F.plainAttrs_dict PySem.F.slot_dict_get PySem.F.type_dict_get (bQ (w pins s σ H _ I h) λu s1 C=>?_);obtain⟨x,i,c,A,a,D,ex,T,q1⟩:=C;subst ex;obtain rfl:u=Value.ref a:=A;have t1:=T.typeIs c;refine⟨t1,λb q=>?_,?_⟩;·cases q;obtain⟨o,_,_,e,x,_⟩:=T.ex;exact⟨o,c.kS a o e,x.2.1⟩
 rw[m.trees];refine Calls.callWith_builtin rfl (Calls.evalArgs_plain (Calls.spliced_cons (bQ (v pins s1 σ i _ c q1) λF s2⟨y,j,n,B,q2⟩=>Calls.spliced_cons (bQ (hf pins s2 σ j _ n q2) λE G⟨z,l,d,rz,k,p,q3⟩=>Calls.spliced_nil ?_))));subst p;obtain⟨t,rfl⟩:=B;exact LR T d rz λJ r=>⟨_,l,d.tok _,r,q3⟩
theorem UB:bootBuiltins "min"=some (.builtin "min"):=by decide+kernel
theorem Jh{J:It}{p:Addr}{h:Hp}{g:TG}{w:TE}{b:L2.St}{C:Hp->Prop}(n:Nat)(B:Nat->V->Prop)(t:h p=none)(hn:n<=sizeLine)(E:∀i a,i<n->aL h a->J.go i a/\∀x d,J.wM i a x d->∀(R:V->Hp->Prop),(∀(z:V)f,aL a f->B i z->R z f)->g x b d λl o=>w l o R)(hd:∀(ns:List V)a,aL h a->ns.length=n->(∀(i:Nat)(z:V),ns[i]?=some z->B i z)->a p=some (.lst ns)->J.stop n a/\C a):∃W:Nat->Nat->List V->Hp->Prop,(∃m,W 0 m [] (upd h p (.lst [])))/\∀i m c a,W i m c a->(J.stop i a/\C a)\/(J.go i a/\∀x d,J.wM i a x d->g x b d λl o=>Aw l o λok s=>if ok=true then w l s λv f=>f p=some (.lst c)/\c.length<sizeLine/\∃k,k<m/\W (i+1) k (c++[v]) (upd f p (.lst (c++[v])))else∃k,k<m/\W (i+1) k c s):=by
 refine mS (Q:=λ_ H=>C H) n (λi c a=>c.length=i/\(∀(j:Nat)(z:V),c[j]?=some z->B j z)/\a p=some (.lst c)/\aL h a) ⟨rfl,λj z e=>by simp at e,aq,ar t _⟩ ?_ ?_
 ·rintro i c a hi⟨hl,r,h2,s2⟩;obtain⟨A,D⟩:=E i a hi s2;refine⟨A,λx d y=>?_⟩;simp only[Aw,if_true];refine D x d y _ λz f u G=>⟨u _ _ h2,by lia,nx hi ⟨by simp[hl],λj y e=>?_,aq,g8 (s2.trans u) t⟩⟩;by_cases F:j<c.length;·rw[Ci F]at e;exact r j y e
  ·rw[List.getElem?_append_right (by lia)]at e;have :j-c.length=0:=by
    by_cases q:j-c.length=0;·exact q
    ·rw[List.getElem?_eq_none (by simp;lia)]at e;cases e
   rw[this]at e;simp at e;subst e;have :j=i:=by lia
   rw[this];exact G
 ·rintro c a⟨hl,r,h2,s2⟩;exact hd c a s2 hl r h2
theorem wB:∀(bs:List Addr),Vals (bs.map V.ref) (bs.map Value.ref)|[]=> .nil|b::bs=> .cons rfl (wB bs)
theorem sC{K:PySem.W.Frag}{a:Addr}{d:Option Addr}{b:Array Value}{n:Nat}{sl:Array (Option Value)}(bs:List Addr)(h:K.lookup a=some ⟨.type "tuple",d, .seq b n,sl⟩)(e:b.toList=bs.map Value.ref)(hl:bs.length<=100:=by decide):qC K a (bs.map V.ref):=by refine⟨_,b,n,h,rfl,rfl,?_,by rw[e];exact wB bs⟩;have h2:=congrArg List.length e;rw[Array.length_toList,c_]at h2;rw[h2];exact cS hl (by decide)
theorem Qq{K:PySem.W.Frag}{a:Addr}{es:Array DictEntry}{ep:Nat}(ks:List Str)(as:List Addr)(d:(a==sysModules)=false)(b:K.lookup a=some ⟨.type "dict",none, .dict es ep,#[]⟩)(c:fP es.toList ks=true)(rf:refsOf es.toList=as):gV K a ((ks.zip as).map λp=>(p.1,V.ref p.2)):=by refine⟨d,_,es,ep,b,⟨rfl,rfl,rfl⟩,rfl,?_⟩;have h:=zU c;rw[rf]at h;exact h
end L3
end
section
namespace L3
open PySem PySem.Builtin PySem.Builtin.Str PySem.StrLaws
noncomputable def brk(c:Nat):Bool:=c==32||c==10||c==40||c==41
end L3
end
section
namespace L3
open PySem PySem.Spec PyProof.Rows L2 KM
noncomputable def vq(z:Str)(lo hi:Option Int):List Nat:=(z.cps.toList.drop (HT.cX z.length 0 lo)).take (HT.cX z.length z.length hi-HT.cX z.length 0 lo)
theorem MD(lo hi:Option Int)(n:Nat):Builtin.Str.strSliceIndices lo hi 1 n=(List.range (HT.cX n n hi-HT.cX n 0 lo)).map (HT.cX n 0 lo+·):=by rw[<-sliceRange_one];unfold Builtin.Str.strSliceIndices;obtain⟨h1,h2,_⟩:=lP lo hi n;rw[<-h1,<-h2];simp only[sliceBounds,Option.getD_none,show(1:Int)>0 by decide,if_true];cases lo<;>cases hi<;>rfl
noncomputable def Xu(e:TE)(f th ts:TO):TE:=λσ H Q=>e σ H λx a=>f σ a λlo b=>th σ b λhi c=>ts σ c λst d=>∃z,x= .str z/\z.length<=sizeLine/\st=none/\∀y:Str,y.cps.toList=vq z lo hi->Q (.str y) d
theorem lH{X:Cx}{e:Expr}{lo hi st:Option Expr}{j U:Pos}{A:TE}{B th ts:TO}(O:PE X e A)(hl:PO X lo B)(P:PO X hi th)(ht:PO X st ts)(hb:∀o i,∃ops,subscripted (.Slice lo hi st j) false o i=operate ops (getItem o i):=by intro o i;exact⟨_,rfl⟩):PE X (.Subscript e (.Slice lo hi st j) U) (Xu A B th ts):=by
 intro pins s σ H Q I h;refine Subscript_ (bQ (O pins s σ H _ I h) λv s1 m=>?_);obtain⟨x,C,F,W,q1⟩:=m;refine wpAny_Slice (bQ (hl pins s1 σ C _ F q1) λZ s2⟨l,D,G,pl,q2⟩=>bQ (P pins s2 σ D _ G q2) λvu Y⟨u,E,J,V,q3⟩=>bQ (ht pins Y σ E _ J q3) λvt d m=>?_);obtain⟨t,n,K,pt,z,e1,S,N,q⟩:=m;subst e1 N;obtain⟨tk,rfl⟩:=W;obtain⟨f,rfl,el⟩:=part_of pl;obtain⟨g,rfl,M⟩:=part_of V;obtain⟨a,rfl,p⟩:=part_of pt;have L:Inv X pins σ n {d with heap:=d.heap.push {cls:= .type "slice",data:= .fields #[partValue f,partValue g,partValue a]}}:=K.kept (t':=d.toks) λb ob q=>bD _ q;have r:((a.map (·.1)).getD 1==0)=false:=by rw[p];rfl
 show wpAny (model X.prog X.w) X.A (subscriptTail e (.Slice lo hi st j) (.str z tk) (.ref d.heap.objs.size)) (EP X pins σ Q) X.xe _;obtain⟨ops,hb⟩:=hb (.str z tk) (.ref d.heap.objs.size);refine tail_any (ops:=ops) (T:="str") (typeIs_str _ _ _) PySem.F.slot_str_getitem.lookup (wpAny_getItem_str_slice (l:=f) (u:=g) (st:=a) ⟨_,eD _ rfl,rfl,rfl⟩ r ?_) hb;have ep:slicePicked z f g a=(List.range (HT.cX z.length z.length u-HT.cX z.length 0 l)).map (HT.cX z.length 0 l+·):=by unfold slicePicked;rw[el,M,p];exact MD l u z.length
 have fin:∀y:Str,y.cps.toList=vq z l u->∀t' k,EP X pins σ Q (.str y t') {d with heap:=d.heap.push {cls:= .type "slice",data:= .fields #[partValue f,partValue g,partValue a]},toks:=k}:=λy R t' k=>⟨.str y,n,L.tok k,⟨t',rfl⟩,q y R⟩;have w:z.cps.toList.length=z.length:=rfl;unfold sliceMade;split
 ·rename_i c;rw[cf,ep]at c;have c2:HT.cX z.length z.length u-HT.cX z.length 0 l=z.length:=by simpa using c.2
  have :=HT.KC z.length z.length (bJ _) u;refine fin z ?_ _ _;unfold vq;have a0:HT.cX z.length 0 l=0\/z.length=0:=by lia
  rw[c2];rcases a0 with a0|a0;·rw[a0,List.drop_zero,zD (by rw[w];exact bJ _)]
  ·have :z.cps.toList=[]:=List.length_eq_zero_iff.mp (by rw[w];exact a0);rw[this];simp
 ·refine⟨?_,fin _ ?_ _ _⟩;·refine cS ?_ S;show(List.filterMap _ (slicePicked z f g a)).toArray.size<=z.length;rw[cM];refine cS (List.length_filterMap_le _ _) ?_;exact sliceIndicesBy_le _ _ _ (by simpa using r) z.length
  ·show(slicePicked z f g a).filterMap (z.cps[·]?)=_;rw[ep,pick_run];rfl
theorem Ic(z:Str)(k:Nat):vq z none (some (k:Int))=z.cps.toList.take k:=by
 have a:z.cps.toList.length=z.length:=rfl;unfold vq;rw[HT.lh,HT.rG,List.drop_zero,Nat.sub_zero];by_cases h:k<=z.length;·rw[Nat.min_eq_left h]
 ·rw[Nat.min_eq_right (by lia),zD (by lia),zD (by lia)]
theorem Js(z:Str)(k:Nat):vq z (some (k:Int)) none=z.cps.toList.drop k:=by
 have a:z.cps.toList.length=z.length:=rfl;unfold vq;rw[HT.lh,HT.rG];by_cases h:k<=z.length;·rw[Nat.min_eq_left h,zD (by rw[List.length_drop];lia)]
 ·rw[Nat.min_eq_right (by lia),List.drop_eq_nil_of_le (by lia),List.drop_eq_nil_of_le (by lia)];simp
end L3
end
section
namespace K25
open PySem L2 L3 KM PyProof.Rows
seal L2.PE L2.PS L2.gT L2.PT L2.PW L2.PA L2.PG L2.uX L2.PI L2.PC L2.PO L2.DC L2.PK L3.vF
variable{P:Program}{w:World}{K:PySem.W.Frag}{mg:Str->Option Value}{base:Heap}{t:ve}
theorem big{m:Nat}(h:m<=1000):m<=sizeLine:=cS h (by decide)
theorem Vm(a b:Str):(a++b).length=a.length+b.length:=Array.size_append
noncomputable def bT:Str:="abcdefghijklmnopqrstuvwxyz"
noncomputable def uN(j:Int):Nat:=(bT.cps.toList[(j%26).toNat]?).getD 97
theorem OR:bT.cps.toList.length=26:=by decide+kernel
theorem A5(j:Int):kZ bT.cps.toList (j%26)=some (uN j)/\uN j∈bT.cps.toList:=by
 have b:=Int.emod_nonneg j (show(26:Int)≠0 by decide);have h1:=Int.emod_lt_of_pos j (show(0:Int)<26 by decide);have hl:(j%26).toNat<bT.cps.toList.length:=by rw[OR];omega
 have e:bT.cps.toList[(j%26).toNat]?=some (uN j):=by unfold uN;rw[e8 hl];rfl
 refine⟨?_,nP e⟩;have a:j%26=(((j%26).toNat:Nat):Int):=by omega
 rw[a];exact aO e
theorem QW:(bT.cps.toList.all λc=>match Builtin.Str.occurrences bT ⟨#[c]⟩ 0 bT.length 1 with|_::_=>true|[]=>false)=true:=by decide+kernel
theorem O8{c:Nat}(h:c∈bT.cps.toList):∃i rest,Builtin.Str.occurrences bT ⟨#[c]⟩ 0 bT.length 1=i::rest:=by have :=List.all_eq_true.mp QW c h;cases e:Builtin.Str.occurrences bT ⟨#[c]⟩ 0 bT.length 1 with|nil=>rw[e]at this;cases this|cons i rest=>exact⟨i,rest,rfl⟩
theorem wq:∀(cs:List Nat)(A:Array Nat),(cs.map λc=>(⟨#[c]⟩:Str)).foldl (λa p=>a++(Str.ofString "").cps++p.cps) A=A++cs.toArray
 |[],A=>by simp
 |c::cs,A=>by
  rw[eF,List.foldl_cons,wq cs];have e:(Str.ofString "").cps=#[]:=by decide+kernel
  rw[e];simp
theorem xZ(cs:List Nat):(Txt.join (Str.ofString "") (cs.map λc=>(⟨#[c]⟩:Str))).cps.toList=cs:=by cases cs with|nil=>decide+kernel|cons c cs=>show((((c::cs).map λc=>(⟨#[c]⟩:Str)).drop 1).foldl (λa p=>a++(Str.ofString "").cps++p.cps) (((c::cs).map λc=>(⟨#[c]⟩:Str)).headD Str.empty).cps).toList=c::cs;rw[eF,List.drop_succ_cons,List.drop_zero,wq];simp
theorem Lf(cs:List Nat):((cs.map λc=>(⟨#[c]⟩:Str)).map (·.length)).sum=cs.length:=by induction cs with|nil=>rfl|cons c cs a=>rw[eF,eF,List.sum_cons,a,hV];show 1+cs.length=_;omega
def Z6(x:Str):Prop:=1<=x.length/\x.length<=12/\∀c∈x.cps.toList,c∈bT.cps.toList
def Pn(x:Str):Prop:=ao (.str x)=true
theorem Pn.len{x:Str}(h:Pn x):x.length<=12:=by unfold Pn ao at h;rw[cf,cf]at h;have :=of_decide_eq_true h.2.1;omega
theorem OV{x:Str}(h:Pn x):x.length<=101:=by have :=h.len;omega
theorem YM:(bT.cps.toList.all Ah)=true:=by decide+kernel
noncomputable abbrev l13:List Str:=["nat","none","all","some","same","var","fun","app","zero","next","rec","like","carry"]
noncomputable abbrev l5:List Str:=["never","pair","first","second","name"]
noncomputable def UZ:List Str:=l13++l5
theorem YQ:(UZ.all λx=>decide (x.length<=100)&&ao (.str ((⟨(vq x none (some (-1))).toArray⟩:Str)++"q")))=true:=by decide+kernel
theorem aak:b_.map (·.1)=UZ:=by decide+kernel
theorem Pa{x:Str}(h:x∉UZ):b_.lookup x=none:=by cases e:b_.lookup x with|none=>rfl|some v=>have :=List.mem_map_of_mem (f:=(·.1)) (lookup_mem e);rw[aak]at this;exact absurd this h
theorem Z6.pn{x:Str}(h:Z6 x)(n:x∉UZ):Pn x:=by obtain⟨h1,h2,h3⟩:=h;show(decide ((1:Int)<=x.length)&&(decide ((x.length:Int)<=12)&&((b_.lookup x).isNone&&x.cps.toList.all Ah)))=true;rw[Pa n,decide_eq_true (by omega),decide_eq_true (by omega),Bool.true_and,Bool.true_and];exact List.all_eq_true.mpr λc hc=>List.all_eq_true.mp YM c (h3 c hc)
def GJ:Sp:=λvs H Q _=>∃x:Str,vs=[.str x]/\Z6 x/\∀(y:Str)(H':Hp),Pn y->aL H H'->Q (.str y) H'
theorem AW:aN ["_law_word"] ["_law_word"] (ak gB):=⟨rfl,rfl,rfl,by decide+kernel,rfl,by decide+kernel,by decide+kernel⟩
theorem CA(D:Df K mg "_law_named" gB ["_law_word"])(M:Mg mg t):bj P w K mg bA "_law_named" (1) ["_law_word"] GJ:=by
 refine D.ok AW (λvs H Q E h=>?_) (λbase f cF A outer s H vs Q E m h=>?_);·obtain⟨x,rfl,_⟩:=h;rfl
 obtain⟨x,rfl,d,q⟩:=h;have hl:=d.2.1;have b:x∈UZ->∀(y:Str)(H':Hp),y.cps.toList=vq x none (some (-1))->aL H H'->y.length+1<=sizeLine/\Q (.str (y++"q")) H':=λhm y H' a s'=>by
  have :=List.all_eq_true.mp YQ x hm;rw[cf]at this;have e:y=⟨(vq x none (some (-1))).toArray⟩:=by apply PySem.Str.ext';apply Array.ext';rw[a]
  rw[<-e]at this;refine⟨?_,q _ _ this.2 s'⟩;have :=Pn.len (x:=y++"q") this.2;rw[Vm]at this;exact big (by omega)
 refine⟨_,(ag (bu (aD jS (pv 0) (aZ (aa aE (aa aE (aa aE (aa aE (aa aE (aa aE (aa aE (aa aE (aa aE (aa aE (aa aE (aa aE (aa aE af)))))))))))))) rfl) (ai (aw (aQ gg (lH (pv 0) cJ (eL (Mx Ez ah)) cJ) aE))) aM) (ag (bu (aD jS (pv 0) (aZ (aa aE (aa aE (aa aE (aa aE (aa aE af)))))) rfl) (ai (aw (aQ gg (lH (pv 0) cJ (eL (Mx Ez ah)) cJ) aE))) aM) (ai (aw (pv 0))))),?_⟩;try dsimp only[gL,l]
 refine El ?_;intro _ _ _;refine⟨_,rfl,(dw rfl),λj g=>⟨j,(["nat","none","all","some","same","var","fun","app","zero","next","rec","like","carry"]:List Str).map V.str,rfl, .inr (bS.of aq),rfl,rfl,_,rfl,?_⟩⟩;have s1:aL H _:=ar g (.tup ((["nat","none","all","some","same","var","fun","app","zero","next","rec","like","carry"]:List Str).map V.str));rw[mQ];refine aV (λc=>?_) (λc=>?_);·have c:=of_decide_eq_true c;have hm:x∈UZ:=List.mem_append.mpr (.inl c);exact⟨_,rfl,_,rfl,_,rfl,x,rfl,big (by omega),rfl,λy a=>⟨_,_,rfl,rfl,b hm y _ a s1⟩⟩
 ·have c:=of_decide_eq_false (Bool.eq_false_iff.mpr c);refine⟨_,rfl,(dw rfl),λk i=>⟨k,(["never","pair","first","second","name"]:List Str).map V.str,rfl, .inr (bS.of aq),rfl,rfl,_,rfl,?_⟩⟩;have s2:=s1.trans (ar i (.tup ((["never","pair","first","second","name"]:List Str).map V.str)));rw[mQ];refine aV (λc2=>?_) (λc2=>?_);·have c2:=of_decide_eq_true c2;have hm:x∈UZ:=List.mem_append.mpr (.inr c2);exact⟨_,rfl,_,rfl,_,rfl,x,rfl,big (by omega),rfl,λy a=>⟨_,_,rfl,rfl,b hm y _ a s2⟩⟩
  ·have c2:=of_decide_eq_false (Bool.eq_false_iff.mpr c2);exact⟨_,rfl,q x _ (d.pn λhm=>(List.mem_append.mp hm).elim c c2) s2⟩
theorem D9{x:Str}{l:List Nat}(e:x.cps.toList=l)(h1:1<=l.length)(h2:l.length<=12)(h3:∀c∈l,c∈bT.cps.toList):Z6 x:=by
 have :x.length=l.length:=by rw[<-e];simp[Str.length]
 exact⟨by omega,by omega,by rw[e];exact h3⟩
def La(K:PySem.W.Frag):Sp:=λvs H Q _=>∃(a p:Addr)(ns:List Int)(i:Int),vs=[.ref a, .ref p]/\Tp K a p ns H i/\i<2^59/\∀(c:Addr)(x y z:Str)(H':Hp),Pn x->Pn y->Pn z->H' c=some (.lst [.str x, .str y, .str z])->bO p H H'->H' p=some (.lst [.int (i+4)])->Q (.ref c) H'
theorem cQ:aN ["_law_script","_law_tape","_law_letters","_law_cell","_law_size","_law_word","_law_at","_law_other","_law_words"] ["_law_script","_law_tape"] (ak eT):=⟨rfl,rfl,rfl,by decide+kernel,rfl,by decide+kernel,by decide+kernel⟩
theorem FN(D:Df K mg "_law_pool" eT ["_law_script","_law_tape"])(M:Mg mg t)(B:bj P w K mg bA "_law_draw" (1) FC (ft K))(Bf:bj P w K mg bA "_law_named" (1) ["_law_word"] GJ):bj P w K mg bA "_law_pool" (2) ["_law_script","_law_tape"] (La K):=by
 refine D.ok cQ (λvs H Q E h=>?_) (λbase f cF A outer s H vs Q E o h=>?_);·obtain⟨a,p,ns,i,rfl,_⟩:=h;rfl
 obtain⟨a,p,ns,i,rfl,T,hi,q⟩:=h;refine⟨_,(ag (aH (i:=2) cQ.nd rfl (cI rfl) aE) (ag (aH (i:=3) cQ.nd rfl (cI rfl) (ay B o.m rfl aC (aa (pv 0) (aa (pv 1) (aa (aQ Wb ah ah) af))))) (ag (aH (i:=4) cQ.nd rfl (cI rfl) (aQ cy ah (ay B o.m rfl aC (aa (pv 0) (aa (pv 1) (aa ah af)))))) (ag (aH (i:=5) cQ.nd rfl (cI rfl) (BR PySem.F.plainAttrs_str PySem.F.slot_str_join PySem.F.type_str_join Pj aE (aa (gI (N':=["_law_k","_law_letters","_law_cell"]) (own:=1) (fr:=[2,3]) rfl (iI (N:=["_law_script","_law_tape","_law_letters","_law_cell","_law_size","_law_word","_law_at","_law_other","_law_words"]) (sc:=ak eT) rfl rfl rfl (by decide+kernel)) (gX rfl M.mX (aa (pv 4) af)) (ij (by decide)) (λ_ _ _=>(bI (i:=0) (show List.Nodup (["_law_k","_law_letters","_law_cell"]:List Str)by decide+kernel) rfl (Or.inl rfl))) (λ_ _ _=>gG) (λ_ _ _=>(aS FF (pv 1) (aQ jx (aQ cy (aQ Pr (pv 2) (aQ cy (pv 0) ah)) (aQ yt ah (pv 0))) ah) (λ_ _=>rfl)))) af))) (ag (aH (i:=6) cQ.nd rfl (cI rfl) (ay B o.m rfl aC (aa (pv 0) (aa (pv 1) (aa (pv 4) af))))) (ag (aH (i:=7) cQ.nd rfl (cI rfl) (aS FF (pv 2) (aQ jx (aQ cy (aQ cy (BR PySem.F.plainAttrs_str PySem.F.slot_str_index PySem.F.type_str_index MF (pv 2) (aa (aS FF (pv 5) (pv 6) (λ_ _=>rfl)) af)) ah) (ay B o.m rfl aC (aa (pv 0) (aa (pv 1) (aa ah af))))) ah) (λ_ _=>rfl))) (ag (aH (i:=8) cQ.nd rfl (cI rfl) (cA (aa (pv 5) (aa (aQ gg (aQ gg (lH (pv 5) cJ (eL (pv 6)) cJ) (pv 7)) (lH (pv 5) (eL (aQ cy (pv 6) ah)) cJ cJ)) (aa (lH (aQ gg (pv 7) (pv 5)) cJ (eL ah) cJ) af))))) (ai (aw (gI (N':=["_law_one"]) (own:=1) (fr:=[]) rfl (iI (N:=["_law_script","_law_tape","_law_letters","_law_cell","_law_size","_law_word","_law_at","_law_other","_law_words"]) (sc:=ak eT) rfl rfl rfl (by decide+kernel)) (j5 (pv 8)) (ij (by decide)) (λ_ _ _=>(bI (i:=0) (show List.Nodup (["_law_one"]:List Str)by decide+kernel) rfl (Or.inl rfl))) (λ_ _ _=>gG) (λ_ _ _=>(ay Bf o.m rfl aC (aa (pv 0) af))))))))))))),?_⟩;try dsimp only[gL,cG]
 refine abS ?_;intro _ _ _ _ _ _ _ _;refine⟨_,rfl,_,rfl,_,_,rfl,rfl,⟨by decide,by decide,by decide⟩,a,p,ns,i,_,rfl,T,(by omega),(by decide),λcell H1 c0 c1 x1 h1=>?_⟩;have T1:=T.next x1 h1 (by have :=T.i0;omega);refine⟨_,rfl,_,rfl,a,p,ns,i+1,12,rfl,T1,(by omega),(by decide),λsz H2 z0 z1 x2 h2=>⟨_,_,rfl,rfl,?_⟩⟩;have T2:=T1.next x2 h2 (by have :=T.i0;omega);obtain⟨m,em⟩:∃m:Nat,1+sz=(m:Int):=⟨(1+sz).toNat,by omega⟩;show sj 4 (V.int (1+sz)) _ _ _;rw[em];refine⟨rfl,_,rfl,_,rfl,(by show-(2^62)<=((m:Nat):Int);omega),(by show((m:Nat):Int)<2^62;omega),λp3 J_=>?_⟩;refine j8 m (λk=>V.str ⟨#[uN (cell/((k:Nat)+1)+5*(k:Nat))]⟩) J_ (big (by omega)) (λk H3 I O=>⟨I,?_⟩) λH3 O h3=>⟨bJ _,?_⟩
 ·rintro x' H4⟨rfl,rfl⟩R G;have e0:(0:Int)+(k:Int)=((k:Nat):Int):=by omega
  rw[e0];refine⟨_,rfl,_,rfl,_,rfl,_,_,rfl,rfl,_,_,rfl,rfl,⟨by omega,by omega⟩,_,rfl,_,_,rfl,rfl, .inl ⟨by decide,by decide⟩,_,_,rfl,rfl,_,_,rfl,rfl,(by show(0:Int)<26;decide),bT,_,_,rfl,rfl,(by decide),(A5 _).1,G _ (aL.refl _)⟩
 have Y:(List.range m).map (λk:Nat=>V.str ⟨#[uN (cell/((k:Nat)+1)+5*(k:Nat))]⟩)=((((List.range m).map λk:Nat=>uN (cell/((k:Nat)+1)+5*(k:Nat))).map λc=>(⟨#[c]⟩:Str))).map V.str:=by rw[List.map_map,List.map_map];rfl
 rw[Y]at h3;have j:∀c∈((List.range m).map λk:Nat=>uN (cell/((k:Nat)+1)+5*(k:Nat))),c∈bT.cps.toList:=λc hc=>by obtain⟨k,_,rfl⟩:=List.mem_map.mp hc;exact(A5 _).2
 have Xv:((List.range m).map λk:Nat=>uN (cell/((k:Nat)+1)+5*(k:Nat))).length=m:=by rw[c_,List.length_range]
 generalize((List.range m).map λk:Nat=>uN (cell/((k:Nat)+1)+5*(k:Nat)))=cs at h3 j Xv Y;refine⟨_,p3,_,rfl,rfl,bN.of h3,?_,?_⟩;·rw[Lf,c_];show cs.length+cs.length*0<=_;omega
 have e:=xZ cs;have hWl:(Txt.join (Str.ofString "") (cs.map λc=>(⟨#[c]⟩:Str))).length=m:=by have :=congrArg List.length e;rw[Array.length_toList]at this;rw[<-Xv,<-this];rfl
 generalize Txt.join (Str.ofString "") (cs.map λc=>(⟨#[c]⟩:Str))=W at e hWl⊢;have X:=T2.mono O;have i0:=T.i0;refine⟨_,rfl,_,rfl,_,rfl,a,p,ns,i+1+1,m,rfl,X,(by omega),(by omega),λat_ H4 a0 a1 x4 h4=>?_⟩;have T4:=X.next x4 h4 (by omega);obtain⟨n,rfl⟩:∃n:Nat,at_=(n:Int):=⟨at_.toNat,by omega⟩;have Z:n<cs.length:=by omega
 have hc:kZ W.cps.toList (n:Int)=some cs[n]:=by rw[e];exact aO (e8 Z)
 obtain⟨ix,rest,hoc⟩:=O8 (j _ (List.getElem_mem Z));refine⟨_,rfl,_,rfl,rfl,_,rfl,_,rfl,W,_,_,rfl,rfl,big (by omega),hc,bT,_,ix,rest,rfl,rfl,hoc,_,_,rfl,rfl,_,rfl,_,rfl,a,p,ns,i+1+1+1,25,rfl,T4,(by omega),(by decide),λr S r0 r1 x5 h5=>?_⟩;refine⟨_,_,rfl,rfl,_,_,rfl,rfl,(by show(0:Int)<26;decide),bT,_,_,rfl,rfl,(by decide),(A5 _).1,?_⟩;have one:∀c:Nat,(⟨#[c]⟩:Str).length=1:=λc=>rfl;generalize abw:uN _=oc;have XT:oc∈bT.cps.toList:=abw▸(A5 _).2;refine⟨_,rfl,_,rfl,_,rfl,_,rfl,W,rfl,big (by omega),rfl,λb J=>?_⟩;rw[Ic,e]at J;have ly1:b.length=n:=by rw[show b.length=b.cps.toList.length by simp[Str.length],J,List.length_take];omega
 refine⟨_,rfl,_,_,rfl,rfl,big (by rw[one];omega),_,rfl,_,rfl,_,_,rfl,rfl,_,rfl,W,rfl,big (by omega),rfl,λd L=>?_⟩;rw[show((n:Nat):Int)+1=((n+1:Nat):Int)by omega,Js,e]at L;have ly2:d.length=cs.length-(n+1):=by rw[show d.length=d.cps.toList.length by simp[Str.length],L,List.length_drop]
 refine⟨_,_,rfl,rfl,big (by rw[Vm,one];omega),_,rfl,_,rfl,_,_,rfl,rfl,big (by rw[one];omega),_,rfl,_,rfl,big (by rw[Vm,one];omega),rfl,λg hy3=>?_⟩;rw[show(12:Int)=((12:Nat):Int)from rfl,Ic,show(((⟨#[oc]⟩:Str)++W).cps.toList)=oc::cs by show(#[oc]++W.cps).toList=_;rw[Array.toList_append,e];rfl]at hy3;refine⟨(dw rfl),λC hp6=>?_⟩;have s6:=ar hp6 (.lst [V.str W,V.str (b++⟨#[oc]⟩++d),V.str g]);have h6:(upd S C (.lst [V.str W,V.str (b++⟨#[oc]⟩++d),V.str g])) C=some (.lst [V.str W,V.str (b++⟨#[oc]⟩++d),V.str g]):=aq;generalize upd S C (.lst [V.str W,V.str (b++⟨#[oc]⟩++d),V.str g])=H6 at s6 h6⊢;have hl3:∀z∈[W,b++⟨#[oc]⟩++d,g],Z6 z:=λz u=>by
  simp only[eB,fH,or_false]at u;rcases u with rfl|rfl|rfl;·exact D9 e (by omega) (by omega) j
  ·refine D9 (l:=cs.take n++[oc]++cs.drop (n+1)) ?_ (by simp;omega) (by simp;omega) λc hc=>?_;·show(b.cps++#[oc]++d.cps).toList=_;rw[Array.toList_append,Array.toList_append,J,L]
   ·rcases List.mem_append.mp hc with hc|hc
    ·rcases List.mem_append.mp hc with hc|hc;·exact j c (List.mem_of_mem_take hc)
     ·rw[List.mem_singleton.mp hc];exact XT
    ·exact j c (List.mem_of_mem_drop hc)
  ·refine D9 hy3 (by simp) (by simp;omega) λc hc=>?_;rcases List.mem_cons.mp (List.mem_of_mem_take hc)with rfl|hc;·exact XT
   ·exact j c hc
 refine⟨_,rfl,C,rfl,⟨_,bN.of h6⟩,λp7 hp7=>?_⟩;refine Jh 3 (λ_ v=>∃y:Str,v= .str y/\Pn y) hp7 (by decide) (λk U I x=>?_) λvs U x hl F h7=>⟨⟨_,bN.of (x _ _ h6),bJ _⟩,?_⟩
 ·obtain⟨z,u,hzm⟩:∃z:Str,[V.str W,V.str (b++⟨#[oc]⟩++d),V.str g][k]?=some (.str z)/\z∈[W,b++⟨#[oc]⟩++d,g]:=by match k,I with|0,_=>exact⟨_,rfl,by simp⟩|1,_=>exact⟨_,rfl,by simp⟩|2,_=>exact⟨_,rfl,by simp⟩
  refine⟨⟨_,_,bN.of (x _ _ h6),u⟩,?_⟩;rintro x' H8⟨rfl,hy⟩R G;have hx:=hy _ (bN.of (x _ _ h6));rw[u]at hx;cases hx;exact⟨_,rfl,z,rfl,hl3 z hzm,λy H9 hy9 s9=>G _ H9 s9 ⟨y,rfl,hy9⟩⟩
 ·match vs,hl with|[v1,v2,v3],_=>obtain⟨q1,rfl,l1⟩:=F 0 v1 rfl;obtain⟨q2,rfl,l2⟩:=F 1 v2 rfl;obtain⟨q3,rfl,l3⟩:=F 2 v3 rfl;have s57:=s6.trans x;refine q p7 q1 q2 q3 U l1 l2 l3 h7 (((x1.trans x2).trans (O.x.trans x4)).trans (x5.trans s57.x)) ?_;rw[show i+4=i+1+1+1+1 by omega];exact s57 _ _ h5
end K25
end
section
namespace K25
open PySem L2 L3 KM
seal L2.PE L2.PS L2.gT L2.PT L2.PW L2.PA L2.PG L2.uX L2.PI L2.PC L2.PO L2.DC L2.PK L3.vF
variable{P:Program}{w:World}{K:PySem.W.Frag}{mg:Str->Option Value}{base:Heap}{t:ve}
theorem sizeLine_eq:sizeLine=16777216:=by decide
def okH(d:D):Prop:=d= .aP\/d= .tup []\/∃x,d= .str x
mutual noncomputable def Kz:D->Prop| .tup []=>True| .tup (h::ps)=>okH h/\okL ps/\ps.length<=20|_=>True noncomputable def okL:List D->Prop|[]=>True|p::ps=>Kz p/\okL ps end
mutual theorem Hs:∀{k:Bool}{d:D},bh ao k d=true->Kz d
 |k, .tup (.str x::ps),h=>by
  obtain⟨s,e1,e2,e3,e4,e5,_⟩:=bB h;refine⟨.inr (.inr ⟨x,rfl⟩),Ky e3,?_⟩;have :s.cps.toList.length=s.cps.size:=by simp
  omega
 |k, .tup [],h=>by simp[bh]at h
 |k, .tup (.aP::_),h=>by simp[bh]at h
 |k, .tup (.bl _::_),h=>by simp[bh]at h
 |k, .tup (.int _::_),h=>by simp[bh]at h
 |k, .tup (.tup _::_),h=>by simp[bh]at h
 |k, .aP,h=>by simp[bh]at h
 |k, .bl _,h=>by simp[bh]at h
 |k, .int _,h=>by simp[bh]at h
 |k, .str _,h=>by simp[bh]at h theorem Ky:∀{cs:List Nat}{ps:List D},dQ ao cs ps=true->okL ps
 |[],[],_=>trivial
 |[],_::_,h=>by simp[dQ]at h
 |_::_,[],h=>by simp[dQ]at h
 |c::cs,p::ps,h=>by
  rw[az,cf]at h;refine⟨?_,Ky h.2⟩;have h:=h.1;unfold cO at h;by_cases c1:c=107;·rw[if_pos c1]at h;exact Hs h
  ·rw[if_neg c1]at h;by_cases c2:c=116;·rw[if_pos c2]at h;exact Hs h
   ·rw[if_neg c2]at h;cases p<;>first|trivial|(simp[iq,ao]at h;done)end
theorem Oz:∀{ds:List D},Kz (.tup ds)->ds.length<=21|[],_=>by simp|_::ps,h=>by have :=h.2.2;simp;omega
theorem G2:∀{ps:List D}{p:D},okL ps->p∈ps->Kz p
 |[],_,_,e=>by simp at e
 |q::ps,p,h,e=>by
  rcases List.mem_cons.mp e with rfl|e;·exact h.1
  ·exact G2 h.2 e
theorem Xz:∀{d:D},Kz d->∀x∈tk d,Kz x
 | .tup [],_,x,a=>by simp[tk]at a
 | .tup (h::ps),ok,x,a=>by
  have hm:x∈h::ps:=(List.mem_filter.mp a).1;rcases List.mem_cons.mp hm with rfl|hm;·rcases ok.1 with rfl|rfl|⟨y,rfl⟩<;>simp[Kz]
  ·exact G2 ok.2.1 hm
 | .aP,_,x,a=>by simp[tk]at a
 | .bl _,_,x,a=>by simp[tk]at a
 | .int _,_,x,a=>by simp[tk]at a
 | .str _,_,x,a=>by simp[tk]at a
theorem Md:∀(n:Nat)(l:List D),(∀x∈l,Kz x)->∀x∈lv n l,Kz x|0,_,h=>h|n+1,l,h=>Md n _ λx a=>by obtain⟨d,hd,a⟩:=List.mem_flatMap.mp a;exact Xz (h d hd) x a
noncomputable def c7(d:D):Bool:=!(decide (aJ d<=600)&&decide (depth d<=40))
def Fp:Sp:=λvs H Q _=>∃ds v,vs=[v]/\Rep H (.tup ds) v/\Kz (.tup ds)/\0<=aJ (.tup ds)/\∀H',aL H H'->Q (.bl (c7 (.tup ds))) H'
noncomputable def jP(ds:List D)(vs:List V)(j:Nat):Option V:=if isTup ((ds[j]?).getD .aP)then vs[j]? else none
theorem wy{H:Hp}:∀{ds:List D}{vs:List V},bE H ds vs->bE H (ds.filter isTup) ((List.range vs.length).filterMap (jP ds vs))
 |[],_,r=>by have r:_=[]:=r;subst r;exact rfl
 |d::ds,_,⟨v,a,e,q,t⟩=>by
  subst e;have b:=wy t;rw[hV,List.range_succ_eq_map,List.filterMap_cons,List.filterMap_map];have e:(jP (d::ds) (v::a)∘Nat.succ)=jP ds a:=by funext j;simp[jP]
  rw[e];by_cases hd:isTup d=true
  ·rw[List.filter_cons_of_pos hd];have e0:jP (d::ds) (v::a) 0=some v:=by simp[jP,hd]
   simp only[e0];exact⟨v,_,rfl,q,b⟩
  ·rw[List.filter_cons_of_neg hd];have e0:jP (d::ds) (v::a) 0=none:=by simp[jP,hd]
   simp only[e0];exact b
theorem mI(ds:List D):∀x∈[D.tup ds],isTup x=true:=λx a=>by rw[List.mem_singleton.mp a];rfl
theorem nL(ds:List D):aK [D.tup ds]=aJ (.tup ds):=by simp[aK]
theorem JR(ds:List D):aB [D.tup ds]=depth (.tup ds):=by simp[aB]
theorem Uo(i:Nat)(ds:List D):(lv i [D.tup ds]).length<=aJ (.tup ds):=by have h:=uk (i+1) [D.tup ds] (mI ds);rw[nL]at h;simp only[f_]at h;omega
theorem vd(l:List D)(j:Nat):((l.take j).flatMap tk).length<=(l.flatMap tk).length:=by
 have e:l.flatMap tk=(l.take j).flatMap tk++(l.drop j).flatMap tk:=by rw[<-List.flatMap_append,List.take_append_drop]
 rw[e,je];omega
theorem Bv{L:Nat}:∀(l:List D),(∀d∈l,(tk d).length<=L)->(l.flatMap tk).length<=l.length*L|[],_=>by simp|d::l,h=>by rw[List.flatMap_cons,je,hV,Nat.add_mul,Nat.one_mul];have :=Bv l λx a=>h x (dX _ a);have :=h d eC;omega
theorem Ux{d:D}(h:Kz d):(tk d).length<=21:=by cases d with|tup es=>exact cS (List.length_filter_le _ _) (Oz h)|_=>simp[tk]
theorem Lm{ds:List D}{i:Nat}(h:600<f_ i [D.tup ds]):c7 (.tup ds)=true:=by have :=uk i [D.tup ds] (mI ds);rw[nL]at this;unfold c7;rw[decide_eq_false (by omega)];rfl
theorem Ms{ds:List D}(h:f_ 40 [D.tup ds]<=600):c7 (.tup ds)=decide (0<(lv 40 [D.tup ds]).length):=by
 have e:=Je [D.tup ds] (mI ds);rw[nL,JR]at e;unfold c7;by_cases c:lv 40 [D.tup ds]=[];·obtain⟨a,b⟩:=e.mp ⟨h,c⟩;rw[decide_eq_true a,decide_eq_true b,c];rfl
 ·have :¬(aJ (.tup ds)<=600/\depth (.tup ds)<=40):=λz=>c (e.mpr z).2;have hl:0<(lv 40 [D.tup ds]).length:=List.length_pos_iff.mpr c;rw[decide_eq_true hl];by_cases a:aJ (.tup ds)<=600;·rw[decide_eq_false λb=>this ⟨a,b⟩,Bool.and_false];rfl
  ·rw[decide_eq_false a];rfl
theorem dr:aN ["value","level","knots","depth","below","knot"] ["value"] (ak g6):=⟨rfl,rfl,rfl,by decide+kernel,rfl,by decide+kernel,by decide+kernel⟩
theorem Jy(D:Df K mg "is_vast" g6 ["value"])(M:Mg mg t):bj P w K mg bA "is_vast" (1) ["value"] Fp:=by
 refine D.ok dr (λvs H Q E h=>?_) (λbase f cF A outer s H vs Q E hr h=>?_);·obtain⟨d,v,rfl,_⟩:=h;rfl
 obtain⟨ds,v,rfl,r,ok,hk,q⟩:=h;refine⟨_,(ag (aH (i:=1) dr.nd rfl (cI rfl) (cA (aa (pv 0) af))) (ag (aH (i:=2) dr.nd rfl (cI rfl) ah) (ag (gS PassesOwn.never rfl (gX rfl M.mX (aa (mR M.g_MOST_DEEP rfl) af)) (bI (i:=3) dr.nd rfl (cI rfl)) (ag (Vx (i:=2) dr.nd rfl (cI rfl) (bw bx rfl M.fB dP (aa (pv 1) af)) TL) (ag (bu (aD uH (pv 2) (mR M.g_MOST_KNOTS rfl) (aG _)) (ai (aw oY)) aM) (ag (aH (i:=4) dr.nd rfl (cI rfl) (cA af)) (ag (gS PassesOwn.never rfl (j5 (pv 1)) (bI (i:=5) dr.nd rfl (cI rfl)) (ai (xM (BR PySem.F.plainAttrs_list PySem.F.slot_list_extend PySem.F.type_list_extend vO (pv 4) (aa (gI (N':=["part"]) (own:=1) (fr:=[]) rfl (iI (N:=["value","level","knots","depth","below","knot"]) (sc:=ak g6) rfl rfl rfl (by decide+kernel)) (Fx (pv 5)) (ij (by decide)) (λ_ _ _=>(bI (i:=0) (show List.Nodup (["part"]:List Str)by decide+kernel) rfl (Or.inl rfl))) (λ_ _ _=>(PD (jA (bw (yx (K:=K)) rfl M.dG cW (aa (pv 0) (aa (vW M.qc lS rfl) af)))))) (λ_ _ _=>(pv 0))) af))))) (ai (aH (i:=1) dr.nd rfl (cI rfl) (pv 4)))))))) (ai (aw (cK uH (bw bx rfl M.fB dP (aa (pv 1) af)) ah (aG _))))))),?_⟩;try dsimp only[gL,cG]
 refine IW ?_;intro _ _ _ _;refine⟨_,rfl,(dw rfl),λq1 ou=>?_⟩;have e1:(upd H q1 (.lst [v])) q1=some (.lst [v]):=aq;have s1:aL H (upd H q1 (.lst [v])):=ar ou _;refine⟨40,rfl,by decide,by decide,J4 (n:=40) (λi B H'=>∃(q:Addr)(us:List V)(O G g:Option V),B=[some v,some (.ref q),some (.int (f_ i [KM.D.tup ds])),O,G,g]/\H' q=some (.lst us)/\bE H' (lv i [KM.D.tup ds]) us/\f_ i [KM.D.tup ds]<=600/\aL H H') ?_ ?_ ?_⟩;·exact⟨q1,[v],none,none,none,rfl,e1,bE.one (r.mono s1),by simp[f_],s1⟩
 ·rintro i B l hi⟨q2,us,O,G,g,rfl,C,I,hup,s2⟩;have X3:=I.length;have lvl:=Uo i ds;refine⟨_,rfl,_,rfl,q2,us,rfl, .inl (bN.of C),_,_,rfl,rfl,?_⟩;have eu:((f_ i [KM.D.tup ds]:Nat):Int)+((us.length:Nat):Int)=((f_ (i+1) [KM.D.tup ds]:Nat):Int):=by simp only[f_];omega
  show ba _ _ _ [some v,some (.ref q2),some (.int (((f_ i [KM.D.tup ds]:Nat):Int)+((us.length:Nat):Int))),some (.int (0+(i:Int))),G,g] l;rw[eu];refine⟨_,rfl,_,_,rfl,rfl,_,rfl,?_⟩;refine aV (λc=>?_) (λc=>?_);·have c:(600:Int)<((f_ (i+1) [KM.D.tup ds]:Nat):Int):=of_decide_eq_true c;have e:=Lm (ds:=ds) (i:=i+1) (by omega);rw[e]at q;exact q l s2
  have c:¬(600:Int)<((f_ (i+1) [KM.D.tup ds]:Nat):Int):=of_decide_eq_false (Bool.eq_false_iff.mpr c);refine⟨by show 0<=sizeLine;decide,λq4 Z=>?_⟩;have e4:(upd l q4 (.lst [])) q4=some (.lst []):=aq;have s4:aL l (upd l q4 (.lst [])):=ar Z _;refine⟨_,rfl,q2,rfl,⟨us,bN.of (s4 _ _ C)⟩,N3 (xs:=us) (λj B H'=>∃(bs:List V)(g:Option V),B=[some v,some (.ref q2),some (.int (f_ (i+1) [KM.D.tup ds])),some (.int (0+(i:Int))),some (.ref q4),g]/\H' q4=some (.lst bs)/\bE H' (((lv i [KM.D.tup ds]).take j).flatMap tk) bs/\aL l H') ?_ ?_ ?_ ?_⟩;·exact⟨[],g,rfl,e4,by simp[bE],s4⟩
  ·rintro j B H' _⟨bs,g,rfl,h4,rb,s'⟩;exact bN.of (s' _ _ C)
  ·rintro j u B H5 hu⟨bs,g,rfl,h4,rb,J⟩;obtain⟨d,hd,rd⟩:=I.get' hu;have htd:=FT i [KM.D.tup ds] (mI ds) d (nP hd);obtain⟨es,rfl⟩:∃es,d= .tup es:=by cases d<;>first|exact⟨_,rfl⟩|cases htd
   obtain⟨a,ws,rfl,ha,S⟩:=rd.mono J;have hsz:ws.length<=sizeLine:=by have h1:=S.length;have h2:=Oz (Md i [KM.D.tup ds] (λx m=>by rw[List.mem_singleton.mp m];exact ok) _ (nP hd));rw[sizeLine_eq];omega
   refine⟨_,rfl, .inl ⟨rfl,_,bN.of h4⟩,_,rfl,a,rfl,⟨ws,bS.of ha⟩,λp Y=>Oo ws.length (jP es ws) Y hsz (λk L hk6 y=>?_) λL y h6=>?_⟩
   ·obtain⟨wk,F⟩:∃x,ws[k]?=some x:=⟨_,e8 hk6⟩;have hqa:bS K L a ws:=bS.of (y _ _ ha);refine⟨⟨ws,wk,hqa,F⟩,?_⟩;rintro x' T⟨rfl,hy⟩R R0 hR hR0;have m:=hy ws hqa;rw[F]at m;cases m;obtain⟨dk,W,rk⟩:=S.get' F;refine⟨_,rfl,_,_,_,_,rfl,(Rep.mono y rk).ty,yh _ dk,_,rfl,?_⟩;refine aV (λc=>?_) (λc=>?_);·exact⟨_,rfl,hR wk T (by simp[jP,W,c,F]) (aL.refl _)⟩
    ·exact hR0 T (by simp[jP,W,c]) (aL.refl _)
   ·have lb:=rb.length;have U:=y _ _ h4;have n4:q4≠p:=aT h4 Y;have hl:(lv i [KM.D.tup ds]).take (j+1)=(lv i [KM.D.tup ds]).take j++[KM.D.tup es]:=by rw[List.take_add_one,hd];rfl
    have X:((lv i [KM.D.tup ds]).take (j+1)).flatMap tk=((lv i [KM.D.tup ds]).take j).flatMap tk++es.filter isTup:=by rw[hl,List.flatMap_append];simp[tk]
    have rpk:=wy (S.mono y);have lpk:=rpk.length;have lfl:=vd (lv i [KM.D.tup ds]) (j+1);rw[<-qj,X,je]at lfl;have lv1:(lv (i+1) [KM.D.tup ds]).length<=600*21:=by rw[qj];refine cS (Bv _ λx m=>Ux (Md i [KM.D.tup ds] (λx m=>by rw[List.mem_singleton.mp m];exact ok) x m)) (Nat.mul_le_mul_right _ ?_);simp only[f_]at c;omega
    have np:∀vs,L q4≠some (.tup vs):=λvs z=>by rw[U]at z;cases z
    refine⟨⟨ws,bS.of (y _ _ ha),bJ _⟩,q4,p,_,_,rfl,rfl,U,h6,?_,?_⟩;·rw[lb,lpk,sizeLine_eq];omega
    ·refine⟨_,_,rfl,aq,?_,λb o hb=>?_⟩;·rw[X];exact bE.ja (bO.upd _) np ((rb.mono y).append rpk)
     ·rw[bf (aT hb Z)];exact y _ _ (J _ _ hb)
  ·rintro B H5⟨bs,g,rfl,h4,rb,J⟩;rw[zD (by omega),<-qj]at rb;refine⟨_,rfl,q4,bs,_,_,_,rfl,h4,rb,by omega,s2.trans J⟩
 ·rintro B l⟨q2,us,O,G,g,rfl,C,I,hup,s2⟩;refine⟨_,rfl,q2,us,rfl, .inl (bN.of C),_,_,rfl,rfl,?_⟩;have e:decide ((0:Int)<((us.length:Nat):Int))=c7 (.tup ds):=by rw[Ms hup,I.length];simp
  show Q (.bl (decide ((0:Int)<((us.length:Nat):Int)))) l;rw[e];exact q l s2
end K25
end
section
namespace K25
open PySem L2 L3 KM PyProof.Rows
seal L2.PE L2.PS L2.gT L2.PT L2.PW L2.PA L2.PG L2.uX L2.PI L2.PC L2.PO L2.DC L2.PK L3.vF
variable{P:Program}{w:World}{K:PySem.W.Frag}{mg:Str->Option Value}{base:Heap}{t:ve}
theorem IA{k:Bool}{x:Str}{ps:List D}(h:bh ao k (.tup (.str x::ps))=true)(g:bC x=true):∀(i:Nat)(p:D),ps[i]?=some p->isTup p=false/\(iq p=true\/ao p=true):=by
 obtain⟨s,h1,h2,h3,h4,h5,h6,l,_⟩:=bB h;have hc:∀(cs:List Nat)(a:List D)(i:Nat),dQ ao cs a=true->(∀c∈cs,WK c=!bC x)->∀p,a[i]?=some p->isTup p=false/\(iq p=true\/ao p=true):=λcs=>by
  induction cs with
   |nil=>intro a i hq _ p e;cases a with|nil=>simp at e|cons _ _=>simp[dQ]at hq
   |cons c cs j=>
    intro a i hq f p e;cases a with
     |nil=>simp[dQ]at hq
     |cons q a=>
      rw[az,cf]at hq;cases i with
       |zero=>
        simp at e;subst e;have d:=f c eC;rw[g]at d;have b:=hq.1;unfold cO at b;rw[if_neg (λz=>by rw[z,kt1]at d;cases d),if_neg (λz=>by rw[z,kt2]at d;cases d)]at b;split at b;·exact⟨by cases q<;>simp[iq]at b<;>rfl, .inl b⟩
        ·exact⟨by cases q<;>simp[ao]at b<;>rfl, .inr b⟩
       |succ i=>exact j a i hq.2 (λc hc=>f c (dX _ hc)) p (by simpa using e)
 exactλi p e=>hc _ ps i h3 h6 p e
theorem vY:∀(ps:List D),(∀(i:Nat)(p:D),ps[i]?=some p->isTup p=false)->aK ps=0/\aB ps=0
 |[],_=>⟨rfl,rfl⟩
 |p::ps,h=>by
  obtain⟨h1,h2⟩:=vY ps λi q e=>h (i+1) q (by simpa using e);have a:=h 0 p rfl;have e1:aJ p=0:=by cases p<;>first|rfl|simp[isTup]at a
  have e2:depth p=0:=by cases p<;>first|rfl|simp[isTup]at a
  simp[aK,aB,h1,h2,e1,e2]
theorem kI:∀ps:List D,aK ps=(ps.map aJ).sum|[]=>rfl|p::ps=>by simp[aK,kI ps]
theorem kC:∀ps:List D,aB ps=iU (ps.map depth)|[]=>rfl|p::ps=>by rw[aB,kC ps];rfl
theorem iW{k:Bool}{x:Str}{ps:List D}(h:bh ao k (.tup (.str x::ps))=true):aJ (.tup (.str x::ps))=1+((av x ps).map aJ).sum/\depth (.tup (.str x::ps))=1+iU ((av x ps).map depth):=by
 rw[<-kI,<-kC];have e1:aJ (.tup (.str x::ps))=1+aK ps:=by simp[aJ,aK]
 have e2:depth (.tup (.str x::ps))=1+aB ps:=by simp[depth,aB]
 rw[e1,e2];unfold av;by_cases a:bC x=true;·obtain⟨b,c⟩:=vY ps λi p e=>(IA h a i p e).1;rw[if_pos a,b,c];exact⟨rfl,rfl⟩
 ·rw[if_neg a];exact⟨rfl,rfl⟩
structure Rz(d:D)(n:Nat):Prop where
 wf:Wf d
 dp:depth d<n
 kn:0<=aJ d
theorem Rz.kid{n:Nat}{x:Str}{ps:List D}{i:Nat}{p:D}(h:Rz (.tup (.str x::ps)) (n+1))(e:(av x ps)[i]?=some p):Rz p n:=by obtain⟨k,wf⟩:=h.wf;obtain⟨a,b⟩:=eQ wf e;have hd:=h.dp;exact⟨a,by omega,d4 _⟩
structure Rs(d:D)(n:Nat):Prop where
 wf:Wf d
 dp:depth d<n
 kn:aJ d<=8000000
mutual noncomputable def dv:D->Bool| .int i=>decide (99<i)| .tup ds=>eM ds|_=>false noncomputable def eM:List D->Bool|[]=>false|d::ds=>dv d||eM ds end
theorem PN{ds:List D}:∀{ns:List Int},ns.length=ds.length->(∀(i:Nat)(z:Int),ns[i]?=some z->decide (99<z)=dv ((ds[i]?).getD .aP))->eM ds=ns.any λz=>decide (99<z):=by
 induction ds with
  |nil=>intro ns h _;cases ns with|nil=>rfl|cons _ _=>simp at h
  |cons d ds b=>intro ns h a;cases ns with|nil=>simp at h|cons z ns=>rw[eM,List.any_cons,b (by simpa using h) (λi z e=>by simpa using a (i+1) z (by simpa using e)),a 0 z rfl];rfl
theorem any_max(b:Int):∀(ns:List Int)(d:Int),d<=b->decide (b<maxD ns d)=ns.any λz=>decide (b<z)|[],d,h=>by show decide (b<d)=false;exact decide_eq_false (by omega)|a::r,d,_=>by show decide (b<r.foldl Vf a)=_;rw[List.any_cons];induction r generalizing a with|nil=>exact(Bool.or_false _).symm|cons c r e=>rw[List.foldl_cons,e,List.any_cons,<-Bool.or_assoc];congr 1;unfold Vf;by_cases h1:b<a<;>by_cases h2:b<c<;>simp[h1,h2]<;>split<;>omega
theorem Bx{x:Str}{ps:List D}{k:Bool}(wf:bh ao k (.tup (.str x::ps))=true)(a:bC x=true)(f:x≠"var"):∀(i:Nat)(p:D),ps[i]?=some p->dv p=false:=λi p e=>by
 have a:x="name":=by unfold bC at a;simp[f]at a;exact a
 subst a;obtain⟨g,e1,_,b,_,c,_⟩:=bB wf;rw[eY]at e1;cases e1;rw[C5]at b c;cases ps with
  |nil=>simp at e
  |cons d rest=>
   cases rest with
    |cons _ _=>simp at c
    |nil=>
     rw[az,cf]at b;have hn:ao d=true:=by simpa[cO]using b.1
     cases i with|succ i=>simp at e|zero=>simp at e;subst e;cases d<;>first|rfl|simp[ao]at hn
theorem Pt{x:Str}{ps:List D}{k:Bool}{ns:List Int}{d:Int}(wf:bh ao k (.tup (.str x::ps))=true)(e:x≠"var")(hd:d<=99)(hl:ns.length=(av x ps).length)(c:∀(i:Nat)(z:Int),ns[i]?=some z->decide (99<z)=dv (((av x ps)[i]?).getD .aP)):decide (99<maxD ns d)=dv (.tup (.str x::ps)):=by
 rw[any_max 99 ns d hd,<-PN hl c];show _=(false||eM ps);rw[Bool.false_or];unfold av;split
 ·rename_i f;symm;show eM ps=false;have j:∀a:List D,(∀p∈a,dv p=false)->eM a=false:=λa=>by induction a with|nil=>intro _;rfl|cons q a g=>intro h;rw[eM,h q eC,g λp b=>h p (dX _ b)];rfl
  refine j ps λp b=>?_;obtain⟨i,hi,rfl⟩:=List.mem_iff_getElem.mp b;exact Bx wf f e i _ (e8 hi)
 ·rfl
def F0(n:Nat):Sp:=λvs H Q _=>∃(d:D)(v:V),vs=[v]/\Rep H d v/\Rz d n/\∀(i:Int)(H':Hp),decide (99<i)=dv d->aL H H'->Q (.int i) H'
theorem pZ:aN ["thing"] ["thing"] (ak cN):=⟨rfl,rfl,rfl,by decide+kernel,rfl,by decide+kernel,by decide+kernel⟩
theorem pV{n:Nat}(D:Df K mg "top_variable" cN ["thing"])(M:Mg mg t)(I:bj P w K mg bA "kids_of" (1) ["thing"] d6)(J:bj P w K mg bA "top_variable" (n+3) ["thing"] (F0 n)):bj P w K mg bA "top_variable" (n+4) ["thing"] (F0 (n+1)):=by
 refine D.ok pZ (λvs H Q E h=>?_) (λbase f cF A outer s H vs Q E B h=>?_);·obtain⟨d,v,rfl,_⟩:=h;rfl
 obtain⟨d,v,rfl,r,rz,q⟩:=h;obtain⟨x,ps,k,rfl,wf,X⟩:=d7 rz.wf;have U:=oH wf;obtain⟨a,G,rfl,ha,v0,G,rfl,⟨rfl,p⟩,rp⟩:=id r;have O:kZ (V.str x::G) 0=some (.str x):=aO (j:=0) rfl;refine⟨_,(ag (bu (aD bP (aS aR (pv 0) ah (λ_ _=>rfl)) aE (aG _)) (ai (aw (aS aR (pv 0) ah (λ_ _=>rfl)))) aM) (ai (aw (O6 M.LB (aa (gI (N':=["kid"]) (own:=1) (fr:=[]) rfl (iI (N:=["thing"]) (sc:=ak cN) rfl rfl rfl (by decide+kernel)) (j5 (ay I B.m rfl aC (aa (pv 0) af))) (ij (by decide)) (λ_ _ _=>(bI (i:=0) (show List.Nodup (["kid"]:List Str)by decide+kernel) rfl (Or.inl rfl))) (λ_ _ _=>gG) (λ_ _ _=>(ay J B.m rfl aC (aa (pv 0) af)))) af) (O5 ah Uz))))),?_⟩;try dsimp only[gL,cG]
 refine nH ?_;intro _ _;refine⟨_,rfl,a,_,_,_,rfl,rfl,bS.of ha,O,rfl,_,rfl,?_⟩;refine aV (λc=>?_) (λc=>?_)
 ·have c:V.str x=V.str "var":=of_decide_eq_true c;cases c;obtain⟨sh,e1,_,l,_,m,_⟩:=bB wf;rw[eg]at e1;cases e1;rw[tY]at l m;obtain⟨b,rfl⟩:∃b,ps=[b]:=by cases ps with|nil=>simp at m|cons b rest=>cases rest with|nil=>exact⟨b,rfl⟩|cons _ _=>simp at m
  rw[az,cf]at l;have hn:iq b=true:=by simpa[cO]using l.1
  obtain⟨i,rfl⟩:∃i,b= .int i:=by cases b<;>first|exact⟨_,rfl⟩|simp[iq]at hn
  obtain⟨u1,us1,rfl,e,_⟩:=rp;cases(show u1=V.int i from e);have hi:decide (99<i)=dv (.tup [.str "var", .int i]):=by simp[dv,eM]
  exact⟨_,rfl,a,_,_, .int i,rfl,rfl,bS.of ha,aO (j:=1) rfl,q i H hi (aL.refl H)⟩
 refine⟨_,rfl,x,ps,_,rfl,r,X,λp1 us H1 _ s1 h1 e=>⟨p1,rfl,⟨us,bN.of h1⟩,λp2 W=>?_⟩⟩;have l1:=e.length;refine JF (av x ps).length (λi z=>decide (99<z)=dv (((av x ps)[i]?).getD .aP)) W (cS U (by decide)) (λi u hi s2=>?_) λns u s2 hl S h2=>⟨⟨us,bN.of (s2 _ _ h1),by omega⟩,?_⟩;·obtain⟨g,o⟩:∃g,(av x ps)[i]?=some g:=⟨_,e8 hi⟩;obtain⟨F,C,Jj⟩:=e.get o;refine⟨⟨us,F,bN.of (s2 _ _ h1),C⟩,?_⟩;rintro y H3⟨rfl,Y⟩R T;have p:=Y us (bN.of (s2 _ _ h1));rw[C]at p;cases p;exact⟨_,rfl,g,F,rfl,Jj.mono s2,rz.kid o,λz L Z s4=>T z L s4 (by rw[o];exact Z)⟩
 ·refine⟨p2,ns,_,rfl,rfl,bN.of h2,?_⟩;exact q _ u (Pt wf (λz=>c (by rw[z];exact decide_eq_true rfl)) (by decide) hl S) (s1.trans s2)
theorem jB(D:Df K mg "top_variable" cN ["thing"])(M:Mg mg t)(a:bj P w K mg bA "kids_of" (1) ["thing"] d6):∀n:Nat,bj P w K mg bA "top_variable" (n+3) ["thing"] (F0 n)|0=>bj.never D λvs H Q E⟨d,v,_,_,h,_⟩=>absurd h.dp (jf _)|n+1=>pV D M a (jB D M a n)
def nC(C:Addr)(n:Nat):Sp:=λvs H Q E=>∃(d:D)(v:V),vs=[v]/\Rep H d v/\Rz d n/\(∀H',aL H H'->(c7 d||dv d)=false->Q v H')/\(∀H',aL H H'->(c7 d||dv d)=true->E (.ref C) none H')
theorem Eu:aN ["thing"] ["thing"] (ak jQ):=⟨rfl,rfl,rfl,by decide+kernel,rfl,by decide+kernel,by decide+kernel⟩
theorem JC{n:Nat}(D:Df K mg "bounded" jQ ["thing"])(M:Mg mg t)(j:pP K t.dM)(l:bj P w K mg bA "is_vast" (1) ["value"] Fp)(o:bj P w K mg bA "top_variable" (n+3) ["thing"] (F0 n)):bj P w K mg (fG P w) "bounded" (n+4) ["thing"] (nC t.dM n):=by
 refine D.OP Eu (λvs H Q E h=>?_) (λbase f cF A outer s H vs Q E b h=>?_);·obtain⟨d,v,rfl,_⟩:=h;rfl
 obtain⟨d,v,rfl,r,rz,q,g⟩:=h;obtain⟨x,ps,k,rfl,wf,y⟩:=d7 rz.wf;refine⟨_,(ag (bu (L2.PW.pt (lO (jA (ay l b.m rfl aC (aa (pv 0) af))) (jj (aD uH (ay o b.m rfl aC (aa (pv 0) af)) (mR M.g_MOST_VARIABLE rfl) (aG _))))) (ai (lx (G:=(λH'=>E (.ref t.dM) none H')) j M.g_Great (aa aE af) (λpins σ H s e h' I m q=>rT I m q))) aM) (ai (aw (pv 0)))),?_⟩;try dsimp only[gL,u]
 refine nH ?_;intro _ _;refine⟨_,rfl,_,v,rfl,r,Hs wf,rz.kn,λp s1=>⟨_,rfl,?_⟩⟩;refine aV (λc=>pR ⟨by decide,g p s1 (by rw[c];rfl)⟩) (λc=>?_);refine⟨_,rfl,_,v,rfl,r.mono s1,rz,λi a hi s2=>⟨_,_,rfl,rfl,_,rfl,?_⟩⟩;have c:c7 (.tup (.str x::ps))=false:=Bool.eq_false_iff.mpr c;refine aV (λc2=>⟨by decide,g a (s1.trans s2) (by rw[<-hi,c];exact c2)⟩) (λc2=>⟨_,rfl,q a (s1.trans s2) (by rw[<-hi,c];exact Bool.eq_false_iff.mpr c2)⟩)
noncomputable def bK(x:Str)(ps a:List D):D:=if a=[]then .tup (.str x::ps)else .tup (.str x::a)
def h_:Sp:=λvs H Q _=>∃(x:Str)(ps b:List D)(v:V)(a:Addr)(us:List V),vs=[v, .ref a]/\Rep H (.tup (.str x::ps)) v/\H a=some (.lst us)/\bE H b us/\b.length<=10/\∀(u:V)(H':Hp),aL H H'->Rep H' (bK x ps b) u->Q u H'
theorem D_:aN ["thing","kids"] ["thing","kids"] (ak jR):=⟨rfl,rfl,rfl,by decide+kernel,rfl,by decide+kernel,by decide+kernel⟩
theorem JP(D:Df K mg "rebuilt" jR ["thing","kids"])(M:Mg mg t):bj P w K mg bA "rebuilt" (1) ["thing","kids"] h_:=by
 refine D.ok D_ (λvs H Q E h=>?_) (λbase f cF A outer s H vs Q E C h=>?_);·obtain⟨x,ps,d,v,a,us,rfl,_⟩:=h;rfl
 obtain⟨x,ps,d,v,a,us,rfl,r,ha,e,hl,q⟩:=h;have n:=e.length;obtain⟨b,y,rfl,hb,G,y,rfl,⟨rfl,m⟩,F⟩:=id r;refine⟨_,(ag (bu (aD bP (bw bx rfl M.fB dP (aa (pv 1) af)) ah (aG _)) (ai (aw (pv 0))) aM) (ai (aw (aQ yd (aZ (aa (aS aR (pv 0) ah (λ_ _=>rfl)) af)) (oh vb rfl M.qc lS (aa (pv 1) af)))))),?_⟩;try dsimp only[gL,B]
 refine nH ?_;intro _ _;refine⟨_,rfl,a,_,rfl, .inl (bN.of ha),rfl,_,rfl,?_⟩;refine aV (λc=>?_) (λc=>?_)
 ·have c:V.int ((us.length:Nat):Int)=V.int 0:=of_decide_eq_true c;have hq:d=[]:=by injection c with c;exact List.length_eq_zero_iff.mp (by omega)
  refine⟨_,rfl,q _ H (aL.refl H) ?_⟩;unfold bK;rw[if_pos hq];exact r
 ·have hq:d≠[]:=λz=>c (by subst z;have :us.length=0:=n;rw[this];exact decide_eq_true rfl);refine⟨_,rfl,b,_,_,_,rfl,rfl,bS.of hb,aO (j:=0) rfl,(dw rfl),λo k=>?_⟩;have s1:=ar k (.tup [V.str x]);refine⟨_,rfl,a,us,rfl, .inl ⟨bN.of (s1 _ _ ha),λp l=>?_⟩⟩;have s2:=ar l (.tup us);refine⟨o,p,_,_,rfl,rfl,s2 _ _ aq,aq,?_,λu i g h3=>?_⟩;·rw[List.length_singleton,sizeLine_eq];omega
  ·refine q _ i (s1.trans (s2.trans g)) ?_;unfold bK;rw[if_neg hq];exact⟨u,_,rfl,h3,_,_,rfl,⟨rfl,m⟩,e.mono (s1.trans (s2.trans g))⟩
noncomputable def sJ(d:D):Bool:=K6 d&&!MW d
def mT:Sp:=λvs H Q _=>∃d v,vs=[v]/\Rep H d v/\Q (.bl (sJ d)) H
theorem zI:aN ["value"] ["value"] (ak gP):=⟨rfl,rfl,rfl,by decide+kernel,rfl,by decide+kernel,by decide+kernel⟩
theorem Bc(D:Df K mg "is_number" gP ["value"])(M:Mg mg t):bj P w K mg bA "is_number" (1) ["value"] mT:=by
 refine D.ok zI (λvs H Q E h=>?_) (λbase f cF A outer s H vs Q E b h=>?_);·obtain⟨d,v,rfl,_⟩:=h;rfl
 obtain⟨d,v,rfl,r,q⟩:=h;refine⟨_,(ai (aw (kQ (bw d9 rfl M.dG cW (aa (pv 0) (aa (vW M.XX U0 rfl) af))) (jl (M3 (bw d9 rfl M.dG cW (aa (pv 0) (aa (vW M.Wi PR rfl) af)))))))),?_⟩;try dsimp only[gL,a]
 refine⟨_,rfl,_,_,_,_,rfl,r.ty,O0 _ d,_,rfl,?_⟩;refine aV (λc=>?_) (λc=>?_)
 ·refine⟨_,rfl,_,_,_,_,rfl,r.ty,Vb _ d,_,rfl,?_⟩;have e:sJ d=!MW d:=by unfold sJ;rw[c];rfl
  rw[e]at q;exact q
 ·have e:sJ d=false:=by unfold sJ;rw[Bool.eq_false_iff.mpr c];rfl
  rw[e]at q;exact q
noncomputable def uy:D->List D| .tup (.str x::ps)=>av x ps|_=>[]
noncomputable def dz(d:D)(i:Int):Option D:=if 0<=i then(uy d)[i.toNat]? else none
noncomputable def goto:D->List Int->Option D|d,[]=>some d|d,i::is=>match dz d i with|none=>none|some p=>goto p is
noncomputable def headD:D->Str| .tup (.str x::_)=>x|_=>""
noncomputable def bnd(d:D)(i:Int):Int:=if decide (V.int i=CL (headD d))=true then 1 else 0
noncomputable def over:D->List Int->Int|_,[]=>0|d,i::is=>match dz d i with|none=>0|some p=>bnd d i+over p is
theorem mi{d p:D}{i:Int}(h:Wf d)(e:dz d i=some p):Wf p:=by
 obtain⟨k,h⟩:=h;obtain⟨x,ps,rfl⟩:=cU h;unfold dz at e;split at e;·exact(eQ h e).1
 ·cases e
theorem eR{d p:D}{i:Int}{is:List Int}(e:dz d i=some p):goto d (i::is)=goto p is:=by rw[goto,e]
theorem il{d:D}{i:Int}{is:List Int}(e:dz d i=none):goto d (i::is)=none:=by rw[goto,e]
theorem Ld{d:D}{i:Int}(h1:0<=i)(h2:i<(uy d).length):∃p,dz d i=some p/\(uy d)[i.toNat]?=some p:=by unfold dz;rw[if_pos h1];exact⟨_,e8 (by omega),e8 (by omega)⟩
theorem wK{d:D}{i:Int}(h:¬(0<=i/\i<(uy d).length)):dz d i=none:=by
 unfold dz;split;·rename_i h1;exact List.getElem?_eq_none_iff.mpr (by omega)
 ·rfl
def rP(C:Addr):Sp:=λvs H Q E=>∃(d:D)(v:V)(i:Int),vs=[v, .int i]/\Rep H d v/\Wf d/\(∀(p:D)(u:V)(H':Hp),aL H H'->dz d i=some p->Rep H' p u->Q u H')/\(∀H',aL H H'->dz d i=none->E (.ref C) none H')
theorem vU:aN ["thing","number","kids"] ["thing","number"] (ak lG):=⟨rfl,rfl,rfl,by decide+kernel,rfl,by decide+kernel,by decide+kernel⟩
theorem MB(D:Df K mg "kid_at" lG ["thing","number"])(M:Mg mg t)(o:pP K t.cD)(B:bj P w K mg bA "kids_of" (1) ["thing"] d6)(y:bj P w K mg bA "is_number" (1) ["value"] mT):bj P w K mg (fG P w) "kid_at" (2) ["thing","number"] (rP t.cD):=by
 refine D.OP vU (λvs H Q E h=>?_) (λbase f cF A outer s H vs Q E g h=>?_);·obtain⟨d,v,i,rfl,_⟩:=h;rfl
 obtain⟨d,v,i,rfl,r,wf,q,N⟩:=h;obtain⟨x,ps,k,rfl,T,J⟩:=d7 wf;refine⟨_,(ag (aH (i:=2) vU.nd rfl (cI rfl) (ay B g.m rfl aC (aa (pv 0) af))) (ag (bu (L2.PW.pt (lO (nE (jA (ay y g.m rfl aC (aa (pv 1) af)))) (jj (nE (DF vK oD ah (pv 1) (bw bx rfl M.fB dP (aa (pv 2) af))))))) (ai (lx (G:=(λH'=>E (.ref t.cD) none H')) o M.g_NoPlace (aa aE af) (λpins σ H s e h' I m q=>rT I m q))) aM) (ai (aw (aS cT (pv 2) (pv 1) (λ_ _=>rfl)))))),?_⟩;try dsimp only[gL,R]
 refine El ?_;intro _ _ _;refine⟨_,rfl,x,ps,v,rfl,r,J,λl us a S s1 h1 n=>?_⟩;have j:=n.length;have F:uy (.tup (.str x::ps))=av x ps:=rfl;refine⟨_,rfl, .int i,_,rfl,rfl,?_⟩;have b:dz (.tup (.str x::ps)) i=none->E (.ref t.cD) none a:=λz=>N a s1 z;refine⟨true,rfl,Dm ⟨_,rfl,_,_,rfl,rfl,_,rfl,?_⟩⟩;refine aV (λc=>?_) (λc=>?_)
 ·have c:(0:Int)<=i:=of_decide_eq_true c;refine⟨_,rfl,l,_,rfl, .inl (bN.of h1),_,_,rfl,rfl,_,rfl,?_⟩;by_cases c2:i<((us.length:Nat):Int)
  ·rw[decide_eq_true c2];refine Dm ?_;obtain⟨p,e1,e2⟩:=Ld (d:= .tup (.str x::ps)) c (by rw[F,<-j];exact c2);obtain⟨u,L,O⟩:=n.get e2;have C:i=((i.toNat:Nat):Int):=by omega
   exact⟨_,rfl,_,rfl,l,_,_,u,rfl,rfl,bN.of h1,(by rw[C];exact aO L),q p u a s1 e1 O⟩
  ·rw[decide_eq_false c2];exact pR ⟨by decide,b (wK λz=>c2 (by rw[j];exact z.2))⟩
 ·have c:¬(0:Int)<=i:=of_decide_eq_false (Bool.eq_false_iff.mpr c);exact⟨_,rfl,pR ⟨by decide,b (wK λz=>c z.1)⟩⟩
noncomputable def RN(pl:List Int):D:= .tup (pl.map D.int)
theorem T9{H:Hp}{pl:List Int}{vs:List V}(r:bE H (pl.map D.int) vs){j:Nat}{i:Int}(e:pl[j]?=some i):vs[j]?=some (.int i):=by obtain⟨v,h1,h2⟩:=r.get (i:=j) (d:= .int i) (by rw[nY,e];rfl);rw[h1,show v=V.int i from h2]
theorem drop_cons{a:Type}{l:List a}{j:Nat}{i:a}(e:l[j]?=some i):l.drop j=i::l.drop (j+1):=by obtain⟨h,rfl⟩:=List.getElem?_eq_some_iff.mp e;exact List.drop_eq_getElem_cons h
def Zp(C:Addr):Sp:=λvs H Q E=>∃(d:D)(v:V)(pl:List Int)(pv:V),vs=[v,pv]/\Rep H d v/\Wf d/\Rep H (RN pl) pv/\(∀(e:D)(u:V)(H':Hp),aL H H'->goto d pl=some e->Rep H' e u->Q u H')/\(∀H',aL H H'->goto d pl=none->E (.ref C) none H')
theorem gM:aN ["thing","place","here","number"] ["thing","place"] (ak iz):=⟨rfl,rfl,rfl,by decide+kernel,rfl,by decide+kernel,by decide+kernel⟩
theorem ER(D:Df K mg "at_place" iz ["thing","place"])(M:Mg mg t)(z:bj P w K mg (fG P w) "kid_at" (2) ["thing","number"] (rP t.cD)):bj P w K mg (fG P w) "at_place" (3) ["thing","place"] (Zp t.cD):=by
 refine D.OP gM (λvs H Q E h=>?_) (λbase f cF A outer s H vs Q E C h=>?_);·obtain⟨d,v,pl,pv,rfl,_⟩:=h;rfl
 obtain⟨d,v,pl,pv,rfl,r,wf,I,q,F⟩:=h;obtain⟨a,ws,rfl,ha,y⟩:=I;have x:=y.length;rw[c_]at x;refine⟨_,(ag (aH (i:=2) gM.nd rfl (cI rfl) (pv 0)) (ag (gS S7 rfl (Fx (pv 1)) (bI (i:=3) gM.nd rfl (cI rfl)) (ai (aH (i:=2) gM.nd rfl (cI rfl) (ay z C.m rfl dg (aa (pv 2) (aa (pv 3) af)))))) (ai (aw (pv 2))))),?_⟩;try dsimp only[gL,N]
 refine El ?_;intro _ _ _;refine⟨_,rfl,_,rfl,a,rfl,⟨_,bS.of ha⟩,?_⟩;let B:Nat->L2.St->Hp->Prop:=(λj n H'=>∃(e:KM.D)(u:V)(k:Option V),n=[some v,some (.ref a),some u,k]/\Rep H' e u/\Wf e/\goto d pl=goto e (pl.drop j)/\aL H H');refine jz ws.length B ?_ ?_ ?_;·exact⟨d,v,none,rfl,r,wf,rfl,aL.refl _⟩
 ·rintro j n o O⟨e,u,k,rfl,l,m,b,s1⟩;obtain⟨i,hi⟩:∃i,pl[j]?=some i:=⟨_,e8 (by omega)⟩;have hw:=T9 y hi;refine⟨⟨ws,_,bS.of (s1 _ _ ha),hw⟩,?_⟩;rintro R L⟨rfl,g⟩;have g:=g ws (bS.of (s1 _ _ ha));rw[hw]at g;cases g;rw[drop_cons hi]at b;refine⟨_,rfl,_,rfl,e,u,i,rfl,l,m,λp J H' s' c G=>?_,λH' s' c=>?_⟩;·exact⟨p,J,_,rfl,G,mi m c,by rw[b,eR c],s1.trans s'⟩
  ·exact F H' (s1.trans s') (by rw[b,il c])
 ·rintro n o⟨e,u,k,rfl,l,m,b,s1⟩;rw[x,List.drop_length]at b;exact⟨⟨ws,bS.of (s1 _ _ ha),bJ _⟩,_,rfl,q e u o s1 b l⟩
end K25
end
section
namespace K25
open PySem L2 L3 KM PyProof.Rows
noncomputable def putD:D->List Int->D->D|_,[],e=>e| .tup (.str x::ps),i::is,e=> .tup (.str x::ps.set i.toNat (putD ((ps[i.toNat]?).getD .aP) is e))|d,_::_,_=>d
theorem ir{x:Str}{ps:List D}{i:Int}{p:D}(h:dz (.tup (.str x::ps)) i=some p):0<=i/\bC x=false/\ps[i.toNat]?=some p:=by
 unfold dz at h;split at h
 ·rename_i a;have h:(av x ps)[i.toNat]?=some p:=h;unfold av at h;split at h;·simp at h
  ·rename_i b;exact⟨a,by simpa using b,h⟩
 ·cases h
theorem tq{x:Str}{ps:List D}{i:Int}{is:List Int}{p e:D}(h:dz (.tup (.str x::ps)) i=some p):putD (.tup (.str x::ps)) (i::is) e= .tup (.str x::ps.set i.toNat (putD p is e)):=by rw[putD,(ir h).2.2];rfl
theorem HW{b:D->Bool}:∀{cs:List Nat}{ps:List D}{i c:Nat}{q:D},dQ b cs ps=true->cs[i]?=some c->cO b c q=true->dQ b cs (ps.set i q)=true|[],[],_,_,_,_,e,_=>by simp at e|[],_::_,_,_,_,h,_,_=>by simp[dQ]at h|_::_,[],_,_,_,h,_,_=>by simp[dQ]at h|a::cs,p::ps,0,c,q,h,e,hq=>by simp at e;subst e;rw[az,cf]at h;rw[List.set_cons_zero,az,hq,h.2];rfl|a::cs,p::ps,i+1,c,q,h,e,hq=>by rw[az,cf]at h;rw[List.set_cons_succ,az,h.1,HW h.2 (by simpa using e) hq];rfl
theorem Hw{b:D->Bool}:∀{cs:List Nat}{ps:List D}{i:Nat}{p:D},dQ b cs ps=true->ps[i]?=some p->∃c,cs[i]?=some c/\cO b c p=true|[],[],_,_,_,e=>by simp at e|[],_::_,_,_,h,_=>by simp[dQ]at h|_::_,[],_,_,h,_=>by simp[dQ]at h|a::cs,p::ps,0,q,h,e=>by simp at e;subst e;rw[az,cf]at h;exact⟨a,rfl,h.1⟩|a::cs,p::ps,i+1,q,h,e=>by rw[az,cf]at h;obtain⟨c,h1,h2⟩:=Hw (i:=i) h.2 (by simpa using e);exact⟨c,by simpa using h1,h2⟩
theorem UU{b:D->Bool}{k a:Bool}{d:D}(h:bh b k d=true)(h':bh b a d=true):k=a:=by obtain⟨x,ps,rfl⟩:=cU h;obtain⟨_,_,e1,_⟩:=bB h;obtain⟨_,_,e2,_⟩:=bB h';rw[<-e1,<-e2]
theorem yo{e g:D}{l:Bool}(f:bh ao l g=true)(b:bh ao l e=true):∀(pl:List Int)(d:D)(k:Bool),bh ao k d=true->goto d pl=some g->bh ao k (putD d pl e)=true
 |[],d,k,h,z=>by cases z;rw[putD,UU h f];exact b
 |i::is,d,k,h,z=>by
  obtain⟨x,ps,rfl⟩:=cU h;cases a:dz (.tup (.str x::ps)) i with
   |none=>rw[il a]at z;cases z
   |some p=>
    rw[eR a]at z;rw[tq a];obtain⟨i0,q,o⟩:=ir a;obtain⟨s,h1,h2,h3,h4,h5,h6,m,_⟩:=bB h;obtain⟨c,hc,hd⟩:=Hw h3 o;refine cH h1 h2 (HW h3 hc ?_);have n:=m q c (nP hc);unfold cO at hd⊢;rcases n with j|j;·rw[if_pos j]at hd⊢;exact yo f b is p true hd z
    ·rw[if_neg (by omega),if_pos j]at hd⊢;exact yo f b is p false hd z
theorem wX{q:D}{m:Nat}(hq:depth q<=m):∀{ps:List D}{i:Nat},aB ps<=m->aB (ps.set i q)<=m|[],_,h=>by simpa using h|a::ps,0,h=>by rw[List.set_cons_zero];simp only[aB]at h⊢;omega|a::ps,i+1,h=>by rw[List.set_cons_succ];simp only[aB]at h⊢;have :=wX (q:=q) (m:=m) hq (ps:=ps) (i:=i) (by omega);omega
noncomputable def uS(pl:List Nat):List Int:=pl.map λn:Nat=>(n:Int)
end K25
end
section
namespace L3
open PySem PySem.Spec PyProof.Rows L2 KM
mutual noncomputable def Xe:D->PyData| .aP=> .none| .bl b=> .bool b| .int i=> .int i| .str x=> .str x| .tup ds=> .tuple (Vu ds)noncomputable def Vu:List D->List PyData|[]=>[]|d::ds=>Xe d::Vu ds end
mutual theorem Bu:∀d:D,(Xe d).depth<=depth d| .aP=>d4 _| .bl _=>d4 _| .int _=>d4 _| .str _=>d4 _| .tup ds=>by show PyData.depthAll (Vu ds)+1<=1+aB ds;have :=vL ds;lia theorem vL:∀ds:List D,PyData.depthAll (Vu ds)<=aB ds|[]=>d4 _|d::ds=>by show max (Xe d).depth (PyData.depthAll (Vu ds))<=max (depth d) (aB ds);have h1:=Bu d;have h2:=vL ds;lia end
section
variable{X:Cx}{pins:List (Addr×Obj)}{σ:L2.St}{H:Hp}{s:Shared}
end
mutual noncomputable def uZ:D->Bool| .aP=>true| .bl _=>false| .int _=>true| .str x=>(PyData.str x).canLay0| .tup ds=>Qx ds noncomputable def Qx:List D->Bool|[]=>true|d::ds=>uZ d&&Qx ds end
mutual theorem F2:∀d:D,uZ d=true->(Xe d).canLay0=true| .aP,_=>rfl| .bl _,h=>by cases h| .int _,_=>rfl| .str x,h=>h| .tup ds,h=>DB ds h theorem DB:∀ds:List D,Qx ds=true->PyData.canLayAll0 (Vu ds)=true|[],_=>rfl|d::ds,h=>by have h:(uZ d&&Qx ds)=true:=h;rw[cf]at h;show((Xe d).canLay0&&PyData.canLayAll0 (Vu ds))=true;rw[F2 d h.1,DB ds h.2];rfl end
theorem shp{d:D}(h:uZ d=true)(hd:depth d<=60):SeqAt.shaped (Xe d)=true:=by unfold SeqAt.shaped;rw[F2 d h,Bool.true_and];exact decide_eq_true (cS (Bu d) (by lia))
section
variable{P:Program}{w:World}
open SeqAt MeetsSeq3 in open SeqAt MeetsSeq3 in end
section
variable{X:Cx}
end
end L3
end
section
namespace K25
open PySem L2 L3 KM PyProof.Rows
seal L2.PE L2.PS L2.gT L2.PT L2.PW L2.PA L2.PG L2.uX L2.PI L2.PC L2.PO L2.DC L2.PK L3.vF
variable{P:Program}{w:World}{K:PySem.W.Frag}{mg:Str->Option Value}{base:Heap}{t:ve}
noncomputable def jg:D->Str| .tup (.str x::_)=>x|_=>""
noncomputable def GG(inb:Str->Bool):D->V| .str y=>if inb y=true then .str "name"else .aP|_=> .aP
noncomputable def bZ(inb:Str->Bool)(x:Str)(ps:List D):V:=if x="name"then GG inb ((ps[0]?).getD .aP)else if x="app"then(if jg ((ps[0]?).getD .aP)="fun"then .str "fun"else .aP)else if x="carry"then(if jg ((ps[2]?).getD .aP)="like"then .str "like"else .aP)else if x="first"then(if jg ((ps[0]?).getD .aP)="pair"then .str "first"else .aP)else if x="second"then(if jg ((ps[0]?).getD .aP)="pair"then .str "second"else .aP)else if x="rec"then(if jg ((ps[3]?).getD .aP)="zero"then .str "zero"else if jg ((ps[3]?).getD .aP)="next"then .str "next"else .aP)else .aP
noncomputable def bG(inb:Str->Bool):D->V| .tup (.str x::ps)=>bZ inb x ps|_=> .aP
theorem Ft{b:D->Bool}:∀{cs:List Nat}{ps:List D}{i c:Nat},dQ b cs ps=true->cs[i]?=some c->∃p,ps[i]?=some p/\cO b c p=true|[],[],_,_,_,e=>by simp at e|[],_::_,_,_,h,_=>by simp[dQ]at h|_::_,[],_,_,h,_=>by simp[dQ]at h|a::cs,p::ps,0,c,h,e=>by simp at e;subst e;rw[az,cf]at h;exact⟨p,rfl,h.1⟩|a::cs,p::ps,i+1,c,h,e=>by rw[az,cf]at h;obtain⟨c,h1,h2⟩:=Ft (i:=i) h.2 (by simpa using e);exact⟨c,by simpa using h1,h2⟩
theorem part_of{k:Bool}{x s:Str}{ps:List D}(h:bh ao k (.tup (.str x::ps))=true)(b:cY x= .str s){i:Nat}(hi:s.cps.toList[i]?=some 116):∃p,ps[i]?=some p/\bh ao false p=true:=by obtain⟨s',e1,_,a,_⟩:=bB h;rw[b]at e1;cases e1;obtain⟨p,h1,h2⟩:=Ft a hi;exact⟨p,h1,by simpa[cO]using h2⟩
theorem We{H:Hp}{k:Bool}{p:D}{u:V}(h:bh ao k p=true)(r:Rep H p u):∃(c:Addr)(us:List V),u= .ref c/\H c=some (.tup (.str (jg p)::us)):=by obtain⟨x,ps,rfl⟩:=cU h;obtain⟨c,vs,rfl,hc,a,us,rfl,⟨rfl,_⟩,_⟩:=r;exact⟨c,us,rfl,hc⟩
theorem MT{H:Hp}{k:Bool}{x s:Str}{ps:List D}{us:List V}(h:bh ao k (.tup (.str x::ps))=true)(r:bE H ps us)(a:cY x= .str s){i:Nat}(hi:s.cps.toList[i]?=some 116):∃(c:Addr)(ws:List V),kZ (V.str x::us) ((i+1:Nat):Int)=some (.ref c)/\H c=some (.tup (.str (jg ((ps[i]?).getD .aP))::ws)):=by obtain⟨p,h1,h2⟩:=part_of h a hi;obtain⟨u,b,d⟩:=r.get h1;obtain⟨c,ws,rfl,hc⟩:=We h2 d;refine⟨c,ws,aO (by simpa using b),?_⟩;rw[h1];exact hc
noncomputable def eU(aF:List (Key×V))(x:Str):Bool:=(fD aF (Sum.inr x:Key)).isSome
def nA:Sp:=λvs H Q _=>∃(d:D)(v:V)(b:Addr)(aF:List (Key×V)),vs=[v, .ref b]/\Rep H d v/\Wf d/\H b=some (.dK aF)/\∀H',aL H H'->Q (bG (eU aF) d) H'
theorem fW{k:Bool}{ps:List D}(h:bh ao k (.tup (.str "name"::ps))=true):∃y,ps=[.str y]:=by
 obtain⟨s',e1,_,a,_⟩:=bB h;rw[eY]at e1;cases e1;rw[C5]at a;match ps,a with
  |[],a=>simp[dQ]at a
  |[p],a=>
   rw[az,cf]at a;have :ao p=true:=by simpa[cO]using a.1
   cases p with|str y=>exact⟨y,rfl⟩|_=>simp[ao]at this
  |p::q::r,a=>rw[az,cf]at a;have :=a.2;simp[dQ]at this
def Rul(K:PySem.W.Frag)(r:Addr):Prop:=∃a1 a2 a3 a4 a5 b1 a b c d e:Addr,gV K r [("app", .ref a1),("rec", .ref a2),("carry", .ref a3),("first", .ref a4),("second", .ref a5)]/\qC K a1 [.ref b1]/\qC K b1 [.int 1, .str "fun", .str "fun"]/\qC K a2 [.ref a, .ref b]/\qC K a [.int 4, .str "zero", .str "zero"]/\qC K b [.int 4, .str "next", .str "next"]/\qC K a3 [.ref c]/\qC K c [.int 3, .str "like", .str "like"]/\qC K a4 [.ref d]/\qC K d [.int 1, .str "pair", .str "first"]/\qC K a5 [.ref e]/\qC K e [.int 1, .str "pair", .str "second"]
theorem aaQ(a b c d e:V)(x:Str):KTD.datumAt x [(("app":Str),a),("rec",b),("carry",c),("first",d),("second",e)]=if x="app"then some a else if x="rec"then some b else if x="carry"then some c else if x="first"then some d else if x="second"then some e else none:=by simp only[KTD.datumAt,decide_eq_true_eq]
noncomputable abbrev Rw:=Nat×Str×Str
noncomputable def vw(ps:List D)(r:Rw):Bool:=decide (jg ((ps[r.1]?).getD .aP)=r.2.1)
noncomputable def eW(ps:List D):List Rw->V|[]=> .aP|r::rs=>if vw ps r=true then .str r.2.2 else eW ps rs
theorem jN{ps:List D}:∀{rows:List Rw}{i:Nat},(∀r∈rows.take i,vw ps r=false)->eW ps rows=eW ps (rows.drop i)|rows,0,_=>rfl|[],i+1,_=>rfl|r::rs,i+1,h=>by have a:=h r (by simp);rw[eW,if_neg (by rw[a];decide),List.drop_succ_cons];exact jN λr b=>h r (by rw[List.take_succ_cons];exact dX _ b)
theorem iL:aN ["thing","book","part","word","rule"] ["thing","book"] (ak jZ):=⟨rfl,rfl,rfl,by decide+kernel,rfl,by decide+kernel,by decide+kernel⟩
theorem Jp(D:Df K mg "rule_of" jZ ["thing","book"])(M:Mg mg t)(T:Rul K t.H_):bj P w K mg bA "rule_of" (1) ["thing","book"] nA:=by
 refine D.ok iL (λvs H Q E h=>?_) (λbase f cF A outer s H vs Q E g h=>?_);·obtain⟨d,v,b,aF,rfl,_⟩:=h;rfl
 obtain⟨d,v,b,aF,rfl,r,wf,hb,q⟩:=h;have hu:=DH g;obtain⟨x,ps,k,rfl,wfk,qB⟩:=d7 wf;obtain⟨a,JE,rfl,ha,v0,us,rfl,⟨rfl,hx⟩,rp⟩:=id r;have ea:kZ (V.str x::us) 0=some (.str x):=aO (j:=0) rfl;obtain⟨a1,a2,a3,a4,a5,b1,X,Y,b4,b5,b6,TT,s1,s2,s3,s4,s5,s6,s7,s8,s9,uV,s11⟩:=T;refine⟨_,(ag (bu (aD bP (aS aR (pv 0) ah (λ_ _=>rfl)) aE (aG _)) (ai (aw (ig (T7 (U4 hu (aS aR (pv 0) ah (λ_ _=>rfl)) (pv 1))) aE jq))) aM) (ag (gS PassesOwn.never rfl (Fx (LP (gQ M.g_RULES rfl) (aS aR (pv 0) ah (λ_ _=>rfl)) (aZ af) ⟨rfl,rfl,rfl,rfl⟩)) (nV (n:=3) rfl (cP (bI (i:=2) iL.nd rfl (cI rfl)) (cP (bI (i:=3) iL.nd rfl (cI rfl)) (cP (bI (i:=4) iL.nd rfl (cI rfl)) jV)))) (ai (bu (aD bP (aS aR (aS aR (pv 0) (pv 2) (λ_ _=>rfl)) ah (λ_ _=>rfl)) (pv 3) (aG _)) (ai (aw (pv 4))) aM))) (ai (aw jq)))),?_⟩;try dsimp only[gL,cG]
 refine El ?_;intro _ _ _;refine⟨_,rfl,a,_,_,_,rfl,rfl,bS.of ha,ea,rfl,_,rfl,?_⟩;refine aV (λc=>?_) (λc=>?_);·have c:V.str x=V.str "name":=of_decide_eq_true c;cases c;obtain⟨y,rfl⟩:=fW wfk;obtain⟨u,us',rfl,⟨rfl,_⟩,ru⟩:=rp;cases(show us'=[]from ru);have eq1:bG (eU aF) (.tup [.str "name", .str y])=if eU aF y=true then .str "name"else .aP:=rfl;rw[eq1]at q;have o:=q H (aL.refl H);refine⟨_,rfl,a,_,_, .str y,rfl,rfl,bS.of ha,aO (j:=1) rfl,_,rfl,b,_,rfl,B_.k (k:=Sum.inr y) hb,_,rfl,?_⟩;show if eU aF y=true then _ else _;cases SU:eU aF y with|true=>rw[SU]at o;exact o|false=>rw[SU]at o;exact o
 have nn:x≠"name":=λz=>c (by rw[z];decide+kernel);refine⟨t.H_,_,rfl,TT,_,rfl,a,_,_,_,rfl,rfl,bS.of ha,ea,(dw rfl),λB P_=>⟨x,rfl,?_⟩⟩;have C:=ar P_ (.tup []);have h0:(upd H B (.tup [])) B=some (.tup []):=aq;have rp0:=rp.mono C;have ha0:=C _ _ ha;generalize upd H B (.tup [])=J at C h0 rp0 ha0⊢;rw[aaQ];have key:∃(c:Addr)(rows:List Rw)(bs:List V),(if x="app"then some (V.ref a1)else if x="rec"then some (.ref a2)else if x="carry"then some (.ref a3)else if x="first"then some (.ref a4)else if x="second"then some (.ref a5)else none).getD (.ref B)= .ref c/\(∀m,aL J m->bS K m c bs)/\bs.length=rows.length/\(∀(i:Nat)(r:Rw),rows[i]?=some r->∃b':Addr,bs[i]?=some (V.ref b')/\qC K b' [.int ((r.1+1:Nat):Int), .str r.2.1, .str r.2.2])/\(∀r∈rows,∃s',cY x= .str s'/\s'.cps.toList[r.1]?=some 116)/\bZ (eU aF) x ps=eW ps rows:=by
  have one:∀(r:Rw)(b':Addr),qC K b' [.int ((r.1+1:Nat):Int), .str r.2.1, .str r.2.2]->∀(i:Nat)(l:Rw),[r][i]?=some l->∃W,[V.ref b'][i]?=some (.ref W)/\qC K W [.int ((l.1+1:Nat):Int), .str l.2.1, .str l.2.2]:=λr b' h i l e=>by match i,e with|0,e=>cases e;exact⟨b',rfl,h⟩|i+1,e=>simp at e
  unfold bZ;rw[if_neg nn];by_cases e1:x="app"
  ·subst e1;refine⟨a1,[(0,"fun","fun")],[.ref b1],by simp,λm _=> .inr s1,rfl,one _ _ s2,λr g=>?_,?_⟩;·rw[List.mem_singleton.mp g];exact⟨"tt",by decide+kernel,by decide+kernel⟩
   ·simp[eW,vw]
  by_cases e2:x="rec"
  ·subst e2;refine⟨a2,[(3,"zero","zero"),(3,"next","next")],[.ref X, .ref Y],by simp[e1],λm _=> .inr s3,rfl,λi r e=>?_,λr g=>?_,?_⟩;·match i,e with|0,e=>cases e;exact⟨X,rfl,s4⟩|1,e=>cases e;exact⟨Y,rfl,s5⟩|i+2,e=>simp at e
   ·have hr1:r.1=3:=by simp only[eB,fH,or_false]at g;rcases g with rfl|rfl<;>rfl
    rw[hr1];exact⟨"kttt",by decide+kernel,by decide+kernel⟩
   ·have n1:(Str.ofString "rec")≠Str.ofString "carry":=by decide+kernel
    have n2:(Str.ofString "rec")≠Str.ofString "first":=by decide+kernel
    have n3:(Str.ofString "rec")≠Str.ofString "second":=by decide+kernel
    rw[if_neg e1,if_neg n1,if_neg n2,if_neg n3,if_pos rfl];simp[eW,vw]
  by_cases p:x="carry"
  ·subst p;refine⟨a3,[(2,"like","like")],[.ref b4],by simp[e1,e2],λm _=> .inr s6,rfl,one _ _ s7,λr g=>?_,?_⟩;·rw[List.mem_singleton.mp g];exact⟨"ktt",by decide+kernel,by decide+kernel⟩
   ·simp[eW,vw,e1]
  by_cases e4:x="first"
  ·subst e4;refine⟨a4,[(0,"pair","first")],[.ref b5],by simp[e1,e2,p],λm _=> .inr s8,rfl,one _ _ s9,λr g=>?_,?_⟩;·rw[List.mem_singleton.mp g];exact⟨"t",by decide+kernel,by decide+kernel⟩
   ·simp[eW,vw,e1,p]
  by_cases L:x="second"
  ·subst L;refine⟨a5,[(0,"pair","second")],[.ref b6],by simp[e1,e2,p,e4],λm _=> .inr uV,rfl,one _ _ s11,λr g=>?_,?_⟩;·rw[List.mem_singleton.mp g];exact⟨"t",by decide+kernel,by decide+kernel⟩
   ·simp[eW,vw,e1,p,e4]
  ·exact⟨B,[],[],by simp[e1,e2,p,e4,L],λm hs=>bS.of (hs _ _ h0),rfl,(λi r e=>by simp at e),(λr g=>absurd g (by simp)),(by simp[eW,e1,e2,p,e4,L])⟩
 obtain⟨c,rows,bs,ec,hc,hl,abO,aaO,Ta⟩:=key;rw[ec];refine⟨c,rfl,⟨bs,hc J (aL.refl _)⟩,?_⟩;let FK:Nat->L2.St->Hp->Prop:=(λi U H'=>∃(pv S R:Option V),U=[some (.ref a),some (.ref b),pv,S,R]/\(∀r∈rows.take i,vw ps r=false)/\H'=J);refine jz bs.length FK ?_ ?_ ?_;·exact⟨none,none,none,rfl,λr g=>by simp at g,rfl⟩
 ·rintro i U m hi⟨pv',S,R,rfl,F,rfl⟩;obtain⟨l,G⟩:∃r,rows[i]?=some r:=⟨_,e8 (by omega)⟩;obtain⟨b',Iy,sb'⟩:=abO i l G;refine⟨⟨bs,_,hc _ (aL.refl _),Iy⟩,?_⟩;rintro x' H2⟨rfl,I⟩;have I:=I bs (hc _ (aL.refl _));rw[Iy]at I;cases I;obtain⟨s',ks,ki⟩:=aaO l (nP G);obtain⟨Z,ws,HZ,hc0⟩:=MT wfk rp0 ks ki;refine⟨b',_,rfl, .inr sb',rfl,_,_,rfl,_,_,rfl,_,_,rfl,rfl,?_⟩;refine⟨_,rfl,_,rfl,a,_,_, .ref Z,rfl,rfl,bS.of ha0,HZ,Z,_,_,_,rfl,rfl,bS.of hc0,aO (j:=0) rfl,_,rfl,rfl,_,rfl,?_⟩;have hd:rows.drop i=l::rows.drop (i+1):=by obtain⟨h,rfl⟩:=List.getElem?_eq_some_iff.mp G;exact List.drop_eq_getElem_cons h
  refine aV (λch=>?_) (λch=>?_)
  ·have ch:V.str (jg ((ps[l.1]?).getD .aP))=V.str l.2.1:=of_decide_eq_true ch;injection ch with ch;have O:vw ps l=true:=decide_eq_true ch;refine⟨_,rfl,?_⟩;have N:bG (eU aF) (.tup (.str x::ps))= .str l.2.2:=by show bZ (eU aF) x ps=_;rw[Ta,jN F,hd,eW,if_pos O]
   have o:=q _ C;rw[N]at o;exact o
  ·have O:vw ps l=false:=decide_eq_false λz=>ch (by rw[z];exact decide_eq_true rfl);refine⟨_,_,_,rfl,λr g=>?_,rfl⟩;rw[List.take_add_one,G]at g;rcases List.mem_append.mp g with g|g;·exact F r g
   ·have :r=l:=by simpa using g
    rw[this];exact O
 ·rintro U m⟨pv',S,R,rfl,F,rfl⟩;refine⟨⟨bs,hc _ (aL.refl _),bJ _⟩,?_⟩;have N:bG (eU aF) (.tup (.str x::ps))= .aP:=by show bZ (eU aF) x ps=_;rw[Ta,jN F,hl,List.drop_length,eW]
  have o:=q _ C;rw[N]at o;exact o
seal L3.PH L3.PB
theorem Be{H:Hp}:∀{ds:List D}{vs:List V}{d:D}{v:V}(i:Nat),bE H ds vs->Rep H d v->bE H (ds.set i d) (vs.set i v)|[],_,_,_,_,r,_=>by have r:_=[]:=r;subst r;exact rfl|_::_,_,_,_,0,⟨v,r,e,q,t⟩,h=>by subst e;exact⟨_,_,rfl,h,t⟩|_::_,_,_,_,i+1,⟨v,r,e,q,t⟩,h=>by subst e;exact⟨_,_,rfl,q,Be i t h⟩
def FX(C:Addr)(n:Nat):Sp:=λvs H Q E=>∃(d:D)(v:V)(pl:List Int)(pv:V)(e:D)(a:V),vs=[v,pv,a]/\Rep H d v/\Wf d/\Rep H (RN pl) pv/\Rep H e a/\pl.length<n/\(∀(u:V)(H':Hp),aL H H'->(goto d pl).isSome=true->Rep H' (putD d pl e) u->Q u H')/\(∀H',aL H H'->goto d pl=none->E (.ref C) none H')
theorem gU:aN ["thing","place","new","kid","kids"] ["thing","place","new"] (ak eG):=⟨rfl,rfl,rfl,by decide+kernel,rfl,by decide+kernel,by decide+kernel⟩
theorem vi{n:Nat}(D:Df K mg "changed_at" eG ["thing","place","new"])(M:Mg mg t)(hG:bj P w K mg (fG P w) "kid_at" (2) ["thing","number"] (rP t.cD))(bg:bj P w K mg bA "kids_of" (1) ["thing"] d6)(dF:bj P w K mg bA "rebuilt" (1) ["thing","kids"] h_)(iT:bj P w K mg (fG P w) "changed_at" (n+3) ["thing","place","new"] (FX t.cD n)):bj P w K mg (fG P w) "changed_at" (n+4) ["thing","place","new"] (FX t.cD (n+1)):=by
 refine D.OP gU (λvs H Q E h=>?_) (λbase f cF A outer s H vs Q E m h=>?_);·obtain⟨d,v,pl,pv,e,F,rfl,_⟩:=h;rfl
 obtain⟨d,v,pl,pv,e,F,rfl,r,wf,rp,W,hn,q,U⟩:=h;obtain⟨x,ps,k,rfl,wfk,S⟩:=d7 wf;obtain⟨a,ws,rfl,ha,X⟩:=id rp;have T:=X.length;rw[c_]at T;refine⟨_,(ag (bu (aD bP (bw bx rfl M.fB dP (aa (pv 1) af)) ah (aG _)) (ai (aw (pv 2))) aM) (ag (aH (i:=3) gU.nd rfl (cI rfl) (ay hG m.m rfl dg (aa (pv 0) (aa (aS aR (pv 1) ah (λ_ _=>rfl)) af)))) (ag (aH (i:=4) gU.nd rfl (cI rfl) (ay bg m.m rfl aC (aa (pv 0) af))) (ag (K9 (ay iT m.m rfl dg (aa (pv 3) (aa (ip HF (pv 1) (eL ah) cJ) (aa (pv 2) af)))) (MG (pv 4) (aS aR (pv 1) ah (λ_ _=>rfl)) set_list)) (ai (aw (ay dF m.m rfl aC (aa (pv 0) (aa (pv 4) af))))))))),?_⟩;try dsimp only[gL,cG]
 refine Vc ?_;intro _ _ _ _ _;refine⟨_,rfl,a,_,rfl, .inr (bS.of ha),rfl,_,rfl,?_⟩;refine aV (λc=>?_) (λc=>?_);·have c:V.int ((ws.length:Nat):Int)=V.int 0:=of_decide_eq_true c;injection c with c;have I:pl=[]:=List.length_eq_zero_iff.mp (by omega);subst I;exact⟨_,rfl,q F H (aL.refl H) rfl W⟩
 have A_:pl≠[]:=λz=>c (by subst z;have :ws.length=0:=T;rw[this];exact decide_eq_true rfl);obtain⟨i,is,rfl⟩:∃i is,pl=i::is:=by cases pl with|nil=>exact absurd rfl A_|cons i is=>exact⟨i,is,rfl⟩
 obtain⟨u0,B,rfl,J,aaX⟩:=X;have J:u0=V.int i:=J;subst J;have R:kZ (V.int i::B) 0=some (.int i):=aO (j:=0) rfl;refine⟨_,rfl,_,rfl,a,_,_,_,rfl,rfl,bS.of ha,R,_,v,i,rfl,r,wf,λp u O s1 b ru=>?_,λO s1 b=>U O s1 (il b)⟩;obtain⟨i0,hx,I⟩:=ir b;refine⟨_,rfl,x,ps,v,rfl,r.mono s1,S,λo us H2 jY s2 h2 L=>?_⟩;have l2:=L.length;have hk:av x ps=ps:=by unfold av;rw[hx];rfl
 rw[hk]at L l2;have Y:=s1.trans s2;refine⟨_,rfl,_,rfl,_,rfl,a,_,rfl,Y _ _ ha,λb1 H3 l h3=>?_⟩;have h3:H3 b1=some (.tup B):=by have z:=hI (V.int i::B) 1;rw[show((1:Nat):Int)=1 from rfl]at z;rw[z]at h3;exact h3
 have y:=Y.trans l;refine⟨_,rfl,p,u,is, .ref b1,e,F,rfl,ru.mono (s2.trans l),mi wf b,⟨b1,B,rfl,h3,aaX.mono y⟩,W.mono y,(by rw[hV]at hn;omega),λu2 C g G r4=>?_,λC g G=>U C (y.trans g) (by rw[eR b];exact G)⟩;have hl:i.toNat<us.length:=by have :=(List.getElem?_eq_some_iff.mp I).1;omega
 have Z:=y.trans g;refine⟨_,rfl,_,rfl,a,_,_,_,rfl,rfl,bS.of (Z _ _ ha),R,o,us,_,i.toNat,rfl,rfl,(l.trans g) _ _ h2,?_,?_⟩;·unfold RM;rw[if_pos (by omega),if_pos (by omega)]
 have h24:=(l.trans g) _ _ h2;have hf:H o=none:=s1.free jY;have s5:aL H (upd C o (.lst (us.set i.toNat u2))):=g8 Z hf;refine⟨_,rfl,_,rfl,x,ps,ps.set i.toNat (putD p is e),v,o,_,rfl,r.mono s5,aq,(Be i.toNat (L.mono (l.trans g)) r4).um h24,(by rw[List.length_set];exact S),λu5 H6 s6 N=>?_⟩;refine q u5 H6 (s5.trans s6) (by rw[eR b];exact G) ?_;rw[tq b];have aa3:ps.set i.toNat (putD p is e)≠[]:=λz=>by have :=congrArg List.length z;rw[List.length_set]at this;have :ps.length=0:=this;omega
 unfold bK at N;rw[if_neg aa3]at N;exact N
theorem mM(D:Df K mg "changed_at" eG ["thing","place","new"])(M:Mg mg t)(a:bj P w K mg (fG P w) "kid_at" (2) ["thing","number"] (rP t.cD))(b:bj P w K mg bA "kids_of" (1) ["thing"] d6)(c:bj P w K mg bA "rebuilt" (1) ["thing","kids"] h_):∀n:Nat,bj P w K mg (fG P w) "changed_at" (n+3) ["thing","place","new"] (FX t.cD n)|0=>bj.never D λvs H Q E⟨d,v,pl,pv,e,f,_,_,_,_,_,h,_⟩=>absurd h (jf _)|n+1=>vi D M a b c (mM D M a b c n)
def Sw(C G:Addr)(n:Nat):Sp:=λvs H Q E=>∃(d:D)(v:V)(pl:List Int)(pv:V)(e:D)(a:V),vs=[v,pv,a]/\Rep H d v/\Wf d/\Rep H (RN pl) pv/\Rep H e a/\pl.length<100/\((goto d pl).isSome=true->Rz (putD d pl e) n)/\(∀(u:V)(H':Hp),aL H H'->(goto d pl).isSome=true->(c7 (putD d pl e)||dv (putD d pl e))=false->Rep H' (putD d pl e) u->Q u H')/\(∀H',aL H H'->goto d pl=none->E (.ref C) none H')/\(∀H',aL H H'->(goto d pl).isSome=true->(c7 (putD d pl e)||dv (putD d pl e))=true->E (.ref G) none H')
theorem D7:aN ["thing","place","new"] ["thing","place","new"] (ak j6):=⟨rfl,rfl,rfl,by decide+kernel,rfl,by decide+kernel,by decide+kernel⟩
theorem JT{n:Nat}(D:Df K mg "with_at" j6 ["thing","place","new"])(M:Mg mg t)(hn:99<=n)(m:bj P w K mg (fG P w) "changed_at" (103) ["thing","place","new"] (FX t.cD 100))(l:bj P w K mg (fG P w) "bounded" (n+4) ["thing"] (nC t.dM n)):bj P w K mg (fG P w) "with_at" (n+5) ["thing","place","new"] (Sw t.cD t.dM n):=by
 refine D.OP D7 (λvs H Q E h=>?_) (λbase f cF A outer s H vs Q E j h=>?_);·obtain⟨d,v,pl,pw,e,i,rfl,_⟩:=h;rfl
 obtain⟨d,v,pl,pw,e,i,rfl,r,wf,y,x,hl,rz,q,o,p⟩:=h;refine⟨_,(ai (aw (ay l j.m rfl dg (aa (ay m j.m rfl dg (aa (pv 0) (aa (pv 1) (aa (pv 2) af)))) af)))),?_⟩;try dsimp only[gL,z]
 refine⟨_,rfl,_,rfl,_,rfl,d,v,pl,pw,e,i,rfl,r,wf,y,x,hl,λu g s1 a k=>?_,λg s1 a=>o g s1 a⟩;exact⟨_,u,rfl,k,rz a,λb s2 c=>q u b (s1.trans s2) a c (k.mono s2),λb s2 c=>p b (s1.trans s2) a c⟩
end K25
end
section
namespace L3
open PySem PySem.Spec PyProof.Rows L2 KM
noncomputable abbrev iJ(qual:Str):HO:= .uQ (.code qual)
structure g_(ps cs:List Str)(scope:Scope):Prop where
 kind:scope.kind= .function
 co:scope.isCoroutine=false
 gen:scope.isGenerator=false
 n8:∀x∈scope.names,x.2≠ .cell
 par:∀x∈ps,scope.names.lookup x=some .local
 nd:(ps++cs).Nodup
 free:∀x∈cs,scope.names.lookup x=some .free
 all:∀x,scope.names.lookup x=some .free->x∈cs
structure uG(h:Heap)(f c:Addr)(name qual:Str)(params:Arguments)(body:List Stmt)(scope:Scope)(cs:List Str)(ws:List V)(cl:List (Str×Addr))(doc pm ct:Value):Prop where
 fo:h.get? f=some {cls:= .type "function",data:= .func (PySem.W.fnX name qual params body scope cl .none .none doc pm none (.ref c) ct)}
 inj:∀x y a,cl.lookup x=some a->cl.lookup y=some a->x=y
 own:∀x a,cl.lookup x=some a->x∈cs
 cell:∀(i:Nat)(x:Str),cs[i]?=some x->∃(v:V)(a:Addr)(u:Value),ws[i]?=some v/\cl.lookup x=some a/\RelV v u/\h.IsCell a (some u)
 len:ws.length=cs.length
section
variable{h h':Heap}{f c:Addr}{name qual:Str}{params:Arguments}{body:List Stmt}{scope:Scope}{cs:List Str}{ws:List V}{cl:List (Str×Addr)}{doc pm ct:Value}
theorem uG.keeps(C:uG h f c name qual params body scope cs ws cl doc pm ct)(k:∀b o,h.get? b=some o->h'.get? b=some o):uG h' f c name qual params body scope cs ws cl doc pm ct:=⟨k _ _ C.fo,C.inj,C.own,λi x e=>let⟨v,a,u,h1,h2,h3,o,h4,h5⟩:=C.cell i x e;⟨v,a,u,h1,h2,h3,o,k _ _ h4,h5⟩,C.len⟩
end
noncomputable abbrev kU(qual:Str)(scope:Scope)(L f c:Addr)(cl:List (Str×Addr)):Env:=PySem.W.envX qual scope L f (.ref c) cl
noncomputable def Cj(CX:oJ)(P:Program)(w:World)(K:PySem.W.Frag)(mg:Str->Option Value)(base:Heap)(N:List Str)(qual:Str)(scope:Scope)(f c:Addr)(cl:List (Str×Addr))(A:Around)(outer:List Env)(s:Shared)(H:Hp)(E:XK):Cx where prog:=P;w:=w;K:=K;mg:=mg;base:=base;A:=A.deeper (kU qual scope s.heap.objs.size f c cl);N:=N;cj:=s;H₀:=H;env:=kU qual scope s.heap.objs.size f c cl;outer:=outer;stack:=kU qual scope s.heap.objs.size f c cl::outer;ex:=[];calm:=true;fn:=λ_=>false;pn:=[];xe:=λe s'=>wpAny (model P w) (A.deeper (kU qual scope s.heap.objs.size f c cl)) (leaving (kU qual scope s.heap.objs.size f c cl) e) (λ_ a=>CX A.handled outer H s E e a) (λe' a=>CX A.handled outer H s E e' a) s'
theorem uA{a:Type}:∀{l:List (Str×a)}{x:Str}{v:a},(l.map (·.1)).Nodup->(x,v)∈l->l.lookup x=some v
 |[],_,_,_,h=>by cases h
 |(y,w)::l,x,v,nd,h=>by
  rw[eF,List.nodup_cons]at nd;rw[mP];rcases List.mem_cons.mp h with e|h;·cases e;simp
  ·have b:x≠y:=λz=>nd.1 (by rw[<-z];exact List.mem_map.mpr ⟨(x,v),h,rfl⟩);have :(x==y)=false:=by simpa using b
   rw[this];exact uA nd.2 h
theorem wN:∀{ps:List Str}(us:List Value),ps.Nodup->((ps.zip us).map (·.1)).Nodup|[],us,_=>by simp|p::ps,[],_=>by simp|p::ps,u::us,nd=>by rw[List.nodup_cons]at nd;rw[List.zip_cons_cons,eF,List.nodup_cons];refine⟨λh=>nd.1 ?_,wN us nd.2⟩;obtain⟨⟨a,b⟩,hm,e⟩:=List.mem_map.mp h;cases e;exact(List.of_mem_zip hm).1
theorem Ks{ps:List Str}{us:List Value}(nd:ps.Nodup){i:Nat}{x:Str}{u:Value}(h1:ps[i]?=some x)(h2:us[i]?=some u):(ps.zip us).reverse.lookup x=some u:=by have hm:(x,u)∈(ps.zip us).reverse:=List.mem_reverse.mpr (nP (i:=i) (by rw[List.getElem?_zip_eq_some];exact⟨h1,h2⟩));refine uA ?_ hm;have a:((ps.zip us).map (·.1)).Nodup:=wN us nd;rw[List.map_reverse];exact(List.reverse_perm _).nodup_iff.mpr a
theorem Qb{CX:oJ}{P:Program}{w:World}{K:PySem.W.Frag}{mg:Str->Option Value}{base:Heap}{ps cs:List Str}{name qual:Str}{params:Arguments}{body:List Stmt}{scope:Scope}{f c:Addr}{cl:List (Str×Addr)}{doc pm ct:Value}{A:Around}{outer:List Env}{s:Shared}{H:Hp}{E:XK}{us:List Value}{vs ws:List V}{h1:Heap}{t1:Nat}(S:g_ ps cs scope)(e0:Cb P w K mg base A outer s H)(C:uG base f c name qual params body scope cs ws cl doc pm ct)(hl:vs.length=ps.length)(r:Vals vs us)(n:h1.Ns s.heap.objs.size (λx=>(ps.zip us).reverse.lookup x))(h:∀b o,s.heap.get? b=some o->h1.get? b=some o):Inv (Cj CX P w K mg base (ps++cs) qual scope f c cl A outer s H E) [] (vs.map some++ws.map some) H {s with heap:=h1,toks:=t1}:=by
 have l:∀b:Addr,b∉(Cj CX P w K mg base (ps++cs) qual scope f c cl A outer s H E).ex:=λb z=>absurd (show b∈([]:List Addr)from z) (by simp);have cellOf:∀x a,cl.lookup x=some a->∃u,base.IsCell a (some u):=λx a e=>by obtain⟨i,hi⟩:=List.mem_iff_getElem?.mp (C.own x a e);obtain⟨v,a',u,_,e2,_,e4⟩:=C.cell i x hi;rw[e]at e2;cases e2;exact⟨u,e4⟩
 have up:∀{a:Addr}{v:Option Value},base.IsCell a v->h1.IsCell a v:=λ⟨o,j,hd⟩=>⟨o,h _ _ (e0.bs _ _ j).1,hd⟩;refine⟨⟨e0.mod,S.kind,rfl,rfl,bJ _,C.inj,λy g=>?_,λy c z=>(by cases z),λ_=>e0.Xc.toP,Around.frames_deeper e0.frames, .inr ⟨rfl,rfl⟩,λb z=>absurd z (l b),e0.bs,e0.Ba,λb _ _=>l b,λb z=>absurd z (l b),e0.gZ,e0.Oq⟩,rfl,e0.bare,Un.kept h,⟨_,n,λi y v d h2 h3=>?_⟩,λy a e=>?_,e0.bX.fresh (bJ _),λy a e=>?_,λp q=>absurd (show p∈([]:List (Addr×Obj))from q) (by simp),e0.bX.kept h,?_⟩
 ·have g:scope.names.lookup y=some .cell\/scope.names.lookup y=some .free:=g;rcases g with g|g;·exact absurd rfl (S.n8 _ (PySem.mem_of_lookup g))
  ·obtain⟨i,hi⟩:=List.mem_iff_getElem?.mp (S.all y g);obtain⟨v,a,u,_,e2,_⟩:=C.cell i y hi;exact⟨a,e2⟩
 ·have d:(ps++cs)[i]?=some y:=d;by_cases hi:i<ps.length;·rw[Ci hi]at d;rw[Ci (by rw[c_];lia),nY]at h2;obtain⟨D,k,e⟩:=Option.map_eq_some_iff.mp h2;cases e;obtain⟨u,t,B⟩:=r.get k;have nd:=(List.nodup_append.mp S.nd).1;exact⟨u,B, .inl ⟨S.par y (nP d),Ks nd d t⟩⟩
  ·rw[List.getElem?_append_right (by lia)]at d;rw[List.getElem?_append_right (by rw[c_];lia),c_,hl,nY]at h2;obtain⟨D,k,e⟩:=Option.map_eq_some_iff.mp h2;cases e;obtain⟨F,a,u,e1,e2,m,e4⟩:=C.cell _ y d;rw[k]at e1;cases e1;exact⟨u,m, .inr ⟨.inr (S.free y (nP d)),a,e2,up e4⟩⟩
 ·obtain⟨u,e4⟩:=cellOf y a e;exact⟨_,up e4⟩
 ·obtain⟨u,o,j,_⟩:=cellOf y a e;exact(e0.bs _ _ j).2
 ·show(vs.map some++ws.map some).length=(ps++cs).length;rw[je,je,c_,c_,hl,C.len]
theorem QD{CX:oJ}{P:Program}{w:World}{K:PySem.W.Frag}{mg:Str->Option Value}{base:Heap}{k:Nat}{ps cs:List Str}{name qual:Str}{params:Arguments}{body:List Stmt}{scope:Scope}{f c:Addr}{cl:List (Str×Addr)}{doc pm ct:Value}{A:Around}{outer:List Env}{s:Shared}{H:Hp}{Q:VK}{E:XK}{us:List Value}{vs ws:List V}(S:g_ ps cs scope)(e0:Cb P w K mg base A outer s H)(h:cZ (k+1) A)(C:uG base f c name qual params body scope cs ws cl doc pm ct)(hc:H c=some (iJ qual))(hl:vs.length=ps.length)(r:Vals vs us)(hb:BindsTo s (PySem.W.fnX name qual params body scope cl .none .none doc pm none (.ref c) ct) ⟨us,[]⟩ (ps.zip us))(i:cZ k (A.deeper (kU qual scope s.heap.objs.size f c cl))->∃t,gT (Cj CX P w K mg base (ps++cs) qual scope f c cl A outer s H E) body t/\t {nx:=λ_ H'=>Q .aP H',rt:=Q} (vs.map some++ws.map some) H):codeAny (model P w) A (.call (.ref f) ⟨us,[]⟩) (CR CX A.handled outer P w H s Q E) s:=by have p:s.heap.NoLimit:=e0.mod.nolimit.keeps λb o e=>(e0.bs b o e).1;have j:s.heap.CodeRec (.ref c) qual:=(show cu P w H s.heap c (iJ qual)from e0.bX c _ hc);refine codeAny_call_def (fd:=PySem.W.fnX name qual params body scope cl .none .none doc pm none (.ref c) ct) (body:=body) (binds:=ps.zip us) h.depth (e0.bs _ _ C.fo).1 rfl p j rfl hb S.n8 (λy n=>S.par y.1 (List.of_mem_zip n).1) (λh₁ m l=>?_) S.co S.gen S.kind;obtain⟨t,ht,hq⟩:=i (h.deeper _);have I:=Qb (CX:=CX) (E:=E) (t1:=s.toks+(ps.zip us).length) S e0 C hl r m l;refine fE (ht [] _ _ H _ I hq) (λfl s' a=>?_) λe s' a=>a;have fin:∀{d:L2.St}{H':Hp}{v:V}{u:Value},Inv (Cj CX P w K mg base (ps++cs) qual scope f c cl A outer s H E) [] d H' s'->RelV v u->Q v H'->CE outer P w H s Q u s':=λ{d H' v u}J g q=>⟨v,H',J.os,J.bare,J.base,J.bX,g,q⟩;cases fl with|ret u=>obtain⟨v,d,H',J,g,q⟩:=a;exact fin J g q|next=>obtain⟨d,H',J,q⟩:=a;exact fin (v:=V.aP) (u:=Value.none) J rfl q|brk=>obtain⟨_,_,_,q⟩:=a;exact False.elim q|cont=>obtain⟨_,_,_,q⟩:=a;exact False.elim q
def i8(H:Hp)(T:Addr)(qual:Str)(a:Pos):Prop:=H T=some (.uQ (.tab qual (rawInt a.line) (rawInt a.col)))
theorem i8.mono{H H':Hp}{T:Addr}{qual:Str}{a:Pos}(x:i8 H T qual a)(s:aL H H'):i8 H' T qual a:=s _ _ x
def FR(K:PySem.W.Frag)(a T:Addr):Prop:=PySem.W.codeHdIn K a T=true
theorem pk{K:PySem.W.Frag}{mg:Str->Option Value}{base h:Heap}{T:Addr}{ps:Array Value}(M:Mod K mg base)(k:∀b o,base.get? b=some o->h.get? b=some o)(f:h.get? T=some (PySem.W.tabObj ps)):mainGlobals≠T/\h.BuiltinsAt mg T:=by
 obtain⟨bm,ob,b1,g,a,d,i,c⟩:=M.bm;obtain⟨o,es,ep,e,hd,_⟩:=M.glob;have e:=k _ _ e;have a:=k _ _ a;refine⟨λq=>?_,bm,ob,b1,g,λq=>?_,λq=>?_,a,d,i,c⟩;·rw[q,f]at e;cases e;cases hd
 ·rw[q,e]at a;cases a;rw[hd]at c;cases c
 ·rw[q,f]at a;cases a;cases d
noncomputable abbrev A6(X:Cx)(f:Addr)(fo:Obj):Cx:={X with pn:=(f,fo)::X.pn}
section
variable{X:Cx}{pins:List (Addr×Obj)}{σ:L2.St}{H:Hp}{s:Shared}{f:Addr}{fo:Obj}
theorem Dd{base:Heap}{pn b:List (Addr×Obj)}{A:Around}(h:HBp base pn A)(d:∀q∈pn,q∈b):HBp base b A:=by
 rcases h with h|⟨a,oe,vs,e1,e2,c⟩;·exact .inl h
 ·exact .inr ⟨a,oe,vs,e1,e2.imp id (d _),c⟩
theorem XF(ok:X.Ok):(A6 X f fo).Ok:=⟨ok.mod,ok.kind,ok.glob,ok.blt,ok.above,ok.inj,ok.has,ok.OQ,λh=>Dd (ok.hd h) λq hq=>dX _ hq,ok.frames,ok.Q_,ok.RO,ok.bs,ok.Ba,ok.pS,ok.vx,ok.gZ,ok.Oq⟩
theorem X2(I:Inv X pins σ H s)(e:s.heap.get? f=some fo)(b:H f=none)(c:f≠X.env.locals)(d:f∉X.fs)(g:∀v,fo.data≠ .cell v):Inv (A6 X f fo) pins σ H s:=by
 refine⟨XF I.ok,I.os,I.bare,I.base,I.loc,I.cell,I.free,I.eE,λp a=>?_,I.bX,I.len⟩;rcases List.mem_cons.mp (show p∈(f,fo)::(X.pn++pins)from a)with z|z;·rw[z];exact⟨e,b,c,d,g⟩
 ·exact I.pin p z
theorem ux(ok:X.Ok)(I:Inv (A6 X f fo) pins σ H s):Inv X pins σ H s:=⟨ok,I.os,I.bare,I.base,I.loc,I.cell,I.free,I.eE,λp a=>I.pin p (dX _ a),I.bX,I.len⟩
theorem Y9(ok:X.Ok){D:Ends}{fl:Flow}(h:SP (A6 X f fo) pins D fl s):SP X pins D fl s:=by cases fl with|next=>obtain⟨a,H',I,q⟩:=h;exact⟨a,H',ux ok I,q⟩|brk=>obtain⟨a,H',I,q⟩:=h;exact⟨a,H',ux ok I,q⟩|cont=>obtain⟨a,H',I,q⟩:=h;exact⟨a,H',ux ok I,q⟩|ret u=>obtain⟨v,a,H',I,r,q⟩:=h;exact⟨v,a,H',ux ok I,r,q⟩
end
noncomputable abbrev og(name qual:Str)(params:Arguments)(body:List Stmt)(scope:Scope)(cl:List (Str×Addr))(doc pm:Value)(c:Addr)(ct:Value):Obj:={cls:= .type "function",data:= .func (PySem.W.fnX name qual params body scope cl .none .none doc pm none (.ref c) ct)}
noncomputable def abl(i:Nat)(T:Addr)(qual:Str)(a:Pos)(t:Addr->Addr->Value->Value->Value->TS):TS:=λD σ H=>i8 H T qual a/\∀(f c:Addr)(doc pm ct:Value)(H':Hp),aL H H'->H' c=some (iJ qual)->t f c doc pm ct D (σ.set i (some (.ref f))) H'
theorem Yu{fs ex:List Addr}{H:Hp}{h h':Heap}{T c:Addr}{ps:QA}{o:HO}(a:H T=some (.uQ ps))(hc:H c=none)(e:h.objs.size<=c)(k:∀b u,b≠T->h.get? b=some u->h'.get? b=some u)(d:∃u,h'.get? T=some u):Un fs ex H (upd H c o) h h':=by
 have nT:∀b,H b=none->b≠T:=λb n z=>by rw[z,a]at n;cases n
 refine⟨λb u q n _ _=>k b u (nT b n) q,λb u q n _ _=>⟨u.slots,k b u (nT b n) q⟩,λb u q n _=>?_,λb u q _=>?_,λb xs q=>?_,λb u xs q=>?_,λb f q=>?_⟩;·rw[bf (dN (gd (bL q) e))];exact n
 ·by_cases z:b=T;·rw[z];exact d
  ·exact⟨u,k b u z q⟩
 all_goals rw[bf (aT q hc)];exact q
theorem HK{X:Cx}{i:Nat}{p T:Addr}{name qual:Str}{params:Arguments}{body:List Stmt}{scope:Scope}{d:Pos}{rest:List Stmt}{cl:List (Str×Addr)}{t:Addr->Addr->Value->Value->Value->TS}(P:FR X.K p T)(C:X.env.code= .ref p)(R:X.N.Nodup)(hi:X.N[i]?=some name)(L:X.env.scope.names.lookup name=some .local)(hq:qualnameIn X.env name name=qual)(B:closureFor scope X.env=pure cl)(hr:∀(f c:Addr)(doc pm ct:Value),gT (A6 X f (og name qual params body scope cl doc pm c ct)) rest (t f c doc pm ct))(W:params.defaults=[]:=by rfl)(Z:params.kw_defaults=[]:=by rfl)(ha:annTrees params none X.env=[]:=by rfl):gT X (.FunctionDef name params body [] none [] scope none name d::rest) (abl i T qual d t):=by
 intro pins s σ H D I h;obtain⟨k,h⟩:=h;have M:∀(f c:Addr)(doc pm ct:Value)(H':Hp)(s1:Shared),Inv X pins σ H' s1->s1.heap.get? f=some (og name qual params body scope cl doc pm c ct)->H' f=none->f≠X.env.locals->f∉X.fs->aL H H'->H' c=some (iJ qual)->wpAny (model X.prog X.w) X.A (storeName X.env name (.ref f)) (λ_ s2=>wpAny (model X.prog X.w) X.A (execs rest X.env) (SP X pins D) X.xe s2) X.xe s1:=λf c doc pm ct H' s1 j e1 e2 Q e4 sx hc=>by have N:=X2 (fo:=og name qual params body scope cl doc pm c ct) j e1 e2 Q e4 (λv z=>by cases z);refine ju (X:=A6 X f (og name qual params body scope cl doc pm c ct)) (i:=i) (v:= .ref f) N R hi (.inl L) rfl (λs2 O=>?_) (.inr L);exact fE (hr f c doc pm ct pins s2 _ H' D O (h f c doc pm ct H' sx hc)) (λfl s3 q=>Y9 I.ok q) λ_ _ z=>z
 have KX:=I.kS;have E:s.heap.Ns mainGlobals X.mg:=I.mod.glob.keeps I.bk;obtain⟨m,⟨oL,esL,epL,hoL,_⟩,_⟩:=id I.loc;have G:X.env.locals<s.heap.objs.size:=bL hoL;have y:∀b:Addr,s.heap.objs.size<=b->b∉X.fs:=λb hb hm=>by obtain⟨_,o',ho,_⟩:=I.gZ.mem hm;exact absurd (bL ho) (Nat.not_lt.mpr hb)
 have hd:PySem.W.CodeHd s.heap p T:=PySem.W.codeHd_of_K KX P;refine wpAny_execs_cons (PySem.W.nestDef_K W Z ha ?_);rw[hq];rcases(show cu X.prog X.w H s.heap T (.uQ (.tab qual (rawInt d.line) (rawInt d.col)))from I.bX T _ k)with a|⟨c,a,hc⟩
 ·have a:s.heap.get? T=some (PySem.W.tabObj #[]):=a;obtain⟨K,w⟩:=pk I.mod I.bk a;refine PySem.W.makeFunction_K B I.ok.glob E C hd a trivial rfl K w λc' g doc h' tk hx1 x J aaU S=>?_;have l:H c'=none:=I.bX.fresh x;have F:∀b u,b≠T->s.heap.get? b=some u->(h'.push (PySem.W.fnMade name qual params body scope cl doc ((X.mg "__name__").getD .none) c' g)).get? b=some u:=λb u n e=>bD _ (hx1 b u n e);have A:(h'.push (PySem.W.fnMade name qual params body scope cl doc ((X.mg "__name__").getD .none) c' g)).get? T=some (PySem.W.tabObj (#[]++#[rawInt d.line,rawInt d.col, .ref c'])):=bD _ S;have nTc:T≠c':=aT k l;have V:=aaU.push (PySem.W.fnMade name qual params body scope cl doc ((X.mg "__name__").getD .none) c' g);have P8:jd X.prog X.w (upd H c' (iJ qual)) (h'.push (PySem.W.fnMade name qual params body scope cl doc ((X.mg "__name__").getD .none) c' g)):=λb u e=>by
   by_cases hb:b=c';·rw[hb,aq]at e;cases e;rw[hb];exact V
   ·rw[bf hb]at e;by_cases r:b=T;·rw[r,k]at e;cases e;rw[r];exact .inr ⟨c',A,aq⟩
    ·have nT2:∀c2,H c2=some (.own b)->c2≠T:=λc2 q z=>by rw[z,k]at q;cases q
     refine(I.bX b u e).pO (λc2 o U q=>F c2 o ?_ q) (λc2 q=>?_) λc2 xs q=>?_
     ·rcases U with rfl|q2;·exact r
      ·exact nT2 _ q2
     ·rw[bf (aT q l)];exact q
     ·rw[bf (aT q l)];exact q
  have j:=I.un (t':=tk) (Yu (o:=iJ qual) k l x F ⟨_,A⟩) P8;have hsz:s.heap.objs.size<=h'.objs.size:=cS x (Nat.le_of_lt J);refine M h'.objs.size c' _ _ _ _ _ j (eD _ rfl) ?_ (Nat.ne_of_gt (gd G hsz)) (y _ hsz) (λb o e=>?_) aq;·rw[bf (Nat.ne_of_gt J)];exact I.bX.fresh hsz
  ·rw[bf (aT e l)];exact e
 ·have a:s.heap.get? T=some (PySem.W.tabObj #[rawInt d.line,rawInt d.col, .ref c]):=a;obtain⟨K,w⟩:=pk I.mod I.bk a;refine PySem.W.makeFunction_hit (cv:= .ref c) B I.ok.glob E C hd a ?_ ?_ w λg doc h' tk Y hsz=>?_;·simp[TriplesOk,rawInt]
  ·simp[codeAmong,rawInt]
  have j:=I.kept (h':=h'.push {cls:= .type "function",data:= .func (PySem.W.fnX name qual params body scope cl .none .none doc ((X.mg "__name__").getD .none) none (.ref c) g)}) (t':=tk) λb u e=>bD _ (Y b u e);exact M h'.objs.size c _ _ _ _ _ j (eD _ rfl) (I.bX.fresh hsz) (Nat.ne_of_gt (gd G hsz)) (y _ hsz) (λb o e=>e) hc
noncomputable def tJ(P:Program)(w:World)(K:PySem.W.Frag)(mg:Str->Option Value)(CX:oJ)(x:Str)(k:Nat)(ps:List Str)(sp:Heap->Sp):Prop:=∃f fd,(∀base,m9 P w K mg base CX k f fd ps (sp base))/\mg x=some (.ref f)/\PySem.W.keepIn K (.ref f)=true/\Binds K fd ps []
section
variable{P:Program}{w:World}{K:PySem.W.Frag}{mg:Str->Option Value}
theorem Df.okB{x:Str}{st:Stmt}{N ps:List Str}{k:Nat}{sp:Heap->Sp}(D:Df K mg x st ps)(S:aN N ps (ak st))(len:∀base vs H Q E,sp base vs H Q E->vs.length=ps.length)(a:∀(base:Heap)(f:Addr)(cF:Value)(A:Around)(outer:List Env)(s:Shared)(H:Hp)(vs:List V)(Q:VK)(E:XK),cZ k (A.deeper (envOfC x (ak st) s.heap.objs.size f cF))->sp base vs H Q E->∃t,gT (eS bA P w K mg base N x (ak st) f cF A outer s H E).Nc (cC st) t/\t {nx:=λ_ H'=>Q .aP H',rt:=Q} (start N vs) H):tJ P w K mg bA x (k+1) ps sp:=by obtain⟨f,fd,F,m,b⟩:=D;exact⟨f,fd,λbase=>F.ok S (len base) (a base f),m,F.kp,b⟩
theorem tJ.never{x:Str}{st:Stmt}{ps:List Str}{sp:Heap->Sp}{k:Nat}{CX:oJ}(D:Df K mg x st ps)(no:∀base vs H Q E,¬sp base vs H Q E):tJ P w K mg CX x k ps sp:=by obtain⟨f,fd,F,m,b⟩:=D;exact⟨f,fd,λbase=>⟨λvs H Q E h=>absurd h (no base vs H Q E),λA outer s H args us vs Q E _ _ _ _ h=>absurd h (no base vs H Q E)⟩,m,F.kp,b⟩
end
structure Ea(X:Cx)(σ:L2.St)(b':Heap):Prop where
 old:∀b o,X.base.get? b=some o->b'.get? b=some o
 pin:∀q∈X.pn,b'.get? q.1=some q.2
 cell:∀(i:Nat)(x:Str)(v:V),X.N[i]?=some x->σ[i]?=some (some v)->X.env.kindOf x=some .cell->X.fn x=true->∃c u,X.env.cells.lookup x=some c/\RelV v u/\b'.IsCell c (some u)
theorem Es{X:Cx}{pins:List (Addr×Obj)}{σ:L2.St}{H:Hp}{s:Shared}(I:Inv X pins σ H s):Ea X σ (z4 s.heap H (jL X.stack)):=by
 have g:∀b o,X.base.get? b=some o->b∉jL X.stack:=λb o e z=>by
  rcases List.mem_cons.mp (I.f7 b z)with z|z;·have :=bL e;rw[z]at this;exact absurd this (Nat.not_lt.mpr (cS I.ok.Ba I.ok.above))
  ·exact I.ok.Ub e z
 refine⟨λb o e=>jk (I.bs b o e).1 (I.bs b o e).2 (g b o e),λq hq=>?_,λi x v h1 h2 h3 h4=>?_⟩
 ·obtain⟨q1,q2,q3,q4,_⟩:=I.pin q (p_ _ hq);refine jk q1 q2 λz=>?_;rcases List.mem_cons.mp (I.f7 _ z)with z|z;·exact q3 z
  ·exact q4 z
 ·obtain⟨m,hn,hl⟩:=I.loc;obtain⟨u,r,l⟩:=hl i x v h1 h2 (.inr (.inl h3));rcases l with⟨a,_⟩|⟨_,c,hc,o,d,hd⟩;·rw[h3]at a;cases a
  ·refine⟨c,u,hc,r,o,jk d (I.eE x c hc) λz=>?_,hd⟩;rcases List.mem_cons.mp (I.f7 _ z)with z|z;·exact I.Se x c hc z
   ·obtain⟨_,o',f,_⟩:=I.ok.gZ.mem z;exact absurd (bL f) (Nat.not_lt.mpr (I.ok.OQ x c h4 hc))
noncomputable def Uu(X:Cx)(sp:Heap->Sp)(E:XK)(t:TA):TE:=λσ H Q=>t σ H λvs a=>∀b',Ea X σ b'->sp b' vs a Q E
theorem KI{X:Cx}{CX:oJ}{x:Str}{k:Nat}{ps:List Str}{sp:Heap->Sp}{E:XK}{e:Expr}{es:List Expr}{t:TA}{p d:Pos}(F:tJ X.prog X.w X.K X.mg CX x k ps sp)(o:cZ k X.A)(l:Gl X x)(v:Passes CX X E)(ha:PA X (e::es) t)(i:(x==("__debug__":Str))=false:=by decide)(j:starEach (e::es) X.env=(false,eval e X.env)::starEach es X.env:=by rfl)(n:(backTo d (starEach es X.env)).any (·.1)=false:=by rfl)(hc:X.calm=true:=by rfl):PE X (.Call (.Name x p) (e::es) [] d) (Uu X sp E t):=by
 obtain⟨f,fd,F,m,kp,b⟩:=F;intro pins s σ H Q I h;refine wpAny_Call_Name_kw (j4 I l m ?_ i);refine PySem.W.callWith_K (h₀:=X.base) I.ok.mod.JA kp (bQ (ha d pins s σ H _ I h) λus s1⟨vs,c,a,r,q⟩=>⟨a.kS,?_⟩) j n;have q:=q _ (Es a);have hl:us.length=ps.length:=by rw[<-r.length];exact(F (z4 s1.heap c (jL X.stack))).len _ _ _ _ q
 have g:=b s1 us a.kS (by rw[nX];exact hl);rw[nX]at g;refine wpAny_call (codeAny_mono ((F _).run X.A X.stack s1 c ⟨us,[]⟩ us vs Q E o (Pe a hc) g r q) λw s' hq=>?_);cases w with|error e=>exact v pins σ c s1 e s' a hq|ok fl=>cases fl with|ret u=>exact a.after hq|next=>exact False.elim hq|brk=>exact False.elim hq|cont=>exact False.elim hq
noncomputable def nQ(P:Program)(w:World)(K:PySem.W.Frag)(mg:Str->Option Value)(base:Heap)(k:Nat)(f:Addr)(sp:Sp):Prop:=PySem.W.FnAt f base/\∀(a:Heap),(∀b o,base.get? b=some o->a.get? b=some o)->∀(A:Around)(outer:List Env)(s:Shared)(H:Hp)(us:List Value)(vs:List V)(Q:VK),cZ k A->Cb P w K mg a A outer s H->Vals vs us->sp vs H Q E0->codeAny (model P w) A (.call (.ref f) ⟨us,[]⟩) (CR bA A.handled outer P w H s Q E0) s
theorem nQ.up{P:Program}{w:World}{K:PySem.W.Frag}{mg:Str->Option Value}{base a:Heap}{k:Nat}{f:Addr}{sp:Sp}(C:nQ P w K mg base k f sp)(c:∀b o,base.get? b=some o->a.get? b=some o):nQ P w K mg a k f sp:=⟨let⟨oc,od,fd,sl,e⟩:=C.1;⟨oc,od,fd,sl,c _ _ e⟩,λd h=>C.2 d λb o e=>h b o (c b o e)⟩
noncomputable def Ti(i:Nat)(f:Addr)(sp:Sp)(t:TA):TE:=λσ H Q=>σ[i]?=some (some (.ref f))/\t σ H λvs a=>sp vs a Q E0
theorem NC{X:Cx}{x:Str}{k i:Nat}{f:Addr}{sp:Sp}{e:Expr}{es:List Expr}{t:TA}{p b:Pos}(C:nQ X.prog X.w X.K X.mg X.base k f sp)(D:cZ k X.A)(n:X.N[i]?=some x)(F:X8 X.env.scope x)(ha:PA X (e::es) t)(w:(x==("__debug__":Str))=false:=by decide)(o:(x==("__classdict__":Str))=false:=by decide)(y:starEach (e::es) X.env=(false,eval e X.env)::starEach es X.env:=by rfl)(A:(backTo b (starEach es X.env)).any (·.1)=false:=by rfl)(hc:X.calm=true:=by rfl):PE X (.Call (.Name x p) (e::es) [] b) (Ti i f sp t):=by intro pins s σ H Q I h;obtain⟨G,h⟩:=h;refine wpAny_Call_Name_kw (fE (Na (X:=X) (i:=i) n F w o pins s σ H (λv H'=>v= .ref f/\H'=H) I ⟨.ref f,G,rfl,rfl⟩) (λu M E=>?_) λ_ _ z=>z);obtain⟨v,l,c,L,rfl,rfl⟩:=E;cases(show u=Value.ref f from L);have d:∀{g:List (Addr×Obj)}{j:L2.St}{H':Hp}{s':Shared},Inv X g j H' s'->PySem.W.FnAt f s'.heap:=λ{g j H' s'}J=>let⟨oc,od,fd,sl,e⟩:=C.1;⟨oc,od,fd,sl,(J.bs _ _ e).1⟩;refine PySem.W.callWith_F (d c) (bQ (ha b pins M σ l _ c h) λus s1⟨vs,m,a,r,q⟩=>⟨d a,?_⟩) y A;have B:=Es a;refine wpAny_call (codeAny_mono (C.2 _ B.old X.A X.stack s1 m us vs Q D (Pe a hc) r q) λK s' hq=>?_);cases K with|error e=>exact hq.elim|ok fl=>cases fl with|ret u=>exact a.after hq|next=>exact False.elim hq|brk=>exact False.elim hq|cont=>exact False.elim hq
noncomputable abbrev ME:=List (Addr×Addr×QA)
structure TabsOk(K:PySem.W.Frag)(h:Heap)(ts:ME):Prop where
 emp:∀q∈ts,h.get? q.2.1=some (PySem.W.tabObj #[])
 hd:∀q∈ts,PySem.W.codeHdIn K q.1 q.2.1=true
 out:∀q∈ts,K.lookup q.2.1=none
 tab:∀q∈ts,∃x l c,q.2.2= .tab x l c
noncomputable def UM(K:PySem.W.Frag)(a:Addr)(o:Obj)(xs:List V)(ts:ME):Hp:=λb=>if b=a/\K.lookup a=none then some (.DK o (.lst xs))else((ts.map (·.2)).lookup b).map HO.uQ
theorem Ql{K:PySem.W.Frag}{h:Heap}{c T:Addr}(X:K.In h)(e:PySem.W.codeHdIn K c T=true):isCodeTable h T:=by obtain⟨o,vs,f,d,fl,tg,b,n,g,e1,e2,a,e4,_⟩:=PySem.W.codeHd_of_K X e;exact⟨c,o,vs,e1,e2,a,e4⟩
theorem BE{a:Type}:∀{l:List (Addr×a)}{x:Addr}{v:a},l.lookup x=some v->(x,v)∈l
 |[],_,_,h=>by simp at h
 |(y,w)::l,x,v,h=>by
  rw[mP]at h;by_cases e:(x==y)=true;·rw[e]at h;have :=beq_iff_eq.mp e;subst this;cases h;exact eC
  ·rw[show(x==y)=false by simpa using e]at h;exact dX _ (BE h)
theorem MY{ts:ME}{b:Addr}{s:QA}(e:(ts.map (·.2)).lookup b=some s):∃q∈ts,q.2.1=b/\q.2.2=s:=by have :=BE e;obtain⟨q,hq,z⟩:=List.mem_map.mp this;exact⟨q,hq,by rw[z],by rw[z]⟩
theorem IS{P:Program}{w:World}{K:PySem.W.Frag}{mg mb:Str->Option Value}{k:Nat}{fa a:Addr}{fd:FuncData}{x:Str}{sp:Sp}{f:Shared}{vs:List Value}{ns:List Int}{ts:ME}(KX:K.In f.heap)(J:f.heap.Ns mainGlobals mg)(hb:f.heap.Ns builtinsNs mb)(C:∀x:Str,x≠"__name__"->mb x=bootBuiltins x)(I:f.heap.NoLimit)(E:YE mg f.heap)(G:f.gens=#[])(ha:f.heap.get? a=some {cls:= .type "list",data:= .seq vs.toArray})(hi:IntsAre vs ns)(hl:ns.length<=sizeLine)(L:cZ k callerA)(T:TabsOk K f.heap ts)(F:∀base:Heap,m9 P w K mg base bA k fa fd [x] sp)(D:∀(s:Shared)(u:Value),BindsTo s fd ⟨[u],[]⟩ [(x,u)])(M:∀H:Hp,(∀q∈ts,(ts.map (·.2)).lookup q.2.1=some q.2.2->H q.2.1=some (.uQ q.2.2))->bN K H a (ns.map V.int)->sp [.ref a] H (λv _=>v= .bl true) E0):codeAny (model P w) callerA (.call (.ref fa) ⟨[.ref a],[]⟩) (λr s'=>r= .ok (.ret (.bool true))/\OldK f.heap s'.heap/\s'.os=f.os/\AllBare s'.gens) f:=by
 have t:=jX hi;have N:=hi.length;let o:Obj:={cls:= .type "list",data:= .seq vs.toArray};let H:=UM K a o (ns.map V.int) ts;have nT:∀q∈ts,q.2.1≠a:=λq hq z=>by have :=T.emp q hq;rw[z,ha]at this;cases this
 have HT:∀q∈ts,(ts.map (·.2)).lookup q.2.1=some q.2.2->H q.2.1=some (.uQ q.2.2):=λq hq e=>by show(if q.2.1=a/\K.lookup a=none then _ else _)=_;rw[if_neg λz=>nT q hq z.1,e];rfl
 have only:∀b u,H b=some u->(b=a/\K.lookup a=none/\u= .DK o (.lst (ns.map V.int)))\/∃q∈ts,q.2.1=b/\u= .uQ q.2.2:=λb u e=>by
  have e:(if b=a/\K.lookup a=none then some (.DK o (.lst (ns.map V.int)))else((ts.map (·.2)).lookup b).map HO.uQ)=some u:=e;by_cases hb:b=a/\K.lookup a=none;·rw[if_pos hb]at e;exact .inl ⟨hb.1,hb.2,(Option.some.inj e).symm⟩
  ·rw[if_neg hb]at e;obtain⟨s,e1,e2⟩:=Option.map_eq_some_iff.mp e;obtain⟨q,hq,U,W⟩:=MY e1;exact .inr ⟨q,hq,U,by rw[W,e2]⟩
 have objs:∀b u,H b=some u->(b=a)\/f.heap.get? b=some (PySem.W.tabObj #[]):=λb u e=>by
  rcases only b u e with⟨z,_⟩|⟨q,hq,z,_⟩;·exact .inl z
  ·exact .inr (by rw[<-z];exact T.emp q hq)
 have free:∀{b:Addr}{ob:Obj},f.heap.get? b=some ob->ob.data≠ .seq vs.toArray->ob.data≠ .fields #[]->H b=none:=λ{b ob}e Q R=>by
  cases q:H b with
   |none=>rfl
   |some u=>
    rcases objs b u q with z|z;·rw[z,ha]at e;cases e;exact absurd rfl Q
    ·rw[e]at z;cases z;exact absurd rfl R
 have j:∀{b:Addr}{m:Str->Option Value},f.heap.Ns b m->(As f.heap H).Ns b m:=λ{b m}⟨ob,es,ep,e,d,r⟩=>⟨ob,es,ep,ll e (free e (by rw[d];simp) (by rw[d];simp)),d,r⟩;have y:K.In (As f.heap H):=λb ob e=>ll (KX b ob e) (by
  cases q:H b with
   |none=>rfl
   |some u=>
    rcases only b u q with⟨z,Y,_⟩|⟨g,hq,z,_⟩;·rw[z,Y]at e;cases e
    ·rw[<-z,T.out g hq]at e;cases e);have bX:jd P w H f.heap:=λb u e=>by
  rcases only b u e with⟨z,_,rfl⟩|⟨q,hq,z,rfl⟩;·rw[z];exact⟨ha,by rw[c_];exact hl,vs,_,t,ha⟩
  ·obtain⟨X,l,c,ex⟩:=T.tab q hq;rw[ex];exact .inl (by rw[<-z];exact T.emp q hq)
 have B:bN K H a (ns.map V.int):=by cases i:K.lookup a with|none=>refine .inl (.inr ⟨o,?_⟩);show(if a=a/\K.lookup a=none then _ else _)=_;rw[if_pos ⟨rfl,i⟩]|some ob=>have e:=KX a ob i;rw[ha]at e;cases e;exact .inr ⟨_,vs.toArray,_,i,rfl,rfl,rfl,by rw[cM,N];exact hl,by simpa using t⟩
 have A:Mod K mg (As f.heap H):=⟨y,j J,⟨mb,j hb,C⟩,let⟨O,h1,h2⟩:=I;⟨O,j h1,h2⟩,let⟨bm,ob,e1,e2,n,e4⟩:=E;⟨bm,ob,e1,e2,ll n (free n (by rw[e4.2.2];simp) (by rw[e4.2.2];simp)),e4⟩⟩;have e0:Cb P w K mg (As f.heap H) callerA [] f H:=⟨rfl,A,λb ob e=>He e,Nat.le_of_eq (vZ _ _),trivial,λb hb=>absurd (show b∈([]:List Addr)from hb) (by simp),bX, .of_eq G, .inl rfl⟩;refine codeAny_mono ((F _).run callerA [] f H ⟨[.ref a],[]⟩ [.ref a] [.ref a] _ _ L e0 (D f (.ref a)) (.cons rfl .nil) (M H HT B)) λr s' h=>?_;cases r with
  |error e=>exact(show False from h).elim
  |ok fl=>
   cases fl with
    |next=>exact False.elim h
    |brk=>exact False.elim h
    |cont=>exact False.elim h
    |ret u=>
     obtain⟨v,H',os,bare,un,p,S,q⟩:=h;have g:v= .bl true:=q;subst g;obtain rfl:u=Value.bool true:=S;refine⟨rfl,⟨λb ob e=>?_,λb ob e=>un.there b ob e (by simp)⟩,os,bare⟩;cases q:H b with
      |none=>exact .inl (un.keep b ob e q (by intro z;exact absurd (show b∈([]:List Addr)from z) (by simp)) (by simp))
      |some u=>
       rcases only b u q with⟨z,_,rfl⟩|⟨g,hq,z,rfl⟩;·obtain⟨e2,_⟩:=p b _ (un.uc b o _ q);rw[z,ha]at e;cases e;exact .inl e2
       ·obtain⟨X,l,c,ex⟩:=T.tab g hq;have em:=T.emp g hq;rw[z,e]at em;cases em;rw[ex]at q;rcases p b _ (un.uq b _ q)with e2|⟨c',e2,_⟩;·exact .inl e2
        ·exact .inr (.inl ⟨by rw[<-z];exact Ql KX (T.hd g hq),rfl,#[],_,rfl,by rw[Array.empty_append];exact e2⟩)
theorem NZ{l:PySem.W.OpenLaw}{n k:Nat}{q:Program}{loose:List Str}{XP:(Str->Option Value)->Heap->Prop}{YP:World->Heap->Prop}{d:DefRec}{K:Params->PySem.W.Frag}{sp:World->Sp}{x:Str}{ts:ME}(hn:l.most=some n)(p:n<=sizeLine)(j:d.params.defaults=[])(t:cZ k callerA)(i:∀(w:World)(h:Heap),YP w h->(K w.params).In h)(g:∀(w:World)(h:Heap),YP w h->TabsOk (K w.params) h ts)(F:∀(w:World)(mg:Str->Option Value)(fa:Addr)(h:Heap),(K w.params).In h->h.Ns mainGlobals mg->mg d.name=some (.ref fa)->∃fd:FuncData,(∀(s:Shared)(u:Value),BindsTo s fd ⟨[u],[]⟩ [(x,u)])/\∀base:Heap,m9 l.prog w (K w.params) mg base bA k fa fd [x] (sp w))(y:∀(w:World)(H:Hp)(a:Addr)(ns:List Int),ns.length<=n->(∀q∈ts,(ts.map (·.2)).lookup q.2.1=some q.2.2->H q.2.1=some (.uQ q.2.2))->bN (K w.params) H a (ns.map V.int)->sp w [.ref a] H (λv _=>v= .bl true) E0):PySem.W.WalkO q loose XP YP l.row.toRowW d [] (λf vs=>PySem.call f vs):=by refine Att.Dw hn j λw cj B mg mb fa o pm cd doc a vs ns G Y A hd z hmg r hints hlen m=>?_;have KX:=i w _ Y;obtain⟨fd,hb,b⟩:=F w mg fa _ KX G.T.g hmg;exact IS KX G.T.g G.T.b G.T.builtins G.T.nolimit G.T.bmain m r hints (cS hlen p) t (g w _ Y) b hb λH c e=>y w H a ns hlen c e
def Bb(K:PySem.W.Frag)(f T:Addr):Prop:=∃oc od fd DL a,K.lookup f=some ⟨oc,od, .func fd,DL⟩/\fd.code= .ref a/\FR K a T
def Tv(K:PySem.W.Frag)(mg:Str->Option Value)(x:Str)(st:Stmt)(ps:List Str)(T:Addr):Prop:=∃f fd,Q2 K x x st f fd/\mg x=some (.ref f)/\Binds K fd ps []/\Bb K f T
theorem Tv.ok{P:Program}{w:World}{K:PySem.W.Frag}{mg:Str->Option Value}{x:Str}{st:Stmt}{N ps:List Str}{k:Nat}{sp:Sp}{T:Addr}(D:Tv K mg x st ps T)(S:aN N ps (ak st))(len:∀vs H Q E,sp vs H Q E->vs.length=ps.length)(e:∀(base:Heap)(f a:Addr)(A:Around)(outer:List Env)(s:Shared)(H:Hp)(vs:List V)(Q:VK)(E:XK),FR K a T->cZ k (A.deeper (envOfC x (ak st) s.heap.objs.size f (.ref a)))->sp vs H Q E->∃t,gT (eS bA P w K mg base N x (ak st) f (.ref a) A outer s H E).Nc (cC st) t/\t {nx:=λ_ H'=>Q .aP H',rt:=Q} (start N vs) H):bj P w K mg bA x (k+1) ps sp:=by obtain⟨f,fd,F,m,b,n⟩:=D;refine⟨f,fd,λbase=>?_,m,F.kp,b⟩;obtain⟨oc,od,kV,doc,pm,an,cF,ct,DL,rfl,c,g⟩:=F.ex;obtain⟨p,r,o,u,a,d,hc,l⟩:=n;rw[c]at d;cases d;have hc:cF= .ref a:=hc;subst hc;exact Hz c g S len λA outer s H vs Q E i j=>let⟨t,h,q⟩:=e base f a A outer s H vs Q E l i j;⟨t,h.Nc,q⟩
theorem N2{K:PySem.W.Frag}{mg:Str->Option Value}{h:Heap}{x:Str}{st:Stmt}{ps:List Str}{c T:Addr}(D:Df K mg x st ps)(X:K.In h)(G:h.Ns mainGlobals mg)(ht:PySem.W.tabIn K x=some (c,T))(hd:PySem.W.codeHdIn K c T=true):Tv K mg x st ps T:=by obtain⟨f,fd,F,m,b⟩:=D;obtain⟨oc,od,kV,doc,pm,an,cF,ct,DL,rfl,a,d⟩:=id F.ex;exact⟨f,_,F,m,b,oc,od,_,DL,c,a,PySem.W.law_code X G ht m (X _ _ a) rfl,hd⟩
noncomputable def Mj(s:Stmt):Pos:=match s with| .FunctionDef _ _ _ _ _ _ _ _ _ p=>p|_=>⟨0,0,0,0⟩
noncomputable def KY(ps cs:List Str)(names:List (Str×NameKind)):Bool:=names.all (λy=>y.2 != .cell&&(y.2 != .free||cs.contains y.1))&&ps.all (λx=>names.lookup x==some .local)&&cs.all (λx=>names.lookup x==some .free)&&decide (ps++cs).Nodup
theorem oS{ps cs:List Str}{scope:Scope}(h1:scope.kind= .function)(h2:scope.isCoroutine=false)(h3:scope.isGenerator=false)(h:KY ps cs scope.names=true):g_ ps cs scope:=by
 unfold KY at h;simp only[cf,List.all_eq_true,decide_eq_true_eq]at h;obtain⟨⟨⟨a,b⟩,c⟩,d⟩:=h;refine⟨h1,h2,h3,λy g=>?_,λx f=>?_,d,λx f=>?_,λx e=>?_⟩;·simpa using(a y g).1
 ·simpa using b x f
 ·simpa using c x f
 ·have :=(a _ (PySem.mem_of_lookup e)).2;simpa using this
theorem Lj{cl:List (Str×Addr)}(nd:(cl.map (·.2)).Nodup):∀x y a,cl.lookup x=some a->cl.lookup y=some a->x=y:=λx y a h1 h2=>by have c:=PySem.mem_of_lookup h1;have d:=PySem.mem_of_lookup h2;obtain⟨i,hi,e1⟩:=List.mem_iff_getElem.mp c;obtain⟨j,b,e2⟩:=List.mem_iff_getElem.mp d;have :i=j:=(List.getElem_inj (i:=i) (j:=j) (h₀:=by simpa using hi) (h₁:=by simpa using b) nd).mp (by rw[List.getElem_map,List.getElem_map,e1,e2]);subst this;rw[e1]at e2;exact(Prod.mk.inj e2).1
theorem NP{X:Cx}{σ:L2.St}{b':Heap}{f c:Addr}{name qual:Str}{params:Arguments}{body:List Stmt}{scope:Scope}{cl:List (Str×Addr)}{doc pm ct:Value}{cs:List Str}{ws:List V}(B:Ea (A6 X f (og name qual params body scope cl doc pm c ct)) σ b')(k:cl.map (·.1)=cs)(l:(cl.map (·.2)).Nodup)(hl:ws.length=cs.length)(h:∀(i:Nat)(x:Str),cs[i]?=some x->∃(j:Nat)(v:V),ws[i]?=some v/\X.N[j]?=some x/\σ[j]?=some (some v)/\X.env.kindOf x=some .cell/\X.fn x=true/\cl.lookup x=X.env.cells.lookup x):uG b' f c name qual params body scope cs ws cl doc pm ct:=by
 refine⟨B.pin (f,og name qual params body scope cl doc pm c ct) eC,Lj l,λx a e=>?_,λi x e=>?_,hl⟩;·rw[<-k];exact List.mem_map.mpr ⟨_,PySem.mem_of_lookup e,rfl⟩
 ·obtain⟨j,v,e1,e2,b,e4,d,g⟩:=h i x e;obtain⟨a,u,m,n,o⟩:=B.cell j x v e2 b e4 d;exact⟨v,a,u,e1,by rw[g];exact m,n,o⟩
theorem Gv{P:Program}{w:World}{K:PySem.W.Frag}{mg:Str->Option Value}{base:Heap}{k:Nat}{ps cs:List Str}{name qual:Str}{params:Arguments}{body:List Stmt}{scope:Scope}{f c:Addr}{cl:List (Str×Addr)}{doc pm ct:Value}{ws:List V}{sp:Sp}(S:g_ ps cs scope)(C:uG base f c name qual params body scope cs ws cl doc pm ct)(hb:∀us:List Value,us.length=ps.length->bindArgs (PySem.W.fnX name qual params body scope cl .none .none doc pm none (.ref c) ct) ⟨us,[]⟩=pure (ps.zip us))(g:∀vs H Q,sp vs H Q E0->vs.length=ps.length/\H c=some (iJ qual))(b:∀(a:Heap)(A:Around)(outer:List Env)(s:Shared)(H:Hp)(vs:List V)(Q:VK),cZ k (A.deeper (kU qual scope s.heap.objs.size f c cl))->sp vs H Q E0->∃t,gT (Cj bA P w K mg a (ps++cs) qual scope f c cl A outer s H E0) body t/\t {nx:=λ_ H'=>Q .aP H',rt:=Q} (vs.map some++ws.map some) H):nQ P w K mg base (k+1) f sp:=by refine⟨⟨_,_,_,_,C.fo⟩,λa up A outer s H us vs Q d e0 r h=>?_⟩;obtain⟨hl,hc⟩:=g vs H Q h;exact QD S e0 d (C.keeps up) hc hl r (.of_eq (hb us (by rw[<-r.length];exact hl))) λe=>b a A outer s H vs Q e h
noncomputable def UQ(base:Heap)(sp:Heap->Sp)(E:XK)(t:TA):TE:=λσ H Q=>t σ H λvs a=>∀b',(∀b o,base.get? b=some o->b'.get? b=some o)->sp b' vs a Q E
theorem Tw{X:Cx}{base:Heap}{CX:oJ}{x:Str}{k:Nat}{ps:List Str}{sp:Heap->Sp}{E:XK}{e:Expr}{es:List Expr}{t:TA}{p d:Pos}(F:tJ X.prog X.w X.K X.mg CX x k ps sp)(v:cZ k X.A)(n:Gl X x)(w:Passes CX X E)(ha:PA X (e::es) t)(j:(x==("__debug__":Str))=false:=by decide)(l:starEach (e::es) X.env=(false,eval e X.env)::starEach es X.env:=by rfl)(o:(backTo d (starEach es X.env)).any (·.1)=false:=by rfl)(hc:X.calm=true:=by rfl)(i:X.base=base:=by rfl):PE X (.Call (.Name x p) (e::es) [] d) (UQ base sp E t):=by
 subst i;obtain⟨f,fd,F,m,kp,b⟩:=F;intro pins s σ H Q I h;refine wpAny_Call_Name_kw (j4 I n m ?_ j);refine PySem.W.callWith_K (h₀:=X.base) I.ok.mod.JA kp (bQ (ha d pins s σ H _ I h) λus s1⟨vs,c,a,r,q⟩=>⟨a.kS,?_⟩) l o;have q:=q _ (Es a).old;have hl:us.length=ps.length:=by rw[<-r.length];exact(F (z4 s1.heap c (jL X.stack))).len _ _ _ _ q
 have g:=b s1 us a.kS (by rw[nX];exact hl);rw[nX]at g;refine wpAny_call (codeAny_mono ((F _).run X.A X.stack s1 c ⟨us,[]⟩ us vs Q E v (Pe a hc) g r q) λy s' hq=>?_);cases y with|error e=>exact w pins σ c s1 e s' a hq|ok fl=>cases fl with|ret u=>exact a.after hq|next=>exact False.elim hq|brk=>exact False.elim hq|cont=>exact False.elim hq
theorem Tv.OP{P:Program}{w:World}{K:PySem.W.Frag}{mg:Str->Option Value}{x:Str}{st:Stmt}{N ps:List Str}{k:Nat}{sp:Sp}{T:Addr}(D:Tv K mg x st ps T)(S:aN N ps (ak st))(len:∀vs H Q E,sp vs H Q E->vs.length=ps.length)(e:∀(base:Heap)(f a:Addr)(A:Around)(outer:List Env)(s:Shared)(H:Hp)(vs:List V)(Q:VK)(E:XK),FR K a T->cZ k (A.deeper (envOfC x (ak st) s.heap.objs.size f (.ref a)))->sp vs H Q E->∃t,gT (eS (fG P w) P w K mg base N x (ak st) f (.ref a) A outer s H E) (cC st) t/\t {nx:=λ_ H'=>Q .aP H',rt:=Q} (start N vs) H):bj P w K mg (fG P w) x (k+1) ps sp:=by obtain⟨f,fd,F,m,b,n⟩:=D;refine⟨f,fd,λbase=>?_,m,F.kp,b⟩;obtain⟨oc,od,kV,doc,pm,an,cF,ct,DL,rfl,c,g⟩:=F.ex;obtain⟨o,p,l,q,a,d,hc,j⟩:=n;rw[c]at d;cases d;have hc:cF= .ref a:=hc;subst hc;exact Hz c g S len λA outer s H vs Q E h i=>e base f a A outer s H vs Q E j h i
theorem TJ{X:Cx}{f:Addr}{fo:Obj}(hf:∀vs,fo.data≠ .fields vs)(ok:(A6 X f fo).Ok):X.Ok:=⟨ok.mod,ok.kind,ok.glob,ok.blt,ok.above,ok.inj,ok.has,ok.OQ,λh=>by
 rcases ok.hd h with h|⟨a,oe,vs,e1,e2,b⟩;·exact .inl h
 ·refine .inr ⟨a,oe,vs,e1,?_,b⟩;rcases e2 with e2|e2;·exact .inl e2
  ·rcases List.mem_cons.mp e2 with z|z;·cases z;exact absurd b.1 (hf vs)
   ·exact .inr z,ok.frames,ok.Q_,ok.RO,ok.bs,ok.Ba,ok.pS,ok.vx,ok.gZ,ok.Oq⟩
theorem JM{CX:oJ}{X:Cx}{f:Addr}{fo:Obj}{E:XK}(h:Passes CX X E)(hf:∀vs,fo.data≠ .fields vs):Passes CX (A6 X f fo) E:=λpins σ H s e s' I hc=>h pins σ H s e s' (ux (TJ hf I.ok) I) hc
end L3
end
section
namespace K25
open PySem L2 L3 KM PyProof.Rows
seal L2.PE L2.PS L2.gT L2.PT L2.PW L2.PA L2.PG L2.uX L2.PI L2.PC L2.PO L2.DC L2.PK L3.vF L3.PH L3.PB
variable{P:Program}{w:World}{K:PySem.W.Frag}{mg:Str->Option Value}{base:Heap}{t:ve}
def LX(g:Int->Int->D)(Pre:Hp->Prop):Sp:=λvs H Q _=>∃n b:Int,vs=[.int n, .int b]/\0<=n/\0<=b/\Pre H/\∀(v:V)(H':Hp),aL H H'->Rep H' (g n b) v->Q v H'
structure Chg(P:Program)(w:World)(K:PySem.W.Frag)(mg:Str->Option Value)(base:Heap)(kc:Nat)(f:Addr)(g:Int->Int->D)(Pre:Hp->Prop):Prop where
 cal:nQ P w K mg base kc f (LX g Pre)
 st:∀H H',Pre H->aL H H'->Pre H'
noncomputable def gW(x:Str)(i:Nat):Int:=if decide (V.int i=CL x)=true then 1 else 0
theorem kE(x:Str)(i:Nat):0<=gW x i:=by unfold gW;split<;>decide
theorem OX(x:Str)(i:Nat):ly x i= .int (gW x i):=by unfold ly gW;split<;>rfl
noncomputable def gv(g:Int->Int->D):Nat->Int->D->D|n+1,b, .tup (.str x::ps)=>if x="var"then(match ps with|[.int i]=>if b<=i then g (i-b) b else .tup (.str x::ps)|_=> .tup (.str x::ps))else bK x ps ((List.range (av x ps).length).map λi=>gv g n (b+gW x i) (((av x ps)[i]?).getD .aP))|_,_,d=>d
def L1(P:Program)(w:World)(K:PySem.W.Frag)(mg:Str->Option Value)(kc n:Nat)(base:Heap):Sp:=λvs H Q _=>∃(d:D)(v:V)(b:Int)(f:Addr)(g:Int->Int->D)(Pre:Hp->Prop),vs=[v, .int b, .ref f]/\Rep H d v/\Wf d/\depth d<n/\0<=b/\Pre H/\Chg P w K mg base kc f g Pre/\∀(u:V)(H':Hp),aL H H'->Rep H' (gv g n b d) u->Q u H'
theorem my:aN ["thing","binders","change","kids"] ["thing","binders","change"] (ak d_):=⟨rfl,rfl,rfl,by decide+kernel,rfl,by decide+kernel,by decide+kernel⟩
theorem xt{kc n:Nat}(D:Df K mg "with_free" d_ ["thing","binders","change"])(M:Mg mg t)(bg:bj P w K mg bA "kids_of" (1) ["thing"] d6)(iB:bj P w K mg bA "binds_of" (1) ["thing"] xC)(dF:bj P w K mg bA "rebuilt" (1) ["thing","kids"] h_)(e_:tJ P w K mg bA "with_free" (n+kc+3) ["thing","binders","change"] (L1 P w K mg kc n)):tJ P w K mg bA "with_free" (n+kc+4) ["thing","binders","change"] (L1 P w K mg kc (n+1)):=by
 refine D.okB my (λbase vs H Q E h=>?_) (λbase f cF A outer s H vs Q E o h=>?_);·obtain⟨d,v,b,W,g,Pre,rfl,_⟩:=h;rfl
 obtain⟨d,v,b,W,g,Pre,rfl,r,wfd,hd,hb,hp,C,q⟩:=h;have X:=C.cal;obtain⟨x,ps,k,rfl,wf,qB⟩:=d7 wfd;have Xf:=oH wf;obtain⟨a,JE,rfl,ha,v0,JE,rfl,⟨rfl,hx⟩,rp⟩:=id r;have ea:kZ (V.str x::JE) 0=some (.str x):=aO (j:=0) rfl;refine⟨_,(ag (bu (aD bP (aS aR (pv 0) ah (λ_ _=>rfl)) aE (aG _)) (ai (aw (ig (aD N9 (aS aR (pv 0) ah (λ_ _=>rfl)) (pv 1) (aG _)) (NC (i:=2) X o.m rfl (by first|exact Or.inl rfl|exact Or.inr (Or.inl rfl)|exact Or.inr (Or.inr rfl)) (aa (aQ bM (aS aR (pv 0) ah (λ_ _=>rfl)) (pv 1)) (aa (pv 1) af))) (pv 0)))) aM) (ag (O1 (ix:=3) (N':=["kid","bound","change","binders"]) (own:=2) (fr:=[2,1]) my.nd rfl rfl rfl (iI (N:=["thing","binders","change","kids"]) (sc:=ak d_) rfl rfl rfl (by decide+kernel)) (Pl rfl M.Rb (aa (ay bg o.m rfl aC (aa (pv 0) af)) (aa (ay iB o.m rfl aC (aa (pv 0) af)) af))) (uM (n:=2) (by decide) (by decide)) (λ_ _ _=>(nV (n:=2) rfl (cP (bI (i:=0) (show List.Nodup (["kid","bound","change","binders"]:List Str)by decide+kernel) rfl (Or.inl rfl)) (cP (bI (i:=1) (show List.Nodup (["kid","bound","change","binders"]:List Str)by decide+kernel) rfl (Or.inl rfl)) jV)))) (λ_ _ _=>gG) (λ_ _ _=>(Tw (base:=base) e_ o.m rfl aC (aa (pv 0) (aa (aQ cy (pv 3) (pv 1)) (aa (pv 2) af)))))) (ai (aw (ay dF o.m rfl aC (aa (pv 0) (aa (pv 3) af))))))),?_⟩;try dsimp only[gL,cG]
 refine El ?_;intro _ _ _;refine⟨_,rfl,a,_,_,_,rfl,rfl,bS.of ha,ea,rfl,_,rfl,?_⟩;refine aV (λc=>?_) (λc=>?_)
 ·have c:V.str x=V.str "var":=of_decide_eq_true c;cases c;obtain⟨sh,e1,_,I,_,J,_⟩:=bB wf;rw[eg]at e1;cases e1;rw[tY]at I J;obtain⟨m,rfl⟩:∃m,ps=[m]:=by cases ps with|nil=>simp at J|cons m rest=>cases rest with|nil=>exact⟨m,rfl⟩|cons _ _=>simp at J
  rw[az,cf]at I;have hn:iq m=true:=by simpa[cO]using I.1
  obtain⟨i,rfl⟩:∃i,m= .int i:=by cases m<;>first|exact⟨_,rfl⟩|simp[iq]at hn
  obtain⟨u1,us1,rfl,F,_⟩:=rp;cases(show u1=V.int i from F);have h0:0<=i:=by simpa[iq]using hn
  have e:gv g (n+1) b (.tup [.str "var", .int i])=if b<=i then g (i-b) b else .tup [.str "var", .int i]:=by rw[gv,if_pos rfl]
  rw[e]at q;refine⟨_,rfl,a,_,_, .int i,rfl,rfl,bS.of ha,aO (j:=1) rfl,_,rfl,_,_,rfl,rfl,_,rfl,?_⟩;refine aV (λc=>?_) (λc=>?_);·have c:b<=i:=of_decide_eq_true c;rw[if_pos c]at q;exact⟨rfl,_,rfl,a,_,_, .int i,rfl,rfl,bS.of ha,aO (j:=1) rfl,_,rfl,_,_,rfl,rfl,_,rfl,i-b,b,rfl,by omega,hb,hp,q⟩
  ·have c:¬b<=i:=of_decide_eq_false (Bool.eq_false_iff.mpr c);rw[if_neg c]at q;exact⟨_,rfl,q _ H (aL.refl H) r⟩
 have hv:x≠"var":=λz=>c (by rw[z];exact decide_eq_true rfl);have e:gv g (n+1) b (.tup (.str x::ps))=bK x ps ((List.range (av x ps).length).map λi=>gv g n (b+gW x i) (((av x ps)[i]?).getD .aP)):=by
  conv=>lhs;unfold gv
  exact if_neg hv
 rw[e]at q;refine⟨_,rfl,x,ps,_,rfl,r,qB,λp1 us H1 _ s1 h1 F=>⟨_,rfl,x,ps,_,k,rfl,r.mono s1,wf,λp2 H2 s2 h2=>⟨p1,p2,us,_,rfl,bN.of (s2 _ _ h1),bN.of h2,λp3 J_=>?_⟩⟩⟩;have l1:=F.length;have S:=s1.trans s2;have L:=s2 _ _ h1;refine vP (av x ps).length (λi=>gv g n (b+gW x i) (((av x ps)[i]?).getD .aP)) J_ (cS Xf (by decide)) (λi H3 hi l=>?_) λacc H3 l h3 r3=>⟨⟨us,_,bN.of (l _ _ L),bN.of (l _ _ h2),by omega⟩,?_⟩
 ·obtain⟨G,O⟩:∃G,(av x ps)[i]?=some G:=⟨_,e8 hi⟩;obtain⟨T,GA,Jj⟩:=F.get O;have Z:(E5 x (av x ps).length)[i]?=some (.int (gW x i)):=by unfold E5;rw[nY,List.getElem?_range hi];show some (ly x i)=_;rw[OX]
  refine⟨⟨us,_,T,_,bN.of (l _ _ L),bN.of (l _ _ h2),GA,Z⟩,?_⟩;rintro y U⟨p,x',y',rfl,hpn,rfl,hy⟩R Y;obtain⟨y1,y2⟩:=hy us _ (bN.of (l _ _ L)) (bN.of (l _ _ h2));rw[GA]at y1;rw[Z]at y2;cases y1;cases y2;have B:=ar hpn (.tup [T, .int (gW x i)]);obtain⟨w1,w2⟩:=eQ wf O;rw[O]at Y;have sa:=S.trans (l.trans B);refine⟨p,_,rfl,bS.of aq,rfl,_,_,rfl,_,_,rfl,rfl,?_⟩;exact⟨_,rfl,_,rfl,_,rfl,_,_,rfl,rfl,_,rfl,λb' up=>⟨G,T,b+gW x i,W,g,Pre,rfl,Jj.mono (s2.trans (l.trans B)),w1,by omega,by have :=kE x i;omega,C.st _ _ hp sa,⟨X.up up,C.st⟩,λu H5 s5 r5=>Y u H5 (B.trans s5) r5⟩⟩
 ·refine⟨_,rfl,_,rfl,x,ps,_,_,p3,acc,rfl,r.mono (S.trans l),h3,r3,by rw[c_,List.length_range];omega,λu U B r4=>q u U (S.trans (l.trans B)) r4⟩
theorem jC{kc:Nat}(D:Df K mg "with_free" d_ ["thing","binders","change"])(M:Mg mg t)(c:bj P w K mg bA "kids_of" (1) ["thing"] d6)(a:bj P w K mg bA "binds_of" (1) ["thing"] xC)(e:bj P w K mg bA "rebuilt" (1) ["thing","kids"] h_):∀n:Nat,tJ P w K mg bA "with_free" (n+kc+3) ["thing","binders","change"] (L1 P w K mg kc n)|0=>tJ.never D λbase vs H Q E⟨d,v,b,f,g,Pre,_,_,_,h,_⟩=>absurd h (jf _)|n+1=>by have :=xt (kc:=kc) D M c a e (jC D M c a e n);rwa[show n+1+kc+3=n+kc+4 by omega]
noncomputable abbrev jb:Stmt:=(cC jM).getD 0 (.Pass ⟨0,0,0,0⟩)
theorem nc:g_ ["number","binders"] ["low","by"] (ak jb):=oS rfl rfl rfl (by decide+kernel)
noncomputable def lj(a low:Int)(n b:Int):D:= .tup [.str "var", .int (n+b+(if low<=n then a else 0))]
noncomputable def De:Str:="raised.<locals>.change"
noncomputable def B4:Pos:=Mj jb
def Br(T:Addr)(n:Nat):Sp:=λvs H Q _=>∃(d:D)(v:V)(a low:Int),vs=[v, .int a, .int low]/\Rep H d v/\Wf d/\depth d<n/\i8 H T De B4/\∀(u:V)(H':Hp),aL H H'->Rep H' (gv (lj a low) n 0 d) u->Q u H'
theorem wU:aN ["thing","by","low","change"] ["thing","by","low"] (ak jM):=⟨rfl,rfl,rfl,by decide+kernel,rfl,by decide+kernel,by decide+kernel⟩
theorem M8{n:Nat}{T:Addr}(D:Tv K mg "raised" jM ["thing","by","low"] T)(M:Mg mg t)(o:tJ P w K mg bA "with_free" (n+1+3) ["thing","binders","change"] (L1 P w K mg 1 n)):bj P w K mg bA "raised" (n+5) ["thing","by","low"] (Br T n):=by
 refine D.ok wU (λvs H Q E h=>?_) (λbase f O A outer s H vs Q E I m h=>?_);·obtain⟨d,v,a,low,rfl,_⟩:=h;rfl
 obtain⟨d,v,a,low,rfl,r,L,hd,F,q⟩:=h;refine⟨_,(HK (i:=3) (qual:=De) I rfl wU.nd rfl rfl rfl rfl (λj c doc pm ct=>(ai (aw (KI o m.m rfl aC (aa (pv 0) (aa ah (aa (pv 3) af)))))))),?_⟩;try dsimp only[gL,R]
 refine⟨F,λj c doc pm ct y s1 hc=>?_⟩;refine⟨v,rfl,_,rfl,λb' B=>?_⟩;refine⟨d,v,0,j,lj a low,λH'=>H' c=some (iJ De),rfl,r.mono s1,L,hd,Int.le_refl 0,hc,⟨?_,λy g h s=>s _ _ h⟩,λu g s2 J=>q u g (s1.trans s2) J⟩;have C:=NP (cs:=["low","by"]) (ws:=[.int low, .int a]) B rfl (by simp) rfl λi x e=>by match i,e with|0,e=>cases e;exact⟨2,_,rfl,rfl,rfl,rfl,rfl,rfl⟩|1,e=>cases e;exact⟨1,_,rfl,rfl,rfl,rfl,rfl,rfl⟩|i+2,e=>simp at e
 refine Gv (k:=0) nc C (λus hl=>match us,hl with|[_,_],_=>rfl) (λvs H Q⟨n,b,e,_,_,h,_⟩=>⟨by rw[e];rfl,h⟩) λN A outer s H vs Q m h=>?_;obtain⟨n,b,rfl,S,hb,_,q⟩:=h;refine⟨_,(ai (aw (aZ (aa aE (aa (aQ cy (aQ cy (pv 0) (pv 1)) (ig (aD N9 (pv 0) (pv 2) (aG _)) (pv 3) ah)) af))))),?_⟩;refine⟨_,rfl,_,rfl,_,_,rfl,rfl,_,rfl,_,rfl,_,_,rfl,rfl,_,rfl,?_⟩;have fin:∀z:Int,z=(if low<=n then a else 0)->∀p,H p=none->Q (.ref p) (upd H p (.tup [.str "var", .int (n+b+z)])):=λz G p l=>by refine q _ _ (ar l _) ?_;rw[G];exact fO l (rs ky (rs ri r0))
 refine aV (λc=>?_) (λc=>?_);·have c:low<=n:=of_decide_eq_true c;exact⟨_,rfl,_,_,rfl,rfl,(dw rfl),fin a (by rw[if_pos c])⟩
 ·have c:¬low<=n:=of_decide_eq_false (Bool.eq_false_iff.mpr c);exact⟨_,_,rfl,rfl,(dw rfl),fin 0 (by rw[if_neg c])⟩
theorem CN{x:Str}{ps:List D}{k:Bool}(wf:bh ao k (.tup (.str x::ps))=true)(f:Nat->D)(d:∀(i:Nat)(p:D)(c:Nat),(av x ps)[i]?=some p->cO ao c p=true->(c=107\/c=116)->cO ao c (f i)=true):bh ao k (bK x ps ((List.range (av x ps).length).map f))=true:=by
 unfold bK;by_cases hq:(List.range (av x ps).length).map f=[];·rw[if_pos hq];exact wf
 rw[if_neg hq];obtain⟨r,h1,h2,h3,h4,h5,h6,m,_⟩:=bB wf;have g:bC x=false:=by cases e:bC x with|false=>rfl|true=>exact absurd (by unfold av;rw[if_pos e];rfl) hq
 have l:av x ps=ps:=by unfold av;rw[g];rfl
 refine cH h1 h2 ?_;rw[l]at d⊢;have o:∀(cs:List Nat)(a:List D)(j:Nat),dQ ao cs a=true->(∀c∈cs,c=107\/c=116)->(∀(i:Nat)(p:D)(c:Nat),a[i]?=some p->cO ao c p=true->(c=107\/c=116)->cO ao c (f (j+i))=true)->dQ ao cs ((List.range' j a.length).map f)=true:=λcs=>by
  induction cs with
   |nil=>intro a j h _ _;cases a with|nil=>exact h|cons _ _=>simp[dQ]at h
   |cons c cs n=>intro a j h hc hf;cases a with|nil=>simp[dQ]at h|cons q a=>rw[az,cf]at h;rw[hV,List.range'_succ,eF,az,cf];refine⟨by have :=hf 0 q c rfl h.1 (hc c eC);rwa[Nat.add_zero]at this,n a (j+1) h.2 (λc h=>hc c (dX _ h)) λi p c' e1 e2 b=>?_⟩;have :=hf (i+1) p c' (by simpa using e1) e2 b;rwa[show j+1+i=j+(i+1)by omega]
 have :=o r.cps.toList ps 0 h3 (λc hc=>m g c hc) λi p c e1 e2 b=>by rw[Nat.zero_add];exact d i p c e1 e2 b
 rwa[<-List.range_eq_range']at this
theorem Lw{x:Str}{ps:List D}{k:Bool}(wf:bh ao k (.tup (.str x::ps))=true)(f:Nat->D)(c:∀(i:Nat)(p:D),(av x ps)[i]?=some p->aJ (f i)=aJ p/\depth (f i)=depth p):aJ (bK x ps ((List.range (av x ps).length).map f))=aJ (.tup (.str x::ps))/\depth (bK x ps ((List.range (av x ps).length).map f))=depth (.tup (.str x::ps)):=by
 unfold bK;by_cases hq:(List.range (av x ps).length).map f=[];·rw[if_pos hq];exact⟨rfl,rfl⟩
 rw[if_neg hq];have m:bC x=false:=by cases e:bC x with|false=>rfl|true=>exact absurd (by unfold av;rw[if_pos e];rfl) hq
 have d:av x ps=ps:=by unfold av;rw[m];rfl
 rw[d]at c⊢;have l:∀(a:List D)(j:Nat),(∀(i:Nat)(p:D),a[i]?=some p->aJ (f (j+i))=aJ p/\depth (f (j+i))=depth p)->aK ((List.range' j a.length).map f)=aK a/\aB ((List.range' j a.length).map f)=aB a:=λa=>by
  induction a with
   |nil=>intro _ _;exact⟨rfl,rfl⟩
   |cons q a g=>
    intro j h;obtain⟨a1,a2⟩:=g (j+1) λi p e=>by have :=h (i+1) p (by simpa using e);rwa[show j+1+i=j+(i+1)by omega]
    obtain⟨b1,b⟩:=h 0 q rfl;rw[Nat.add_zero]at b1 b;rw[hV,List.range'_succ,eF,aK,aB,aK,aB,a1,a2,b1,b];exact⟨rfl,rfl⟩
 have :=l ps 0 λi p e=>by rw[Nat.zero_add];exact c i p e
 rw[<-List.range_eq_range']at this;simp only[aJ,aK,depth,aB];rw[this.1,this.2];exact⟨rfl,rfl⟩
theorem jT{k:Bool}{ps:List D}(wf:bh ao k (.tup (.str "var"::ps))=true):∃i:Int,ps=[.int i]/\0<=i/\k=false:=by
 obtain⟨d,e1,e2,b,_,c,_⟩:=bB wf;rw[eg]at e1;cases e1;rw[tY]at b c;obtain⟨a,rfl⟩:∃a,ps=[a]:=by cases ps with|nil=>simp at c|cons a rest=>cases rest with|nil=>exact⟨a,rfl⟩|cons _ _=>simp at c
 rw[az,cf]at b;have hn:iq a=true:=by simpa[cO]using b.1
 obtain⟨i,rfl⟩:∃i,a= .int i:=by cases a<;>first|exact⟨_,rfl⟩|simp[iq]at hn
 exact⟨i,rfl,by simpa[iq]using hn,by rw[<-e2];exact uu⟩
theorem G9{z:Int}(h:0<=z):bh ao false (.tup [.str "var", .int z])=true:=by refine cH eg uu ?_;rw[tY,az];simp[cO,iq,h,dQ]
theorem Lc{c:Nat}{p:D}(h:cO ao c p=true)(hc:c=107\/c=116):∃k,bh ao k p=true/\∀q,bh ao k q=true->cO ao c q=true:=by
 rcases hc with rfl|rfl;·exact⟨true,h,λq hq=>hq⟩
 ·exact⟨false,h,λq hq=>hq⟩
theorem n6{a low:Int}(g:0<=a):∀(n:Nat)(b:Int)(d:D)(k:Bool),0<=b->depth d<n->bh ao k d=true->bh ao k (gv (lj a low) n b d)=true/\aJ (gv (lj a low) n b d)=aJ d/\depth (gv (lj a low) n b d)=depth d
 |0,_,_,_,_,h,_=>absurd h (jf _)
 |n+1,b,d,k,hb,hd,wf=>by
  obtain⟨x,ps,rfl⟩:=cU wf;by_cases j:x="var"
  ·subst j;obtain⟨i,rfl,hi,rfl⟩:=jT wf;have e:gv (lj a low) (n+1) b (.tup [.str "var", .int i])=if b<=i then lj a low (i-b) b else .tup [.str "var", .int i]:=by rw[gv,if_pos rfl]
   rw[e];split;·unfold lj;refine⟨G9 ?_,by simp[aJ,aK],by simp[depth,aB]⟩;split<;>omega
   ·exact⟨wf,rfl,rfl⟩
  ·have e:gv (lj a low) (n+1) b (.tup (.str x::ps))=bK x ps ((List.range (av x ps).length).map λi=>gv (lj a low) n (b+gW x i) (((av x ps)[i]?).getD .aP)):=by
    conv=>lhs;unfold gv
    exact if_neg j
   rw[e];refine⟨CN wf _ λi p c e1 e2 m=>?_,Lw wf _ λi p e1=>?_⟩;·obtain⟨l,o⟩:=eQ wf e1;obtain⟨f,h1,h2⟩:=Lc e2 m;rw[e1];exact h2 _ (n6 g n (b+gW x i) p f (by have :=kE x i;omega) (by omega) h1).1
   ·obtain⟨⟨f,l⟩,o⟩:=eQ wf e1;rw[e1];exact(n6 g n (b+gW x i) p f (by have :=kE x i;omega) (by omega) l).2
noncomputable abbrev jc:Stmt:=(cC jm).getD 0 (.Pass ⟨0,0,0,0⟩)
theorem nG:g_ ["number","binders"] ["other","at"] (ak jc):=oS rfl rfl rfl (by decide+kernel)
noncomputable def jh(o:D)(at_:Int)(n b:Int):D:=if n=at_ then gv (lj b 0) 58 0 o else .tup [.str "var", .int (n+b-(if at_<n then 1 else 0))]
noncomputable def wV:Str:="put_in.<locals>.change"
noncomputable def vN:Pos:=Mj jc
noncomputable abbrev zW(o:D)(at_:Int)(d:D):D:=gv (jh o at_) 58 0 d
noncomputable abbrev cR(d:D):Bool:=c7 d||dv d
structure abL(H:Hp)(T1 T2:Addr)(at_:Int)(d o:D)(v u:V):Prop where
 r:Rep H d v
 ro:Rep H o u
 wf:Wf d
 wfo:Wf o
 dp:depth d<58
 dpo:depth o<58
 rz:Rz (zW o at_ d) 100
 t1:i8 H T1 De B4
 t2:i8 H T2 wV vN
def FP(C T1 T2:Addr):Sp:=λvs H Q E=>∃(d o:D)(v u:V)(at_:Int),vs=[v,u, .int at_]/\abL H T1 T2 at_ d o v u/\(∀(z:V)(H':Hp),aL H H'->cR (zW o at_ d)=false->Rep H' (zW o at_ d) z->Q z H')/\(∀H',aL H H'->cR (zW o at_ d)=true->E (.ref C) none H')
theorem vM:aN ["thing","other","at","change"] ["thing","other","at"] (ak jm):=⟨rfl,rfl,rfl,by decide+kernel,rfl,by decide+kernel,by decide+kernel⟩
theorem MU{T1 T2:Addr}(D:Tv K mg "put_in" jm ["thing","other","at"] T2)(M:Mg mg t)(G:bj P w K mg bA "raised" (63) ["thing","by","low"] (Br T1 58))(J:tJ P w K mg bA "with_free" (58+64+3) ["thing","binders","change"] (L1 P w K mg 64 58))(F:bj P w K mg (fG P w) "bounded" (104) ["thing"] (nC t.dM 100)):bj P w K mg (fG P w) "put_in" (126) ["thing","other","at"] (FP t.dM T1 T2):=by
 refine D.OP vM (λvs H Q E h=>?_) (λbase f X A outer s H vs Q E T a h=>?_);·obtain⟨d,o,v,u,at_,rfl,_⟩:=h;rfl
 obtain⟨d,o,v,u,at_,rfl,I,q,U⟩:=h;refine⟨_,(HK (i:=3) (qual:=wV) T rfl vM.nd rfl rfl rfl rfl (λm c doc pm ct=>(ai (aw (ay F a.m rfl (JM dg (λ_ z=>nomatch z)) (aa (KI J a.m rfl aC (aa (pv 0) (aa ah (aa (pv 3) af)))) af)))))),?_⟩;try dsimp only[gL,Y]
 refine⟨I.t2,λm c doc pm ct L s1 hc=>?_⟩;refine⟨v,rfl,_,rfl,λb' B=>?_⟩;refine⟨d,v,0,m,jh o at_,λH'=>H' c=some (iJ wV)/\Rep H' o u/\i8 H' T1 De B4,rfl,I.r.mono s1,I.wf,I.dp,Int.le_refl 0,⟨hc,I.ro.mono s1,I.t1.mono s1⟩,⟨?_,λL N h s=>⟨s _ _ h.1,h.2.1.mono s,h.2.2.mono s⟩⟩,λz N s2 y=>?_⟩;rotate_left;·exact⟨_,z,rfl,y,I.rz,λj g l=>q z j (s1.trans (s2.trans g)) l (y.mono g),λj g l=>U j (s1.trans (s2.trans g)) l⟩
 have C:=NP (cs:=["other","at"]) (ws:=[u, .int at_]) B rfl (by simp) rfl λi x e=>by match i,e with|0,e=>cases e;exact⟨1,_,rfl,rfl,rfl,rfl,rfl,rfl⟩|1,e=>cases e;exact⟨2,_,rfl,rfl,rfl,rfl,rfl,rfl⟩|i+2,e=>simp at e
 refine Gv (k:=63) nG C (λus hl=>match us,hl with|[_,_],_=>rfl) (λvs H Q⟨n,b,e,_,_,h,_⟩=>⟨by rw[e];rfl,h.1⟩) λW A outer s H vs Q a h=>?_;obtain⟨n,b,rfl,Z,hb,⟨_,R,O⟩,q⟩:=h;refine⟨_,(ag (bu (aD bP (pv 0) (pv 3) (aG _)) (ai (aw (ay G a.m rfl aC (aa (pv 2) (aa (pv 1) (aa ah af)))))) aM) (ai (aw (aZ (aa aE (aa (aQ bM (aQ cy (pv 0) (pv 1)) (ig (aD uH (pv 0) (pv 3) (aG _)) ah ah)) af)))))),?_⟩;unfold jh at q;refine⟨_,rfl,_,rfl,rfl,_,rfl,?_⟩;refine aV (λc=>?_) (λc=>?_)
 ·have c:n=at_:=by have :V.int n=V.int at_:=of_decide_eq_true c;injection this
  rw[if_pos c]at q;exact⟨_,rfl,_,rfl,o,u,b,0,rfl,R,I.wfo,I.dpo,O,q⟩
 have c:¬n=at_:=λz=>c (by rw[z];exact decide_eq_true rfl);rw[if_neg c]at q;refine⟨_,rfl,_,rfl,_,_,rfl,rfl,_,rfl,_,rfl,_,_,rfl,rfl,_,rfl,?_⟩;have fin:∀z:Int,z=(if at_<n then 1 else 0)->∀p,H p=none->Q (.ref p) (upd H p (.tup [.str "var", .int (n+b-z)])):=λz S p r=>by refine q _ _ (ar r _) ?_;rw[S];exact fO r (rs ky (rs ri r0))
 refine aV (λc=>?_) (λc=>?_);·have c:at_<n:=of_decide_eq_true c;exact⟨_,_,rfl,rfl,(dw rfl),fin 1 (by rw[if_pos c])⟩
 ·have c:¬at_<n:=of_decide_eq_false (Bool.eq_false_iff.mpr c);exact⟨_,_,rfl,rfl,(dw rfl),fin 0 (by rw[if_neg c])⟩
end K25
end
section
namespace L3
open PySem PySem.Spec PyProof.Rows L2 KM
end L3
end
section
namespace L3
open PySem
end L3
end
section
namespace L3
open PySem PySem.Spec PyProof.Rows L2 KM
section
variable{X:Cx}
variable{e:Expr}{es:List Expr}{te:TE}{st:Stmt}{rest:List Stmt}{t u:TS}{pos:Pos}
end
structure aca(P:Program)(w:World)(K:PySem.W.Frag)(mg:Str->Option Value)(base:Heap)(CX:oJ)(k:Nat)(f:Addr)(fd:FuncData)(ps:List Str)(sp:Sp):Prop where
 len:∀vs H Q E,sp vs H Q E->vs.length=ps.length
 run:∀(A:Around)(outer:List Env)(s:Shared)(H:Hp)(args:Args)(us:List Value)(vs:List V)(Q:VK)(E:XK),0<s.toks->cZ k A->Cb P w K mg base A outer s H->BindsTo s fd args (ps.zip us)->Vals vs us->sp vs H Q E->codeAny (model P w) A (.call (.ref f) args) (CR CX A.handled outer P w H s Q E) s
section
variable{X:Cx}
end
end L3
end
section
namespace L3
open PySem PySem.Spec PyProof.Rows L2
section
variable{prog:Program}{w:World}{A:Around}{E:Value->Shared->Prop}{s:Shared}
end
noncomputable def T8(K:PySem.W.Frag):R2:=λx y H Q=>∃p q xs,x= .ref p/\y= .ref q/\bN K H p xs/\bN K H q []/\Q (.bl (decide (xs=[]))) H
theorem lW{X:Cx}(o:X.A.units+1<cLine):ji X (compareOp .Eq) (T8 X.K):=by
 intro pins s σ H x y v u Q I m n h;obtain⟨p,q,xs,rfl,rfl,g,i,h⟩:=h;cases m;cases n;obtain⟨r,k,d,_⟩:=I.list g;obtain⟨b,l,f,_⟩:=I.list i;have t:=k.length;have c:=l.length;have c:b.length=0:=c.symm;by_cases a:xs=[]
 ·rw[decide_eq_true a]at h;subst a;refine SeqAt.eq_listAt d.isList f.isList (e:=λ_=>true) (by simp;lia) (by lia) (λj h1 h2=>?_) ⟨.bl true,H,I,?_,h⟩
  ·have :j<b.length:=by simpa using h2
   lia
  ·show Value.bool _=Value.bool true;congr 1;simp
 ·rw[decide_eq_false a]at h;have :xs.length≠0:=λz=>a (List.length_eq_zero_iff.mp z);exact SeqAt.RcAt.lists_lengths d.isList f.isList (by simp;lia) (by lia) _ _ _ _ ⟨.bl false,H,I,rfl,h⟩
end L3
end
section
namespace K25
open PySem L2 L3 KM PyProof.Rows
seal L2.PE L2.PS L2.gT L2.PT L2.PW L2.PA L2.PG L2.uX L2.PI L2.PC L2.PO L2.DC L2.PK L3.vF L3.PH L3.PB
variable{P:Program}{w:World}{K:PySem.W.Frag}{mg:Str->Option Value}{base:Heap}{t:ve}
noncomputable abbrev vz:=List Nat×Str
noncomputable def abz:V->Option Str| .str y=>some y|_=>none
noncomputable def dJ(inb:Str->Bool)(d:D):Option Str:=abz (bG inb d)
theorem cE(inb:Str->Bool)(d:D):(bG inb d= .aP/\dJ inb d=none)\/∃y:Str,bG inb d= .str y/\dJ inb d=some y/\y.length<=1000/\uZ (.str y)=true:=by
 have st:∀y:Str,bG inb d= .str y->y.length<=1000->uZ (.str y)=true->(bG inb d= .aP/\dJ inb d=none)\/∃y:Str,bG inb d= .str y/\dJ inb d=some y/\y.length<=1000/\uZ (.str y)=true:=λy e h1 h2=> .inr ⟨y,e,by unfold dJ;rw[e];rfl,h1,h2⟩;have b:bG inb d= .aP->(bG inb d= .aP/\dJ inb d=none)\/∃y:Str,bG inb d= .str y/\dJ inb d=some y/\y.length<=1000/\uZ (.str y)=true:=λe=> .inl ⟨e,by unfold dJ;rw[e];rfl⟩;have cs:bG inb d= .aP\/∃y∈(["name","fun","like","first","second","zero","next"]:List Str),bG inb d= .str y:=by
  unfold bG;split
  ·unfold bZ GG;repeat' split
   all_goals first|exact .inl rfl|exact .inr ⟨_,by decide+kernel,rfl⟩
  ·exact .inl rfl
 rcases cs with h|⟨y,a,h⟩;·exact b h
 ·have hb:y.length<=1000/\uZ (.str y)=true:=by simp only[eB,fH,or_false]at a;rcases a with rfl|rfl|rfl|rfl|rfl|rfl|rfl<;>exact⟨by decide+kernel,by decide+kernel⟩
  exact st y h hb.1 hb.2
noncomputable def Mh(r:vz):D:= .tup [Uj r.1, .str r.2]
theorem IJ{H:Hp}{i:Nat}{pl:List Nat}{a:Addr}{vs:List V}(h:H a=some (.tup (V.int i::vs)))(r:bE H (pl.map λi=>D.int (i:Nat)) vs):Rep H (Uj (i::pl)) (.ref a):=⟨a,_,rfl,h,_,_,rfl,rfl,r⟩
mutual noncomputable def cq(inb:Str->Bool):D->Option vz
 | .tup (.str x::ps)=>match dJ inb (.tup (.str x::ps))with|some y=>some ([],y)|none=>if bC x=true then none else gh inb 0 ps
 |_=>none noncomputable def gh(inb:Str->Bool):Nat->List D->Option vz|_,[]=>none|i,d::ds=>match cq inb d with|some r=>some (i::r.1,r.2)|none=>gh inb (i+1) ds end
theorem GP(inb:Str->Bool)(x:Str)(ps:List D):cq inb (.tup (.str x::ps))=match dJ inb (.tup (.str x::ps))with|some y=>some ([],y)|none=>gh inb 0 (av x ps):=by
 rw[cq];cases dJ inb (.tup (.str x::ps))with
  |some y=>rfl
  |none=>
   show(if bC x=true then none else gh inb 0 ps)=gh inb 0 (av x ps);unfold av;split;·rw[gh]
   ·rfl
noncomputable def FsV(H:Hp):Option vz->V->Prop|none,u=>u= .aP|some r,u=>Rep H (Mh r) u
mutual theorem Hg(inb:Str->Bool):∀(d:D)(r:vz),cq inb d=some r->r.1.length<depth d/\r.2.length<=1000
 | .tup (.str x::ps),r,h=>by
  rw[cq]at h;rcases cE inb (.tup (.str x::ps))with⟨_,e⟩|⟨y,_,e,hy,_⟩
  ·rw[e]at h;have h:(if bC x=true then none else gh inb 0 ps)=some r:=h;split at h;·cases h
   ·have :=CQ inb ps 0 r h;simp only[depth,aB];omega
  ·rw[e]at h;have h:some (([]:List Nat),y)=some r:=h;cases h;exact⟨by simp only[depth];show 0<_;omega,hy⟩
 | .tup [],r,h=>by simp[cq]at h
 | .tup (.aP::_),r,h=>by simp[cq]at h
 | .tup (.bl _::_),r,h=>by simp[cq]at h
 | .tup (.int _::_),r,h=>by simp[cq]at h
 | .tup (.tup _::_),r,h=>by simp[cq]at h
 | .aP,r,h=>by simp[cq]at h
 | .bl _,r,h=>by simp[cq]at h
 | .int _,r,h=>by simp[cq]at h
 | .str _,r,h=>by simp[cq]at h theorem CQ(inb:Str->Bool):∀(ds:List D)(i:Nat)(r:vz),gh inb i ds=some r->r.1.length<=aB ds/\r.2.length<=1000|[],i,r,h=>by rw[gh]at h;cases h|d::ds,i,r,h=>by rw[gh]at h;simp only[aB];cases e:cq inb d with|some q=>rw[e]at h;have h:some ((i::q.1,q.2):vz)=some r:=h;cases h;have :=Hg inb d q e;exact⟨by show q.1.length+1<=_;omega,this.2⟩|none=>rw[e]at h;have :=CQ inb ds (i+1) r h;exact⟨by omega,this.2⟩end
def qU(n:Nat):Sp:=λvs H Q _=>∃(d:D)(v:V)(b:Addr)(aF:List (Key×V)),vs=[v, .ref b]/\Rep H d v/\Rz d n/\n<=100/\H b=some (.dK aF)/\∀(u:V)(H':Hp),aL H H'->FsV H' (cq (eU aF) d) u->Q u H'
theorem dU:aN ["thing","book","rule","number","kid","step"] ["thing","book"] (ak eI):=⟨rfl,rfl,rfl,by decide+kernel,rfl,by decide+kernel,by decide+kernel⟩
theorem u7{n:Nat}(D:Df K mg "first_step" eI ["thing","book"])(M:Mg mg t)(cL:bj P w K mg bA "rule_of" (1) ["thing","book"] nA)(bg:bj P w K mg bA "kids_of" (1) ["thing"] d6)(fF:bj P w K mg bA "first_step" (n+3) ["thing","book"] (qU n)):bj P w K mg bA "first_step" (n+4) ["thing","book"] (qU (n+1)):=by
 refine D.ok dU (λvs H Q E h=>?_) (λbase f cF A outer s H vs Q E z h=>?_);·obtain⟨d,v,b,aF,rfl,_⟩:=h;rfl
 obtain⟨d,v,b,aF,rfl,r,rz,hn,hb,q⟩:=h;obtain⟨x,ps,k,rfl,wf,qB⟩:=d7 rz.wf;have Xf:=oH wf;refine⟨_,(ag (aH (i:=2) dU.nd rfl (cI rfl) (ay cL z.m rfl aC (aa (pv 0) (aa (pv 1) af)))) (ag (bu (aD A9 (pv 2) jq (aG _)) (ai (aw (aZ (aa (aZ af) (aa (pv 2) af))))) aM) (ag (gS PassesOwn.never rfl (Ck rfl M.oG (aa (ay bg z.m rfl aC (aa (pv 0) af)) af)) (nV (n:=2) rfl (cP (bI (i:=3) dU.nd rfl (cI rfl)) (cP (bI (i:=4) dU.nd rfl (cI rfl)) jV))) (ag (aH (i:=5) dU.nd rfl (cI rfl) (ay fF z.m rfl aC (aa (pv 4) (aa (pv 1) af)))) (ai (bu (aD A9 (pv 5) jq (aG _)) (ai (aw (aZ (aa (aQ yd (aZ (aa (pv 3) af)) (aS aR (pv 5) ah (λ_ _=>rfl))) (aa (aS aR (pv 5) ah (λ_ _=>rfl)) af))))) aM)))) (ai (aw jq))))),?_⟩;try dsimp only[gL,cG]
 refine IW ?_;intro _ _ _ _;refine⟨_,rfl,_,rfl,_,v,b,aF,rfl,r,rz.wf,hb,λH1 s1=>?_⟩;rw[GP]at q;rcases cE (eU aF) (.tup (.str x::ps))with⟨e1,e2⟩|⟨y,e1,e2,e,_⟩
 ·rw[e1];rw[e2]at q;have q:∀(u:V)(H':Hp),aL H H'->FsV H' (gh (eU aF) 0 (av x ps)) u->Q u H':=q;refine⟨_,rfl,rfl,_,rfl,aV (λc=>absurd c (by decide)) (λ_=>?_)⟩;refine⟨_,rfl,x,ps,v,rfl,r.mono s1,qB,λp3 us H3 J_ s3 h3 Y=>?_⟩;have l3:=Y.length;have I:=s1.trans s3;refine⟨p3,us,rfl,bN.of h3,?_⟩;let FK:Nat->L2.St->Hp->Prop:=(λi R H'=>∃(B kv N:Option V),R=[some v,some (.ref b),some V.aP,B,kv,N]/\aL H3 H'/\gh (eU aF) 0 (av x ps)=gh (eU aF) i ((av x ps).drop i));refine jz us.length FK ?_ ?_ ?_;·exact⟨none,none,none,rfl,aL.refl _,rfl⟩
  ·rintro i R S hi⟨B,kv,N,rfl,a,hf⟩;obtain⟨g,m⟩:∃g,(av x ps)[i]?=some g:=⟨_,e8 (by omega)⟩;obtain⟨O,W,F⟩:=Y.get m;have F:=F.mono a;have hb4:S b=some (.dK aF):=a _ _ (I _ _ hb);refine⟨⟨us,O,bN.of (a _ _ h3),W⟩,?_⟩;rintro x' H4'⟨p5,y,rfl,WT,rfl,e⟩;have e:=e us (bN.of (a _ _ h3));rw[W]at e;cases e;have o:=ar WT (.tup [V.int (i:Nat),O]);have Z:=rz.kid m;have hdr:(av x ps).drop i=g::(av x ps).drop (i+1):=by
    have hl:i<(av x ps).length:=by omega
    rw[List.drop_eq_getElem_cons hl];rw[e8 hl]at m;rw[Option.some.inj m]
   rw[hdr,gh]at hf;refine⟨p5,_,rfl,bS.of aq,rfl,_,_,rfl,_,_,rfl,rfl,?_⟩;refine⟨_,rfl,_,rfl,g,O,b,aF,rfl,F.mono o,Z,(by omega),o _ _ hb4,λu6 H6 s6 l=>?_⟩;cases p:cq (eU aF) g with
    |none=>rw[p]at l hf;cases(show u6=V.aP from l);refine⟨_,rfl,rfl,_,rfl,aV (λc=>absurd c (by decide)) (λ_=>?_)⟩;exact⟨_,_,_,rfl,a.trans (o.trans s6),hf⟩
    |some C=>
     rw[p]at l hf;have hf:gh (eU aF) 0 (av x ps)=some (i::C.1,C.2):=hf;rw[hf]at q;obtain⟨uU,OJ⟩:=Hg _ _ _ p;have hdd:=Z.dp;obtain⟨T,_,rfl,U,⟨v1,_,rfl,r1,⟨v2,_,rfl,⟨rfl,_⟩,rn⟩⟩⟩:=l;cases(show _=[]from rn);obtain⟨bb,vs,rfl,hbb,rb⟩:=r1;have lb:=rb.length;rw[c_]at lb;refine⟨_,rfl,rfl,_,rfl,aV (λ_=>?_) (λc=>absurd rfl c)⟩;refine⟨_,rfl,(dw rfl),λp9 hp9=>?_⟩;have J:=ar hp9 (.tup [V.int (i:Nat)]);refine⟨_,rfl,T,_,_,_,rfl,rfl,bS.of (J _ _ U),aO (j:=0) rfl,p9,bb,_,_,rfl,rfl,aq,J _ _ hbb,?_,λp8 H8 s8 h8=>?_⟩;·rw[sizeLine_eq,List.length_singleton];omega
     have L:=J.trans s8;refine⟨_,rfl,T,_,_,_,rfl,rfl,bS.of (L _ _ U),aO (j:=1) rfl,(dw rfl),λXM Nf=>?_⟩;have G:=ar Nf (.tup [V.ref p8, .str C.2]);exact q _ _ (I.trans (a.trans (o.trans (s6.trans (L.trans G))))) ⟨XM,_,rfl,aq,⟨_,_,rfl,IJ (G _ _ h8) (rb.mono (L.trans G)),⟨_,_,rfl,⟨rfl,OJ⟩,rfl⟩⟩⟩
  ·rintro R S⟨B,kv,N,rfl,a,hf⟩;refine⟨⟨us,bN.of (a _ _ h3),rfl⟩,?_⟩;rw[l3,List.drop_length,gh]at hf;rw[hf]at q;exact q _ _ (I.trans a) rfl
 ·rw[e1];rw[e2]at q;refine⟨_,rfl,rfl,_,rfl,aV (λ_=>?_) (λc=>absurd rfl c)⟩;refine⟨(dw rfl),λX P_=>⟨_,rfl,(dw rfl),λp1 Ed=>?_⟩⟩;have t0:=ar P_ (.tup []);have t1:=ar Ed (.tup [V.ref X, .str y]);exact q _ _ (s1.trans (t0.trans t1)) ⟨p1,_,rfl,aq,⟨_,_,rfl,⟨X,[],rfl,t1 _ _ aq,rfl⟩,⟨_,_,rfl,⟨rfl,e⟩,rfl⟩⟩⟩
theorem k6(D:Df K mg "first_step" eI ["thing","book"])(M:Mg mg t)(c:bj P w K mg bA "rule_of" (1) ["thing","book"] nA)(a:bj P w K mg bA "kids_of" (1) ["thing"] d6):∀n:Nat,bj P w K mg bA "first_step" (n+3) ["thing","book"] (qU n)|0=>bj.never D λvs H Q E⟨d,v,b,aF,_,_,h,_⟩=>absurd h.dp (jf _)|n+1=>u7 D M c a (k6 D M c a n)
end K25
end
section
namespace K25
open PySem L2 L3 KM PyProof.Rows
noncomputable def ug(at_:Int):Nat->Int->D->Nat|n+1,b, .tup (.str x::ps)=>if x="var"then(match ps with|[.int i]=>if i=at_+b then 1 else 0|_=>0)else((List.range (av x ps).length).map λi=>ug at_ n (b+gW x i) (((av x ps)[i]?).getD .aP)).sum|_,_,_=>0
theorem JI{x:Str}{ps:List D}{k:Bool}(wf:bh ao k (.tup (.str x::ps))=true)(f:Nat->D):aJ (bK x ps ((List.range (av x ps).length).map f))=1+((List.range (av x ps).length).map λi=>aJ (f i)).sum/\depth (bK x ps ((List.range (av x ps).length).map f))=1+iU ((List.range (av x ps).length).map λi=>depth (f i)):=by
 unfold bK;by_cases hq:(List.range (av x ps).length).map f=[]
 ·rw[if_pos hq];have hl:(av x ps).length=0:=by have :=congrArg List.length hq;rw[c_,List.length_range]at this;exact this
  obtain⟨e1,e2⟩:=iW wf;rw[e1,e2,hl,List.length_eq_zero_iff.mp hl];exact⟨rfl,rfl⟩
 ·rw[if_neg hq];have e1:aJ (.tup (.str x::(List.range (av x ps).length).map f))=1+aK ((List.range (av x ps).length).map f):=by simp[aJ,aK]
  have e2:depth (.tup (.str x::(List.range (av x ps).length).map f))=1+aB ((List.range (av x ps).length).map f):=by simp[depth,aB]
  rw[e1,e2,kI,kC,List.map_map,List.map_map];exact⟨rfl,rfl⟩
theorem EO{x:Str}{ps:List D}{k:Bool}(wf:bh ao k (.tup (.str x::ps))=true):aJ (.tup (.str x::ps))=1+((List.range (av x ps).length).map λi=>aJ (((av x ps)[i]?).getD .aP)).sum/\depth (.tup (.str x::ps))=1+iU ((List.range (av x ps).length).map λi=>depth (((av x ps)[i]?).getD .aP)):=by
 obtain⟨e1,e2⟩:=iW wf;rw[e1,e2];have a:∀(l:List D)(g:D->Nat),l.map g=(List.range l.length).map λi=>g ((l[i]?).getD .aP):=λl g=>by
  refine List.ext_getElem (by simp) λi h1 h2=>?_;have hi:i<l.length:=by simpa using h1
  simp[e8 hi]
 rw[a _ aJ,a _ depth];exact⟨rfl,rfl⟩
theorem Ii(A B C:Nat->Nat)(m:Nat):∀l:List Nat,(∀i∈l,A i+C i=B i+C i*m)->(l.map A).sum+(l.map C).sum=(l.map B).sum+(l.map C).sum*m|[],_=>by simp|i::l,h=>by have a:=Ii A B C m l λj c=>h j (dX _ c);have b:=h i eC;simp only[eF,List.sum_cons,Nat.add_mul];omega
theorem HG(A B:Nat->Nat):∀l:List Nat,(∀i∈l,A i<=B i)->(l.map A).sum<=(l.map B).sum|[],_=>by simp|i::l,h=>by have a:=HG A B l λj c=>h j (dX _ c);have b:=h i eC;simp only[eF,List.sum_cons];omega
theorem Gy(A B:Nat->Nat)(m:Nat):∀l:List Nat,(∀i∈l,A i<=B i+m)->iU (l.map A)<=iU (l.map B)+m|[],_=>by simp[iU]|i::l,h=>by have a:=Gy A B m l λj c=>h j (dX _ c);have b:=h i eC;simp only[eF,iU];omega
theorem fV{o:D}{at_:Int}(r:0<=at_)(q:bh ao false o=true)(l:depth o<58):∀(n:Nat)(b:Int)(d:D)(k:Bool),0<=b->depth d<n->bh ao k d=true->bh ao k (gv (jh o at_) n b d)=true/\aJ (gv (jh o at_) n b d)+ug at_ n b d=aJ d+ug at_ n b d*aJ o/\depth (gv (jh o at_) n b d)<=depth d+depth o/\ug at_ n b d<=aJ d
 |0,_,_,_,_,h,_=>absurd h (jf _)
 |n+1,b,d,k,hb,hd,wf=>by
  obtain⟨x,ps,rfl⟩:=cU wf;by_cases t:x="var"
  ·subst t;obtain⟨i,rfl,hi,rfl⟩:=jT wf;have e:gv (jh o at_) (n+1) b (.tup [.str "var", .int i])=if b<=i then jh o at_ (i-b) b else .tup [.str "var", .int i]:=by rw[gv,if_pos rfl]
   have s:ug at_ (n+1) b (.tup [.str "var", .int i])=if i=at_+b then 1 else 0:=by rw[ug,if_pos rfl]
   have j:∀z:Int,aJ (.tup [.str "var", .int z])=1/\depth (.tup [.str "var", .int z])=1:=λz=>⟨by simp[aJ,aK],by simp[depth,aB]⟩;rw[e,s,(j i).1,(j i).2];by_cases c:b<=i
   ·rw[if_pos c];unfold jh;by_cases c2:i-b=at_;·rw[if_pos c2,if_pos (show i=at_+b by omega)];obtain⟨a1,a2,a3⟩:=n6 (low:=0) hb 58 0 o false (Int.le_refl 0) l q;rw[a2,a3];exact⟨a1,by omega,by omega,bJ _⟩
    ·rw[if_neg c2,if_neg (show¬i=at_+b by omega),(j _).1,(j _).2];refine⟨G9 ?_,by omega,by omega,d4 _⟩;split<;>omega
   ·rw[if_neg c,if_neg (show¬i=at_+b by omega),(j _).1,(j _).2];exact⟨wf,by omega,by omega,d4 _⟩
  ·have e:gv (jh o at_) (n+1) b (.tup (.str x::ps))=bK x ps ((List.range (av x ps).length).map λi=>gv (jh o at_) n (b+gW x i) (((av x ps)[i]?).getD .aP)):=by
    conv=>lhs;unfold gv
    exact if_neg t
   have s:ug at_ (n+1) b (.tup (.str x::ps))=((List.range (av x ps).length).map λi=>ug at_ n (b+gW x i) (((av x ps)[i]?).getD .aP)).sum:=by
    conv=>lhs;unfold ug
    exact if_neg t
   rw[e,s];have each:∀(i:Nat),i∈List.range (av x ps).length->∃p a,(av x ps)[i]?=some p/\depth p<depth (.tup (.str x::ps))/\bh ao a p=true:=λi hi=>by obtain⟨p,f⟩:∃p,(av x ps)[i]?=some p:=⟨_,e8 (List.mem_range.mp hi)⟩;obtain⟨⟨a,g⟩,m⟩:=eQ wf f;exact⟨p,a,f,m,g⟩
   obtain⟨q1,q2⟩:=EO wf;obtain⟨v,w⟩:=JI wf λi=>gv (jh o at_) n (b+gW x i) (((av x ps)[i]?).getD .aP);rw[v,w,q1,q2];refine⟨CN wf _ λi p c e1 e2 u=>?_,?_,?_,?_⟩;·obtain⟨g,m⟩:=eQ wf e1;obtain⟨a,h1,h2⟩:=Lc e2 u;rw[e1];exact h2 _ (fV r q l n (b+gW x i) p a (by have :=kE x i;omega) (by omega) h1).1
   ·have :=Ii (λi=>aJ (gv (jh o at_) n (b+gW x i) (((av x ps)[i]?).getD .aP))) (λi=>aJ (((av x ps)[i]?).getD .aP)) (λi=>ug at_ n (b+gW x i) (((av x ps)[i]?).getD .aP)) (aJ o) (List.range (av x ps).length) λi hi=>by obtain⟨p,a,f,m,g⟩:=each i hi;simp only[f,Option.getD_some];exact(fV r q l n (b+gW x i) p a (by have :=kE x i;omega) (by omega) g).2.1
    omega
   ·have :=Gy (λi=>depth (gv (jh o at_) n (b+gW x i) (((av x ps)[i]?).getD .aP))) (λi=>depth (((av x ps)[i]?).getD .aP)) (depth o) (List.range (av x ps).length) λi hi=>by obtain⟨p,a,f,m,g⟩:=each i hi;simp only[f,Option.getD_some];exact(fV r q l n (b+gW x i) p a (by have :=kE x i;omega) (by omega) g).2.2.1
    omega
   ·have :=HG (λi=>ug at_ n (b+gW x i) (((av x ps)[i]?).getD .aP)) (λi=>aJ (((av x ps)[i]?).getD .aP)) (List.range (av x ps).length) λi hi=>by obtain⟨p,a,f,m,g⟩:=each i hi;simp only[f,Option.getD_some];exact(fV r q l n (b+gW x i) p a (by have :=kE x i;omega) (by omega) g).2.2.2
    omega
end K25
end
section
namespace K25
open PySem L2 L3 KM PyProof.Rows
seal L2.PE L2.PS L2.gT L2.PT L2.PW L2.PA L2.PG L2.uX L2.PI L2.PC L2.PO L2.DC L2.PK L3.vF L3.PH L3.PB
variable{P:Program}{w:World}{K:PySem.W.Frag}{mg:Str->Option Value}{base:Heap}{t:ve}
theorem Ga(pl:List Nat):RN (uS pl)=Uj pl:=by unfold RN uS Uj;rw[List.map_map];rfl
inductive Ec(B:Str->D):D->Str->D->Bool->Prop|fn{k bd o:D}:Wf bd->Wf o->depth bd<58->depth o<58->Rz (zW o 0 bd) 100->Ec B (.tup [.str "app", .tup [.str "fun",k,bd],o]) "fun" (zW o 0 bd) (cR (zW o 0 bd))|zero{k b s n:D}:Ec B (.tup [.str "rec",k,b,s,n]) "zero" b false|yq{k x l:D}:Ec B (.tup [.str "carry",k,x,l]) "like" x false|next{k b s n:D}:Ec B (.tup [.str "rec",k,b,s, .tup [.str "next",n]]) "next" (.tup [.str "app", .tup [.str "app",s,n], .tup [.str "rec",k,b,s,n]]) false|first{k a b:D}:Ec B (.tup [.str "first", .tup [.str "pair",k,a,b]]) "first" a false|second{k a b:D}:Ec B (.tup [.str "second", .tup [.str "pair",k,a,b]]) "second" b false|name{y:Str}:Ec B (.tup [.str "name", .str y]) "name" (B y) false
def Kh(H:Hp)(aF:List (Key×V))(B:Str->D):Prop:=∀y:Str,eU aF y=true->∃(q:Addr)(kv a:V),fD aF (Sum.inr y:Key)=some (.ref q)/\H q=some (.tup [kv,a])/\Rep H (B y) a
theorem Kh.mono{H H':Hp}{aF:List (Key×V)}{B:Str->D}(h:Kh H aF B)(s:aL H H'):Kh H' aF B:=λy d=>let⟨q,kv,e,a,b,c⟩:=h y d;⟨q,kv,e,a,s _ _ b,c.mono s⟩
theorem nF{inb:Str->Bool}{y:Str}(h:bG inb (.tup [.str "name", .str y])= .str "name"):inb y=true:=by cases e:inb y with|true=>rfl|false=>simp[bG,bZ,GG,e]at h
structure Kd(H:Hp)(T1 T2:Addr):Prop where
 t1:i8 H T1 De B4
 t2:i8 H T2 wV vN
theorem Kd.mono{H H':Hp}{T1 T2:Addr}(h:Kd H T1 T2)(s:aL H H'):Kd H' T1 T2:=⟨h.t1.mono s,h.t2.mono s⟩
def v_:Sp:=λvs H Q _=>∃(k b s n:D)(v:V),vs=[v]/\Rep H (.tup [.str "rec",k,b,s, .tup [.str "next",n]]) v/\∀(z:V)(H':Hp),aL H H'->Rep H' (.tup [.str "app", .tup [.str "app",s,n], .tup [.str "rec",k,b,s,n]]) z->Q z H'
theorem kg:aN ["thing","number"] ["thing"] (ak fJ):=⟨rfl,rfl,rfl,by decide+kernel,rfl,by decide+kernel,by decide+kernel⟩
theorem yZ(D:Df K mg "after_next" fJ ["thing"])(M:Mg mg t):bj P w K mg bA "after_next" (1) ["thing"] v_:=by
 refine D.ok kg (λvs H Q E h=>?_) (λbase f cF A outer s H vs Q E W h=>?_);·obtain⟨k,b,s,n,v,rfl,_⟩:=h;rfl
 obtain⟨k,b,s,n,v,rfl,N,q⟩:=h;refine⟨_,(ag (aH (i:=1) kg.nd rfl (cI rfl) (aS aR (aS aR (pv 0) ah (λ_ _=>rfl)) ah (λ_ _=>rfl))) (ai (aw (aZ (aa aE (aa (aZ (aa aE (aa (aS aR (pv 0) ah (λ_ _=>rfl)) (aa (pv 1) af)))) (aa (aQ yd (ip HF (pv 0) cJ (eL ah)) (aZ (aa (pv 1) af))) af))))))),?_⟩;try dsimp only[gL,U]
 refine nH ?_;intro _ _;obtain⟨a,us,rfl,ha,X,us,rfl,⟨rfl,B⟩,Y,us,rfl,I,Z,us,rfl,J,l,us,rfl,p,v4,us,rfl,L,rn⟩:=N;cases(show us=[]from rn);obtain⟨c,ws,rfl,hc,w0,ws,rfl,⟨rfl,_⟩,e,ws,rfl,r,rn⟩:=id L;cases(show ws=[]from rn);refine⟨_,rfl,a,_,_,_,rfl,rfl,bS.of ha,aO (j:=4) rfl,c,_,_,_,rfl,rfl,bS.of hc,aO (j:=1) rfl,?_⟩;refine⟨_,rfl,a,_,_,_,rfl,rfl,bS.of ha,aO (j:=3) rfl,_,rfl,(dw rfl),λg m=>?_⟩;have s1:=ar m (.tup [V.str "app",l,e]);have u:Rep (upd H g (.tup [V.str "app",l,e])) (.tup [.str "app",s,n]) (.ref g):=fO m (rs ky (rs p (rs r r0)));generalize upd H g (.tup [V.str "app",l,e])=R at s1 u⊢;refine⟨_,rfl,_,rfl,a,_,rfl,s1 _ _ ha,λC S s2 h2=>?_⟩;rw[show(4:Int)=((4:Nat):Int)from rfl,FW]at h2;refine⟨_,rfl,(dw rfl),λF z=>?_⟩;have y:=ar z (.tup [e]);refine⟨C,F,_,_,rfl,rfl,y _ _ h2,aq,(by rw[sizeLine_eq];show 4+1<=16777216;decide),λG T O h4=>⟨(dw rfl),λp5 o=>?_⟩⟩;have x:=s2.trans (y.trans O);have d:=s1.trans x;refine q _ _ (d.trans (ar o _)) (fO o (rs ky (rs (u.mono x) (rs ⟨G,_,rfl,h4,?_⟩ r0))));exact rs ⟨rfl,B⟩ (rs (I.mono d) (rs (J.mono d) (rs (p.mono d) (rs (r.mono d) r0))))
def GR(G T1 T2:Addr):Sp:=λvs H Q E=>∃(B:Str->D)(e e':D)(v:V)(r:Str)(b:Addr)(aF:List (Key×V))(g:Bool),vs=[v, .str r, .ref b]/\Rep H e v/\Ec B e r e' g/\Kd H T1 T2/\H b=some (.dK aF)/\Kh H aF B/\bG (eU aF) e= .str r/\(∀(z:V)(H':Hp),aL H H'->g=false->Rep H' e' z->Q z H')/\(∀H',aL H H'->g=true->E (.ref G) none H')
theorem vf:aN ["thing","rule","book"] ["thing","rule","book"] (ak fR):=⟨rfl,rfl,rfl,by decide+kernel,rfl,by decide+kernel,by decide+kernel⟩
theorem xV{T1 T2:Addr}(D:Df K mg "after_rule" fR ["thing","rule","book"])(M:Mg mg t)(G:bj P w K mg (fG P w) "put_in" (126) ["thing","other","at"] (FP t.dM T1 T2))(F:bj P w K mg bA "after_next" (1) ["thing"] v_):bj P w K mg (fG P w) "after_rule" (127) ["thing","rule","book"] (GR t.dM T1 T2):=by
 refine D.OP vf (λvs H Q E h=>?_) (λbase f cF A outer s H vs Q E n h=>?_);·obtain⟨B,e,e',v,r,b,aF,g,rfl,_⟩:=h;rfl
 obtain⟨B,e,e',v,r,b,aF,g,rfl,i,ha,u,hb,N,O,q,S⟩:=h;have R:=DH n;refine⟨_,(ag (bu (aD bP (pv 1) aE (aG _)) (ai (aw (ay G n.m rfl dg (aa (aS aR (aS aR (pv 0) ah (λ_ _=>rfl)) ah (λ_ _=>rfl)) (aa (aS aR (pv 0) ah (λ_ _=>rfl)) (aa ah af)))))) aM) (ag (bu (aD bP (pv 1) aE (aG _)) (ai (aw (ay F n.m rfl aC (aa (pv 0) af)))) aM) (ag (bu (aD bP (pv 1) aE (aG _)) (ai (aw (aS aR (aS aR (pv 0) ah (λ_ _=>rfl)) ah (λ_ _=>rfl)))) aM) (ag (bu (aD bP (pv 1) aE (aG _)) (ai (aw (aS aR (aS aR (pv 0) ah (λ_ _=>rfl)) ah (λ_ _=>rfl)))) aM) (ag (bu (aD bP (pv 1) aE (aG _)) (ai (aw (aS aR (QP R (pv 2) (aS aR (pv 0) ah (λ_ _=>rfl)) (λ_ _=>rfl)) ah (λ_ _=>rfl)))) aM) (ai (aw (aS aR (pv 0) ah (λ_ _=>rfl))))))))),?_⟩;try dsimp only[gL,Z]
 refine Px ?_;intro _ _ _ _ _ _;cases ha with|fn X Y J I rz=>obtain⟨a,us,rfl,ha,l,us,rfl,⟨rfl,_⟩,m,us,rfl,d,o,us,rfl,k,rn⟩:=i;cases(show us=[]from rn);obtain⟨c,ws,rfl,hc,w0,ws,rfl,⟨rfl,_⟩,C,ws,rfl,x,p,ws,rfl,rb,rn⟩:=d;cases(show ws=[]from rn);refine⟨_,rfl,rfl,_,rfl,aV (λ_=>?_) (λc=>absurd (decide_eq_true rfl) c)⟩;refine⟨_,rfl,a,_,_,_,rfl,rfl,bS.of ha,aO (j:=1) rfl,c,_,_,_,rfl,rfl,bS.of hc,aO (j:=2) rfl,_,rfl,a,_,_,_,rfl,rfl,bS.of ha,aO (j:=2) rfl,?_⟩;exact⟨_,_,p,o,0,rfl,⟨rb,k,X,Y,J,I,rz,u.t1,u.t2⟩,q,S⟩|zero=>obtain⟨a,us,rfl,ha,l,us,rfl,⟨rfl,_⟩,m,us,rfl,d,o,us,rfl,k,V,us,rfl,U,v4,us,rfl,r4,rn⟩:=i;cases(show us=[]from rn);refine⟨_,rfl,rfl,_,rfl,aV (λc=>absurd (of_decide_eq_true c) (by decide+kernel)) (λ_=>?_)⟩;refine⟨_,rfl,rfl,_,rfl,aV (λc=>absurd (of_decide_eq_true c) (by decide+kernel)) (λ_=>?_)⟩;refine⟨_,rfl,rfl,_,rfl,aV (λc=>absurd (of_decide_eq_true c) (by decide+kernel)) (λ_=>?_)⟩;refine⟨_,rfl,rfl,_,rfl,aV (λc=>absurd (of_decide_eq_true c) (by decide+kernel)) (λ_=>?_)⟩;refine⟨_,rfl,rfl,_,rfl,aV (λc=>absurd (of_decide_eq_true c) (by decide+kernel)) (λ_=>?_)⟩;exact⟨_,rfl,a,_,_,_,rfl,rfl,bS.of ha,aO (j:=2) rfl,q _ H (aL.refl H) rfl k⟩|yq=>obtain⟨a,us,rfl,ha,l,us,rfl,⟨rfl,_⟩,m,us,rfl,d,o,us,rfl,k,V,us,rfl,U,rn⟩:=i;cases(show us=[]from rn);refine⟨_,rfl,rfl,_,rfl,aV (λc=>absurd (of_decide_eq_true c) (by decide+kernel)) (λ_=>?_)⟩;refine⟨_,rfl,rfl,_,rfl,aV (λc=>absurd (of_decide_eq_true c) (by decide+kernel)) (λ_=>?_)⟩;refine⟨_,rfl,rfl,_,rfl,aV (λc=>absurd (of_decide_eq_true c) (by decide+kernel)) (λ_=>?_)⟩;refine⟨_,rfl,rfl,_,rfl,aV (λc=>absurd (of_decide_eq_true c) (by decide+kernel)) (λ_=>?_)⟩;refine⟨_,rfl,rfl,_,rfl,aV (λc=>absurd (of_decide_eq_true c) (by decide+kernel)) (λ_=>?_)⟩;exact⟨_,rfl,a,_,_,_,rfl,rfl,bS.of ha,aO (j:=2) rfl,q _ H (aL.refl H) rfl k⟩|next=>refine⟨_,rfl,rfl,_,rfl,aV (λc=>absurd (of_decide_eq_true c) (by decide+kernel)) (λ_=>?_)⟩;refine⟨_,rfl,rfl,_,rfl,aV (λ_=>?_) (λc=>absurd (decide_eq_true rfl) c)⟩;exact⟨_,rfl,_,_,_,_,v,rfl,i,λz H' s' T=>q z H' s' rfl T⟩|first=>obtain⟨a,us,rfl,ha,l,us,rfl,⟨rfl,_⟩,m,us,rfl,d,rn⟩:=i;cases(show us=[]from rn);obtain⟨c,ws,rfl,hc,w0,ws,rfl,⟨rfl,_⟩,C,ws,rfl,x,p,ws,rfl,rb,W,ws,rfl,rc,rn⟩:=d;cases(show ws=[]from rn);refine⟨_,rfl,rfl,_,rfl,aV (λc=>absurd (of_decide_eq_true c) (by decide+kernel)) (λ_=>?_)⟩;refine⟨_,rfl,rfl,_,rfl,aV (λc=>absurd (of_decide_eq_true c) (by decide+kernel)) (λ_=>?_)⟩;refine⟨_,rfl,rfl,_,rfl,aV (λ_=>?_) (λc=>absurd (decide_eq_true rfl) c)⟩;exact⟨_,rfl,a,_,_,_,rfl,rfl,bS.of ha,aO (j:=1) rfl,c,_,_,_,rfl,rfl,bS.of hc,aO (j:=2) rfl,q _ H (aL.refl H) rfl rb⟩|second=>obtain⟨a,us,rfl,ha,l,us,rfl,⟨rfl,_⟩,m,us,rfl,d,rn⟩:=i;cases(show us=[]from rn);obtain⟨c,ws,rfl,hc,w0,ws,rfl,⟨rfl,_⟩,C,ws,rfl,x,p,ws,rfl,rb,W,ws,rfl,rc,rn⟩:=d;cases(show ws=[]from rn);refine⟨_,rfl,rfl,_,rfl,aV (λc=>absurd (of_decide_eq_true c) (by decide+kernel)) (λ_=>?_)⟩;refine⟨_,rfl,rfl,_,rfl,aV (λc=>absurd (of_decide_eq_true c) (by decide+kernel)) (λ_=>?_)⟩;refine⟨_,rfl,rfl,_,rfl,aV (λc=>absurd (of_decide_eq_true c) (by decide+kernel)) (λ_=>?_)⟩;refine⟨_,rfl,rfl,_,rfl,aV (λ_=>?_) (λc=>absurd (decide_eq_true rfl) c)⟩;exact⟨_,rfl,a,_,_,_,rfl,rfl,bS.of ha,aO (j:=1) rfl,c,_,_,_,rfl,rfl,bS.of hc,aO (j:=3) rfl,q _ H (aL.refl H) rfl rc⟩|name=>rename_i y;obtain⟨a,us,rfl,ha,l,us,rfl,⟨rfl,_⟩,m,us,rfl,⟨rfl,hy⟩,rn⟩:=i;cases(show us=[]from rn);obtain⟨q1,kv,tv,e1,e2,L⟩:=N y (nF O);refine⟨_,rfl,rfl,_,rfl,aV (λc=>absurd (of_decide_eq_true c) (by decide+kernel)) (λ_=>?_)⟩;refine⟨_,rfl,rfl,_,rfl,aV (λc=>absurd (of_decide_eq_true c) (by decide+kernel)) (λ_=>?_)⟩;refine⟨_,rfl,rfl,_,rfl,aV (λc=>absurd (of_decide_eq_true c) (by decide+kernel)) (λ_=>?_)⟩;refine⟨_,rfl,rfl,_,rfl,aV (λc=>absurd (of_decide_eq_true c) (by decide+kernel)) (λ_=>?_)⟩;refine⟨_,rfl,rfl,_,rfl,aV (λ_=>?_) (λc=>absurd (decide_eq_true rfl) c)⟩;exact⟨_,rfl,_,rfl,a,_,_,_,rfl,rfl,bS.of ha,aO (j:=1) rfl,b,_,rfl,(.inl ⟨aF,Sum.inr y, .inl hb,rfl,e1.symm⟩),q1,_,_,_,rfl,rfl,bS.of e2,aO (j:=1) rfl,q _ H (aL.refl H) rfl L⟩
structure J8(inb:Str->Bool)(B:Str->D)(d:D)(pl:List Int)(r:Str)(e':D)(g:Bool):Prop where
 ex:∃e,goto d pl=some e/\Wf e/\bG inb e= .str r/\Ec B e r e' g
 wf:Wf d
 ln:pl.length<100
 rz:Rz (putD d pl e') 100
def Ei(G T1 T2:Addr):Sp:=λvs H Q E=>∃(B:Str->D)(d e':D)(v pw:V)(pl:List Int)(b:Addr)(aF:List (Key×V))(r:Str)(g:Bool),vs=[v,pw, .ref b]/\Rep H d v/\Rep H (RN pl) pw/\H b=some (.dK aF)/\Kh H aF B/\J8 (eU aF) B d pl r e' g/\Kd H T1 T2/\(∀(z:V)(H':Hp),aL H H'->(g||cR (putD d pl e'))=false->Rep H' (putD d pl e') z->Q z H')/\(∀H',aL H H'->(g||cR (putD d pl e'))=true->E (.ref G) none H')
theorem kL:aN ["thing","place","book","here","rule"] ["thing","place","book"] (ak j1):=⟨rfl,rfl,rfl,by decide+kernel,rfl,by decide+kernel,by decide+kernel⟩
theorem JK{T1 T2:Addr}(D:Df K mg "stepped" j1 ["thing","place","book"])(M:Mg mg t)(S:pP K t.yF)(U:bj P w K mg (fG P w) "at_place" (3) ["thing","place"] (Zp t.cD))(V:bj P w K mg bA "rule_of" (1) ["thing","book"] nA)(W:bj P w K mg (fG P w) "with_at" (105) ["thing","place","new"] (Sw t.cD t.dM 100))(T:bj P w K mg (fG P w) "after_rule" (127) ["thing","rule","book"] (GR t.dM T1 T2)):bj P w K mg (fG P w) "stepped" (128) ["thing","place","book"] (Ei t.dM T1 T2):=by
 refine D.OP kL (λvs H Q E h=>?_) (λbase f cF A outer s H vs Q E l h=>?_);·obtain⟨B,d,e',v,pw,pl,b,aF,r,g,rfl,_⟩:=h;rfl
 obtain⟨B,d,e',v,pw,pl,b,aF,r,g,rfl,rd,O,hb,Y,ok,Z,q,L⟩:=h;obtain⟨⟨e,p,we,J,ha⟩,R,hl,rz⟩:=ok;refine⟨_,(ag (aH (i:=3) kL.nd rfl (cI rfl) (ay U l.m rfl dg (aa (pv 0) (aa (pv 1) af)))) (ag (aH (i:=4) kL.nd rfl (cI rfl) (ay V l.m rfl aC (aa (pv 3) (aa (pv 2) af)))) (ag (bu (aD OA (pv 4) jq (aG _)) (ai (lx (G:=(λH'=>E (.ref t.yF) none H')) S M.g_NoStep (aa aE af) (λpins σ H s e h' I m q=>rT I m q))) aM) (ai (aw (ay W l.m rfl dg (aa (pv 0) (aa (pv 1) (aa (ay T l.m rfl dg (aa (pv 3) (aa (pv 4) (aa (pv 2) af)))) af))))))))),?_⟩;try dsimp only[gL,cG]
 refine IW ?_;intro _ _ _ _;refine⟨_,rfl,_,rfl,d,v,pl,pw,rfl,rd,R,O,λe1 u X s1 a N=>?_,λX s1 a=>by rw[p]at a;cases a⟩;rw[p]at a;cases a;refine⟨_,rfl,_,rfl,e,u,b,aF,rfl,N,we,s1 _ _ hb,λH2 s2=>?_⟩;rw[J];refine⟨_,rfl,rfl,_,rfl,aV (λc=>absurd c (by simp)) (λ_=>?_)⟩;have j:=s1.trans s2;refine⟨_,rfl,_,rfl,_,rfl,_,rfl,_,rfl,B,e,e',u,r,b,aF,g,rfl,N.mono s2,ha,Z.mono j,j _ _ hb,Y.mono j,J,λz C y F r3=>?_,λC y Xh=>L C (j.trans y) (by rw[Xh];rfl)⟩;have n:=j.trans y;refine⟨d,v,pl,pw,e',z,rfl,rd.mono n,R,O.mono n,r3,hl,λ_=>rz,λu' k o _ x r4=>q u' k (n.trans o) (by rw[F];exact x) r4,(λk o h4=>by rw[p]at h4;cases h4),λk o _ x=>L k (n.trans o) (by rw[F];exact x)⟩
inductive Out|ok(d:D)|great|dry
noncomputable def Run(inb:Str->Bool)(B:Str->D)(a:Out):Nat->List vz->D->Prop|f,[],d=>(cq inb d=none/\a= .ok d)\/∃r:vz,cq inb d=some r/\((f=0/\a= .dry)\/(0<f/\a= .great/\∃(e':D)(g:Bool),J8 inb B d (uS r.1) r.2 e' g/\(g||cR (putD d (uS r.1) e'))=true))|f,r::rs,d=>0<f/\∃(e':D)(g:Bool),cq inb d=some r/\J8 inb B d (uS r.1) r.2 e' g/\(g||cR (putD d (uS r.1) e'))=false/\Run inb B a (f-1) rs (putD d (uS r.1) e')
def Bh(G e T1 T2:Addr):Sp:=λvs H Q E=>∃(B:Str->D)(d:D)(v:V)(fuel:Nat)(b:Addr)(aF:List (Key×V))(rs:List vz)(a:Out),vs=[v, .int (fuel:Nat), .ref b]/\Rep H d v/\Rz d 60/\H b=some (.dK aF)/\Kh H aF B/\Run (eU aF) B a fuel rs d/\rs.length<=1000/\Kd H T1 T2/\(∀(d':D)(p c:Addr)(us:List V)(u:V)(H':Hp),a= .ok d'->aL H H'->H' p=some (.tup [u, .ref c])->H' c=some (.lst us)->bE H' (rs.map Mh) us->Rep H' d' u->H c=none->Q (.ref p) H')/\(a= .great->∀H',aL H H'->E (.ref G) none H')/\(a= .dry->∀H',aL H H'->E (.ref e) none H')
theorem KW{H:Hp}{d:D}{v:V}(h:Rep H d v):bE H [d] [v]:=⟨v,[],rfl,h,rfl⟩
theorem m8{d:D}(h:cR d=false):depth d<=40/\aJ d<=600:=by have h:(c7 d||dv d)=false:=h;rw[Bool.or_eq_false_iff]at h;have h:=h.1;unfold c7 at h;simp at h;omega
theorem fX:aN ["thing","fuel","book","here","log","step"] ["thing","fuel","book"] (ak ma):=⟨rfl,rfl,rfl,by decide+kernel,rfl,by decide+kernel,by decide+kernel⟩
theorem Ku{T1 T2:Addr}(D:Df K mg "normal" ma ["thing","fuel","book"])(M:Mg mg t)(OE:pP K t.OL)(fF:bj P w K mg bA "first_step" (63) ["thing","book"] (qU 60))(nN:bj P w K mg (fG P w) "stepped" (128) ["thing","place","book"] (Ei t.dM T1 T2)):bj P w K mg (fG P w) "normal" (129) ["thing","fuel","book"] (Bh t.dM t.OL T1 T2):=by
 refine D.OP fX (λvs H Q E h=>?_) (λbase f cF A outer s H vs Q E Z h=>?_);·obtain⟨B,d,v,fuel,b,aF,rs,res,rfl,_⟩:=h;rfl
 obtain⟨B,d,v,fuel,b,aF,rs,res,rfl,rd,rz,hb,hB,ZW,Yc,hT,q,qe,qd⟩:=h;refine⟨_,(ag (aH (i:=3) fX.nd rfl (cI rfl) (pv 0)) (ag (aH (i:=4) fX.nd rfl (cI rfl) (cA af)) (ag (aH (i:=5) fX.nd rfl (cI rfl) (ay fF Z.m rfl aC (aa (pv 3) (aa (pv 2) af)))) (ag (Nj S7 (aD A9 (pv 5) jq (aG _)) (ag (bu (aD N9 (bw bx rfl M.fB dP (aa (pv 4) af)) (pv 1) (aG _)) (ai (lx (G:=(λH'=>E (.ref t.OL) none H')) OE M.g_Dry (aa aE af) (λpins σ H s e h' I m q=>rT I m q))) aM) (ag (aH (i:=3) fX.nd rfl (cI rfl) (ay nN Z.m rfl dg (aa (pv 3) (aa (aS aR (pv 5) ah (λ_ _=>rfl)) (aa (pv 2) af))))) (ag (xM (BR PySem.F.plainAttrs_list PySem.F.slot_list_append PySem.F.type_list_append nJ (pv 4) (aa (pv 5) af))) (ai (aH (i:=5) fX.nd rfl (cI rfl) (ay fF Z.m rfl aC (aa (pv 3) (aa (pv 2) af))))))))) (ai (aw (aZ (aa (pv 3) (aa (pv 4) af))))))))),?_⟩;try dsimp only[gL,cG]
 refine Vc ?_;intro _ _ _ _ _;refine⟨_,rfl,(dw rfl),λl Y=>?_⟩;have t1:=ar Y (.lst []);have h1:(upd H l (.lst [])) l=some (.lst []):=aq;generalize upd H l (.lst [])=H1 at t1 h1⊢;refine⟨_,rfl,_,rfl,d,v,b,aF,rfl,rd.mono t1,rz,by decide,t1 _ _ hb,λL H2 s2 f2=>?_⟩;let Iw:Nat->L2.St->Hp->Prop:=λm R H'=>∃(dn rest:List vz)(k:KM.D)(u L:V)(us:List V)(fl:Nat),R=[some v,some (.int (fuel:Nat)),some (.ref b),some u,some (.ref l),some L]/\m=rest.length/\aL H H'/\Rep H' k u/\Rz k 60/\H' l=some (.lst us)/\bE H' (dn.map Mh) us/\Run (eU aF) B res fl rest k/\dn.length+fl=fuel/\rs=dn++rest/\FsV H' (cq (eU aF) k) L;refine⟨Iw,⟨_,[],rs,d,v,L,[],fuel,rfl,rfl,t1.trans s2,rd.mono (t1.trans s2),rz,s2 _ _ h1,rfl,ZW,Nat.zero_add _,rfl,f2⟩,?_⟩;clear t1 h1 s2 f2 rd rz ZW;rintro m R H3⟨dn,rest,k,u,L,us,fl,rfl,rfl,n,r3,rz3,h3,W,J,efl,T,N⟩;have X3:=W.length;rw[c_]at X3;have lrs:rs.length=dn.length+rest.length:=by rw[T,je]
 cases x:cq (eU aF) k with
  |none=>
   rw[x]at N;cases(show L=V.aP from N);refine⟨_,rfl,rfl,_,rfl,aV (λc=>absurd c (by decide)) (λ_=>?_)⟩;refine⟨_,rfl,_,rfl,(dw rfl),λp hp=>?_⟩;have tp:=ar hp (.tup [u, .ref l]);cases rest with
    |cons r O=>obtain⟨_,e',g,e0,_⟩:=J;rw[x]at e0;cases e0
    |nil=>
     rcases J with⟨_,e0⟩|⟨r,e0,_⟩;·rw[nX]at T;rw[<-T]at W;exact q k p l us u _ e0 (n.trans tp) aq (tp _ _ h3) (W.mono tp) (r3.mono tp) Y
     ·rw[x]at e0;cases e0
  |some r=>
   rw[x]at N;obtain⟨S,_,rfl,RL,⟨v1,_,rfl,r1,⟨v2,_,rfl,⟨rfl,OJ⟩,rn⟩⟩⟩:=id N;cases(show _=[]from rn);refine⟨_,rfl,rfl,_,rfl,aV (λ_=>?_) (λc=>absurd rfl c)⟩;have rpl:Rep H3 (RN (uS r.1)) v1:=by rw[Ga];exact r1
   have hb3:=n _ _ hb;refine⟨λR H'=>∃m',m'<rest.length/\Iw m' R H',λR H' h=>h,?_⟩;refine⟨_,rfl,l,us,rfl, .inl (bN.of h3),_,rfl,_,_,rfl,rfl,_,rfl,aV (λc=>?_) (λc=>?_)⟩
   ·have c:((fuel:Nat):Int)<=((us.length:Nat):Int):=of_decide_eq_true c;cases rest with
     |cons r' O=>have :=J.1;omega
     |nil=>
      rcases J with⟨e0,_⟩|⟨r',e0,⟨_,er⟩|⟨h0,_⟩⟩;·rw[x]at e0;cases e0
      ·exact⟨by decide,qd er H3 n⟩
      ·omega
   have c:¬((fuel:Nat):Int)<=((us.length:Nat):Int):=of_decide_eq_false (Bool.eq_false_iff.mpr c);refine⟨_,rfl,_,rfl,S,_,_,_,rfl,rfl,bS.of RL,aO (j:=0) rfl,_,rfl,?_⟩;cases rest with
    |nil=>
     rcases J with⟨e0,_⟩|⟨r',e0,⟨h0,_⟩|⟨_,ab8,e',g,ok,U⟩⟩;·rw[x]at e0;cases e0
     ·omega
     ·rw[x]at e0;cases e0;exact⟨B,k,e',u,v1,uS r.1,b,aF,r.2,g,rfl,r3,rpl,hb3,hB.mono n,ok,hT.mono n,(λz C y F r4=>by rw[U]at F;cases F),λC y _=>qe ab8 C (n.trans y)⟩
    |cons r' O=>
     obtain⟨hfl,e',g,e0,ok,F,abx⟩:=J;rw[x]at e0;cases e0;refine⟨B,k,e',u,v1,uS r.1,b,aF,r.2,g,rfl,r3,rpl,hb3,hB.mono n,ok,hT.mono n,λz C y _ r4=>?_,λC y U=>by rw[F]at U;cases U⟩;have hg2:cR (putD k (uS r.1) e')=false:=by rw[Bool.or_eq_false_iff]at F;exact F.2
     obtain⟨k1,k2⟩:=m8 hg2;have rz4:Rz (putD k (uS r.1) e') 60:=⟨ok.rz.wf,by omega,by omega⟩;have h4:=y _ _ h3;have sv4:Rep C (Mh r) (.ref S):=Rep.mono y N;refine⟨_,rfl, .inl ⟨rfl,_,bN.of h4⟩,_,rfl,l,us,_,rfl,rfl,h4,(by rw[sizeLine_eq];omega),?_⟩;have s34:=n.trans y;have abC:H l=none:=Y;have sH:aL H (upd C l (.lst (us++[.ref S]))):=λa o ha=>by rw[bf (aT ha abC)];exact s34 _ _ ha
     refine⟨_,rfl,_,rfl,_,z,b,aF,rfl,r4.um h4,rz4,by decide,sH _ _ hb,λsv' H6 X f6=>?_⟩;refine⟨_,by show O.length<O.length+1;omega,dn++[r],O,_,z,sv',us++[.ref S],fl-1,rfl,rfl,sH.trans X,(r4.um h4).mono X,rz4,X _ _ aq,?_,abx,by rw[je,List.length_singleton];omega,by rw[T,List.append_assoc];rfl,f6⟩;rw[List.map_append];refine bE.mono X ?_;exact((W.mono y).append (KW sv4)).um h4
end K25
end
section
namespace L3
open PySem PySem.Spec PyProof.Rows L2 KM
noncomputable def eqB(p:Prop):Bool:=@decide p (Classical.propDecidable p)
theorem mh{p:Prop}(h:p):eqB p=true:=@decide_eq_true p (Classical.propDecidable p) h
theorem e9{p:Prop}(h:¬p):eqB p=false:=@decide_eq_false p (Classical.propDecidable p) h
theorem Ws{p:Prop}(h:eqB p=true):p:=@of_decide_eq_true p (Classical.propDecidable p) h
mutual/--no truths within -/noncomputable def QK:D->Bool| .bl _=>false| .tup ds=>Qp ds|_=>true noncomputable def Qp:List D->Bool|[]=>true|d::ds=>QK d&&Qp ds end
mutual theorem Gw{H:Hp}:∀{d e:D}{v:V},Rep H d v->Rep H e v->d=e
 | .aP,e,v,h,h'=>by cases(show v=V.aP from h);cases e with|aP=>rfl|bl b=>cases(show V.aP=V.bl b from h')|int i=>cases(show V.aP=V.int i from h')|str x=>cases(show V.aP=V.str x from h'.1)|tup es=>obtain⟨a,vs,e,_⟩:=h';cases e
 | .bl c,e,v,h,h'=>by cases(show v=V.bl c from h);cases e with|aP=>cases(show V.bl c=V.aP from h')|bl b=>cases(show V.bl c=V.bl b from h');rfl|int i=>cases(show V.bl c=V.int i from h')|str x=>cases(show V.bl c=V.str x from h'.1)|tup es=>obtain⟨a,vs,e,_⟩:=h';cases e
 | .int c,e,v,h,h'=>by cases(show v=V.int c from h);cases e with|aP=>cases(show V.int c=V.aP from h')|bl b=>cases(show V.int c=V.bl b from h')|int i=>cases(show V.int c=V.int i from h');rfl|str x=>cases(show V.int c=V.str x from h'.1)|tup es=>obtain⟨a,vs,e,_⟩:=h';cases e
 | .str c,e,v,h,h'=>by cases(show v=V.str c from h.1);cases e with|aP=>cases(show V.str c=V.aP from h')|bl b=>cases(show V.str c=V.bl b from h')|int i=>cases(show V.str c=V.int i from h')|str x=>cases(show V.str c=V.str x from h'.1);rfl|tup es=>obtain⟨a,vs,e,_⟩:=h';cases e
 | .tup ds,e,v,h,h'=>by obtain⟨a,vs,rfl,ha,r⟩:=h;cases e with|aP=>cases(show V.ref a=V.aP from h')|bl b=>cases(show V.ref a=V.bl b from h')|int i=>cases(show V.ref a=V.int i from h')|str x=>cases(show V.ref a=V.str x from h'.1)|tup es=>obtain⟨a',vs',e,OM,r'⟩:=h';cases e;rw[ha]at OM;cases OM;rw[Cs r r']theorem Cs{H:Hp}:∀{ds es:List D}{vs:List V},bE H ds vs->bE H es vs->ds=es
 |[],es,vs,h,h'=>by cases(show vs=[]from h);cases es with|nil=>rfl|cons e es=>obtain⟨v,r,z,_⟩:=h';cases z
 |d::ds,es,vs,h,h'=>by obtain⟨v,r,rfl,q,t⟩:=h;cases es with|nil=>cases(show v::r=[]from h')|cons e es=>obtain⟨v',r',z,q',t'⟩:=h';cases z;rw[Gw q q',Cs t t']end
theorem LM(ds es:List D):((List.range (min ds.length es.length)).all (λj=>eqB (ds[j]?=es[j]?))&&(ds.length==es.length))=eqB (D.tup ds=D.tup es):=by
 by_cases h:ds=es;·subst h;rw[mh rfl,cf];exact⟨List.all_eq_true.mpr λj _=>mh rfl,by simp⟩
 ·rw[e9 (λz=>h (by injection z))];by_cases hl:ds.length=es.length
  ·have :¬(List.range (min ds.length es.length)).all (λj=>eqB (ds[j]?=es[j]?))=true:=λz=>h (List.ext_getElem? λi=>by
    by_cases hi:i<ds.length;·exact Ws (List.all_eq_true.mp z i (List.mem_range.mpr (by lia)))
    ·rw[List.getElem?_eq_none (by lia),List.getElem?_eq_none (by lia)]);rw[Bool.eq_false_iff.mpr this,Bool.false_and]
  ·have :(ds.length==es.length)=false:=by simpa using hl
   rw[this,Bool.and_false]
section
variable{X:Cx}{pins:List (Addr×Obj)}{σ:L2.St}{H:Hp}{s:Shared}
mutual theorem Dv(I:Inv X pins σ H s):∀(d e:D)(A:Around)(v u:V)(a b:Value),Rep H d v->Rep H e u->L2.RelV v a->L2.RelV u b->QK d=true->QK e=true->A.units+depth d<cLine->SeqAt.EqAt A s a b (eqB (d=e))
 | .aP,e,A,v,u,a,b,r,r',k,k',n,n',hu=>by cases(show v=V.aP from r);cases(show a=Value.none from k);cases e with|aP=>cases(show u=V.aP from r');cases(show b=Value.none from k');rw[mh rfl];exact SeqAt.EqAt.same _|bl c=>cases n'|int i=>cases(show u=V.int i from r');obtain⟨t,rfl⟩:=k';rw[e9 (λz=>by cases z)];exact SeqAt.EqAt.none_int i t|str x=>cases(show u=V.str x from r'.1);obtain⟨t,rfl⟩:=k';rw[e9 (λz=>by cases z)];exact SeqAt.EqAt.none_str x t|tup es=>obtain⟨p,us,rfl,hp,rs⟩:=r';cases(show b=Value.ref p from k');obtain⟨aW,rv,pt,_⟩:=I.tuple (bS.of (K:=X.K) hp);rw[e9 (λz=>by cases z)];exact SeqAt.EqAt.none_tuple pt (by lia)
 | .bl _,_,_,_,_,_,_,_,_,_,_,n,_,_=>by cases n
 | .int c,e,A,v,u,a,b,r,r',k,k',n,n',hu=>by
  cases(show v=V.int c from r);obtain⟨t0,rfl⟩:=k;cases e with
   |aP=>cases(show u=V.aP from r');cases(show b=Value.none from k');rw[e9 (λz=>by cases z)];exact SeqAt.EqAt.int_none c t0
   |bl c=>cases n'
   |int i=>
    cases(show u=V.int i from r');obtain⟨t,rfl⟩:=k';have :eqB (D.int c=D.int i)=(c==i):=by
     by_cases h:c=i;·subst h;rw[mh rfl];simp
     ·rw[e9 (λz=>h (by injection z))];simp[h]
    rw[this];exact SeqAt.EqAt.int_int c t0 i t
   |str x=>cases(show u=V.str x from r'.1);obtain⟨t,rfl⟩:=k';rw[e9 (λz=>by cases z)];exact SeqAt.EqAt.int_str c t0 x t
   |tup es=>obtain⟨p,us,rfl,hp,rs⟩:=r';cases(show b=Value.ref p from k');obtain⟨aW,rv,pt,_⟩:=I.tuple (bS.of (K:=X.K) hp);rw[e9 (λz=>by cases z)];exact SeqAt.EqAt.int_tuple c t0 pt (by lia)
 | .str c,e,A,v,u,a,b,r,r',k,k',n,n',hu=>by
  cases(show v=V.str c from r.1);obtain⟨t0,rfl⟩:=k;cases e with
   |aP=>cases(show u=V.aP from r');cases(show b=Value.none from k');rw[e9 (λz=>by cases z)];exact SeqAt.EqAt.str_none c t0
   |bl c=>cases n'
   |int i=>cases(show u=V.int i from r');obtain⟨t,rfl⟩:=k';rw[e9 (λz=>by cases z)];exact SeqAt.EqAt.str_int c t0 i t
   |str x=>
    cases(show u=V.str x from r'.1);obtain⟨t,rfl⟩:=k';have :eqB (D.str c=D.str x)=(c==x):=by
     by_cases h:c=x;·subst h;rw[mh rfl];simp
     ·rw[e9 (λz=>h (by injection z))];simp[h]
    rw[this];exact SeqAt.EqAt.str_str c t0 x t
   |tup es=>obtain⟨p,us,rfl,hp,rs⟩:=r';cases(show b=Value.ref p from k');obtain⟨aW,rv,pt,_⟩:=I.tuple (bS.of (K:=X.K) hp);rw[e9 (λz=>by cases z)];exact SeqAt.EqAt.str_tuple c t0 pt (by lia)
 | .tup ds,e,A,v,u,a,b,r,r',k,k',n,n',hu=>by
  obtain⟨q,vs,rfl,hq,rd⟩:=id r;cases(show a=Value.ref q from k);obtain⟨aW,rv,pt,_⟩:=I.tuple (bS.of (K:=X.K) hq);have R7:A.units<cLine:=by lia
  cases e with
   |aP=>cases(show u=V.aP from r');cases(show b=Value.none from k');rw[e9 (λz=>by cases z)];exact SeqAt.EqAt.tuple_none pt R7
   |bl c=>cases n'
   |int i=>cases(show u=V.int i from r');obtain⟨t,rfl⟩:=k';rw[e9 (λz=>by cases z)];exact SeqAt.EqAt.tuple_int i t pt R7
   |str x=>cases(show u=V.str x from r'.1);obtain⟨t,rfl⟩:=k';rw[e9 (λz=>by cases z)];exact SeqAt.EqAt.tuple_str x t pt R7
   |tup es=>
    obtain⟨p,us,rfl,hp,re⟩:=id r';cases(show b=Value.ref p from k');obtain⟨oo,KP,TF,_⟩:=I.tuple (bS.of (K:=X.K) hp);by_cases RF:q=p;·subst RF;rw[mh (Gw r r')];exact SeqAt.EqAt.same _
    ·have l1:=rv.length;have l2:=KP.length;have l3:=rd.length;have l4:=re.length;have hd:depth (.tup ds)=1+aB ds:=by simp[depth]
     rw[<-LM];have s1:aW.toArray.size=ds.length:=by rw[cM];lia
     have s2:oo.toArray.size=es.length:=by rw[cM];lia
     have :=SeqAt.EqAt.of_refs RF (SeqAt.RcAt.tuples (A:=A) pt TF R7 (e:=λj=>eqB (ds[j]?=es[j]?)) λj h1 h2=>by have :=w6 I ds es A.in1 vs us aW oo rd re rv KP n n' (by show A.units+1+aB ds<cLine;lia) j (by simpa using h1) (by simpa using h2);simpa using this);rw[s1,s2]at this;exact this theorem w6(I:Inv X pins σ H s):∀(ds es:List D)(A:Around)(vs us:List V)(aW oo:List Value),bE H ds vs->bE H es us->Vals vs aW->Vals us oo->Qp ds=true->Qp es=true->A.units+aB ds<cLine->∀(j:Nat)(h1:j<aW.length)(h2:j<oo.length),SeqAt.EqAt A s aW[j] oo[j] (eqB (ds[j]?=es[j]?))
 |[],es,A,vs,us,aW,oo,r,r',k,k',n,n',hu,j,h1,h2=>by cases(show vs=[]from r);cases k;exact absurd h1 (jf _)
 |d::ds,[],A,vs,us,aW,oo,r,r',k,k',n,n',hu,j,h1,h2=>by cases(show us=[]from r');cases k';exact absurd h2 (jf _)
 |d::ds,e::es,A,vs,us,aW,oo,r,r',k,k',n,n',hu,j,h1,h2=>by
  obtain⟨v,vs,rfl,q,t⟩:=r;obtain⟨u,us,rfl,q',t'⟩:=r';have n:(QK d&&Qp ds)=true:=n;have n':(QK e&&Qp es)=true:=n';rw[cf]at n n';have hd:aB (d::ds)=max (depth d) (aB ds):=by simp[aB]
  cases k with
   |cons k1 k2=>
    cases k' with
     |cons k1' k2'=>
      cases j with
       |zero=>
        have :=Dv I d e A v u _ _ q q' k1 k1' n.1 n'.1 (by lia);have e1:eqB ((d::ds)[0]?=(e::es)[0]?)=eqB (d=e):=by
         by_cases h:d=e;·rw[mh h,mh (by rw[h];rfl)]
         ·rw[e9 h,e9 (λz=>h (by simpa using z))]
        rw[e1];exact this
       |succ j=>exact w6 I ds es A vs us _ _ t t' k2 k2' n.2 n'.2 (by lia) j (by simpa using h1) (by simpa using h2)end
end
inductive DX|d(x:D)|tup(xs:List DX)|lst(xs:List DX)
mutual noncomputable def Lz(H:Hp):DX->V->Prop| .d x,v=>Rep H x v| .tup xs,v=>∃a vs,v= .ref a/\H a=some (.tup vs)/\gH H xs vs| .lst xs,v=>∃a vs,v= .ref a/\H a=some (.lst vs)/\gH H xs vs noncomputable def gH(H:Hp):List DX->List V->Prop|[],vs=>vs=[]|x::xs,vs=>∃v r,vs=v::r/\Lz H x v/\gH H xs r end
mutual noncomputable def nbX:DX->Bool| .d x=>QK x| .tup xs=>JS xs| .lst xs=>JS xs noncomputable def JS:List DX->Bool|[]=>true|x::xs=>nbX x&&JS xs end
mutual noncomputable def Q0:DX->Nat| .d x=>depth x| .tup xs=>1+lX xs| .lst xs=>1+lX xs noncomputable def lX:List DX->Nat|[]=>0|x::xs=>max (Q0 x) (lX xs)end
theorem gH.length{H:Hp}:∀{xs:List DX}{vs:List V},gH H xs vs->vs.length=xs.length|[],vs,h=>by rw[show vs=[]from h];rfl|x::xs,_,⟨v,r,e,_,h⟩=>by rw[e,hV,hV,gH.length h]
section
variable{X:Cx}{pins:List (Addr×Obj)}{σ:L2.St}{H:Hp}{s:Shared}
mutual theorem eqX(I:Inv X pins σ H s):∀(x:DX)(A:Around)(v u:V)(a b:Value),Lz H x v->Lz H x u->L2.RelV v a->L2.RelV u b->nbX x=true->A.units+Q0 x<cLine->SeqAt.EqAt A s a b true
 | .d x,A,v,u,a,b,r,r',k,k',n,hu=>by have :=Dv I x x A v u a b r r' k k' n n hu;rw[mh rfl]at this;exact this
 | .tup xs,A,v,u,a,b,r,r',k,k',n,hu=>by
  obtain⟨q,vs,rfl,hq,rd⟩:=r;obtain⟨p,us,rfl,hp,re⟩:=r';cases(show a=Value.ref q from k);cases(show b=Value.ref p from k');obtain⟨aW,rv,pt,_⟩:=I.tuple (bS.of (K:=X.K) hq);obtain⟨oo,KP,TF,_⟩:=I.tuple (bS.of (K:=X.K) hp);have hd:Q0 (.tup xs)=1+lX xs:=by simp[Q0]
  by_cases RF:q=p;·subst RF;exact SeqAt.EqAt.same _
  ·have l1:=rv.length;have l2:=KP.length;have l3:=gH.length rd;have l4:=gH.length re;have :=SeqAt.EqAt.of_refs RF (SeqAt.RcAt.tuples (A:=A) pt TF (by lia) (e:=λ_=>true) λj h1 h2=>by have :=O_ I xs A.in1 vs us aW oo rd re rv KP n (by show A.units+1+lX xs<cLine;lia) j (by simpa using h1) (by simpa using h2);simpa using this);have e:((List.range (min aW.toArray.size oo.toArray.size)).all (λ_=>true)&&aW.toArray.size==oo.toArray.size)=true:=by rw[cf];refine⟨by simp,?_⟩;simp only[cM,beq_iff_eq];lia
   rw[e]at this;exact this
 | .lst xs,A,v,u,a,b,r,r',k,k',n,hu=>by
  obtain⟨q,vs,rfl,hq,rd⟩:=r;obtain⟨p,us,rfl,hp,re⟩:=r';cases(show a=Value.ref q from k);cases(show b=Value.ref p from k');obtain⟨aW,rv,pt,_⟩:=I.list (bN.of (K:=X.K) hq);obtain⟨oo,KP,TF,_⟩:=I.list (bN.of (K:=X.K) hp);have hd:Q0 (.lst xs)=1+lX xs:=by simp[Q0]
  by_cases RF:q=p;·subst RF;exact SeqAt.EqAt.same _
  ·have l1:=rv.length;have l2:=KP.length;have l3:=gH.length rd;have l4:=gH.length re;have :=SeqAt.EqAt.of_refs RF (SeqAt.RcAt.lists (A:=A) pt.isList TF.isList (by simp only[cM];lia) (by lia) (e:=λ_=>true) λj h1 h2=>by have :=O_ I xs A.in1 vs us aW oo rd re rv KP n (by show A.units+1+lX xs<cLine;lia) j (by simpa using h1) (by simpa using h2);simpa using this);have e:((List.range aW.toArray.size).all (λ_=>true))=true:=by simp
   rw[e]at this;exact this theorem O_(I:Inv X pins σ H s):∀(xs:List DX)(A:Around)(vs us:List V)(aW oo:List Value),gH H xs vs->gH H xs us->Vals vs aW->Vals us oo->JS xs=true->A.units+lX xs<cLine->∀(j:Nat)(h1:j<aW.length)(h2:j<oo.length),SeqAt.EqAt A s aW[j] oo[j] true
 |[],A,vs,us,aW,oo,r,r',k,k',n,hu,j,h1,h2=>by cases(show vs=[]from r);cases k;exact absurd h1 (jf _)
 |x::xs,A,vs,us,aW,oo,r,r',k,k',n,hu,j,h1,h2=>by
  obtain⟨v,vs,rfl,q,t⟩:=r;obtain⟨u,us,rfl,q',t'⟩:=r';have n:(nbX x&&JS xs)=true:=n;rw[cf]at n;have hd:lX (x::xs)=max (Q0 x) (lX xs):=by simp[lX]
  cases k with|cons k1 k2=>cases k' with|cons k1' k2'=>cases j with|zero=>exact eqX I x A v u _ _ q q' k1 k1' n.1 (by lia)|succ j=>exact O_ I xs A vs us _ _ t t' k2 k2' n.2 (by lia) j (by simpa using h1) (by simpa using h2)end
end
section
variable{X:Cx}{tg:Expr}
end
end L3
end
section
namespace K25
open PySem L2 L3 KM PyProof.Rows
seal L2.PE L2.PS L2.gT L2.PT L2.PW L2.PA L2.PG L2.uX L2.PI L2.PC L2.PO L2.DC L2.PK L3.vF L3.PH L3.PB
variable{P:Program}{w:World}{K:PySem.W.Frag}{mg:Str->Option Value}{base:Heap}{t:ve}
theorem qX:∀(pl:List Int)(d g:D),Wf d->goto d pl=some g->Wf g/\pl.length+depth g<=depth d
 |[],d,g,h,z=>by rw[goto]at z;cases z;exact⟨h,by simp⟩
 |i::is,d,g,h,z=>by
  cases c:dz d i with
   |none=>rw[il c]at z;cases z
   |some p=>
    rw[eR c]at z;obtain⟨a,b⟩:=qX is p g (mi h c) z;have :depth p<depth d:=by
     obtain⟨k,h⟩:=h;obtain⟨x,ps,rfl⟩:=cU h;unfold dz at c;split at c;·exact(eQ h c).2
     ·cases c
    exact⟨a,by rw[hV];omega⟩
theorem ND{e g:D}:∀(pl:List Int)(d:D),Wf d->goto d pl=some g->depth (putD d pl e)<=depth d+(pl.length+depth e-depth d)|[],d,_,_=>by rw[putD,List.length_nil];omega|i::is,d,⟨k,h⟩,z=>by obtain⟨x,ps,rfl⟩:=cU h;cases a:dz (.tup (.str x::ps)) i with|none=>rw[il a]at z;cases z|some p=>rw[eR a]at z;rw[tq a];obtain⟨i0,j,b⟩:=ir a;have a2:=ND (e:=e) is p (mi ⟨k,h⟩ a) z;have c:=nU b;have f:=wX (q:=putD p is e) (m:=aB ps+(is.length+depth e-aB ps)) (by omega) (ps:=ps) (i:=i.toNat) (by omega);rw[hV];simp only[depth,aB];omega
theorem iZ{k:Bool}{x s:Str}{ps:List D}(cs:List Nat)(b:cY x= .str s)(hc:s.cps.toList=cs)(h:bh ao k (.tup (.str x::ps))=true):fC x=k/\dQ ao cs ps=true:=by obtain⟨s',e1,e2,a,_⟩:=bB h;rw[b]at e1;cases e1;rw[hc]at a;exact⟨e2,a⟩
theorem ye{k:Bool}{a b:D}(h:bh ao k (.tup [.str "app",a,b])=true):k=false/\bh ao false a=true/\bh ao false b=true:=by obtain⟨e2,c⟩:=iZ [116,116] (s:="tt") (by decide+kernel) (by decide+kernel) h;rw[show fC "app"=false by decide+kernel]at e2;simp[dQ]at c;exact⟨e2.symm,c.1,c.2⟩
theorem yc{k:Bool}{a b:D}(h:bh ao k (.tup [.str "fun",a,b])=true):bh ao true a=true/\bh ao false b=true:=by obtain⟨e2,c⟩:=iZ [107,116] (s:="kt") (by decide+kernel) (by decide+kernel) h;simp[dQ]at c;exact⟨c.1,c.2⟩
theorem Lb{k:Bool}{a:D}(h:bh ao k (.tup [.str "next",a])=true):bh ao false a=true:=by obtain⟨e2,b⟩:=iZ [116] (s:="t") (by decide+kernel) (by decide+kernel) h;simp[dQ]at b;exact b
theorem nO{k:Bool}{a:D}(h:bh ao k (.tup [.str "first",a])=true):k=false/\bh ao false a=true:=by obtain⟨e2,b⟩:=iZ [116] (s:="t") (by decide+kernel) (by decide+kernel) h;rw[show fC "first"=false by decide+kernel]at e2;simp[dQ]at b;exact⟨e2.symm,b⟩
theorem kN{k:Bool}{a:D}(h:bh ao k (.tup [.str "second",a])=true):k=false/\bh ao false a=true:=by obtain⟨e2,b⟩:=iZ [116] (s:="t") (by decide+kernel) (by decide+kernel) h;rw[show fC "second"=false by decide+kernel]at e2;simp[dQ]at b;exact⟨e2.symm,b⟩
theorem BZ{k:Bool}{a b c:D}(h:bh ao k (.tup [.str "pair",a,b,c])=true):bh ao false b=true/\bh ao false c=true:=by obtain⟨e2,d⟩:=iZ [107,116,116] (s:="ktt") (by decide+kernel) (by decide+kernel) h;simp[dQ]at d;exact⟨d.2.1,d.2.2⟩
theorem IQ{k:Bool}{a b c:D}(h:bh ao k (.tup [.str "carry",a,b,c])=true):k=false/\bh ao false b=true/\bh ao false c=true:=by obtain⟨e2,d⟩:=iZ [107,116,116] (s:="ktt") (by decide+kernel) (by decide+kernel) h;rw[show fC "carry"=false by decide+kernel]at e2;simp[dQ]at d;exact⟨e2.symm,d.2.1,d.2.2⟩
theorem ym{k:Bool}{a b c d:D}(h:bh ao k (.tup [.str "rec",a,b,c,d])=true):k=false/\bh ao true a=true/\bh ao false b=true/\bh ao false c=true/\bh ao false d=true:=by obtain⟨e2,e⟩:=iZ [107,116,116,116] (s:="kttt") (by decide+kernel) (by decide+kernel) h;rw[show fC "rec"=false by decide+kernel]at e2;simp[dQ]at e;exact⟨e2.symm,e.1,e.2.1,e.2.2.1,e.2.2.2⟩
theorem MJ{k:Bool}{a:D}(h:bh ao k (.tup [.str "name",a])=true):k=false:=by obtain⟨e2,b⟩:=iZ [119] (s:="w") (by decide+kernel) (by decide+kernel) h;rw[show fC "name"=false by decide+kernel]at e2;exact e2.symm
def Ur(inb:Str->Bool)(B:Str->D):Prop:=∀y,inb y=true->bh ao false (B y)=true/\depth (B y)<=16
theorem gD{x:Str}{ds:List D}{d:D}(h:d∈ds):depth d<depth (.tup (.str x::ds)):=by
 have e:∀(l:List D),d∈l->depth d<=aB l:=λl=>by
  induction l with
   |nil=>intro h;cases h
   |cons a l b=>
    intro h;rw[aB];rcases List.mem_cons.mp h with rfl|h;·exact Nat.le_max_left _ _
    ·exact cS (b h) (Nat.le_max_right _ _)
 have c:=e ds h;rw[depth,aB];exact Nat.lt_of_le_of_lt c (Nat.lt_of_le_of_lt (Nat.le_max_right _ _) (by rw[Nat.add_comm];exact Nat.lt_succ_self _))
theorem E6{x:Str}{ds:List D}{m:Nat}(h:∀d∈ds,depth d<=m):depth (.tup (.str x::ds))<=1+m:=by
 have c:∀(l:List D),(∀d∈l,depth d<=m)->aB l<=m:=λl=>by induction l with|nil=>intro _;exact d4 _|cons a l b=>intro h;rw[aB];exact Nat.max_le.mpr ⟨h a eC,b λd hd=>h d (dX _ hd)⟩
 rw[depth,aB];exact Nat.add_le_add_left (Nat.max_le.mpr ⟨d4 _,c ds h⟩) 1
theorem wA{inb:Str->Bool}{B:Str->D}{e e':D}{r:Str}{g k:Bool}(E:Ur inb B)(h:Ec B e r e' g)(wf:bh ao k e=true)(F:bG inb e= .str r):bh ao k e'=true/\(depth e'+3<=2*depth e\/depth e'<=depth e+1\/depth e'<=16):=by
 have j:∀{d:D},depth d<depth e->(depth d+3<=2*depth e\/depth d<=depth e+1\/depth d<=16):=λh=> .inr (.inl (by lia));cases h with
  |fn G H C A rz=>rename_i c bd o;obtain⟨rfl,f,i⟩:=ye wf;obtain⟨p,l⟩:=yc f;obtain⟨q1,_,q3,_⟩:=fV (o:=o) (at_:=0) (Int.le_refl 0) i A 58 0 bd false (Int.le_refl 0) C l;refine⟨q1,?_⟩;have a1:depth o<_:=gD (x:="app") (ds:=[.tup [.str "fun",c,bd],o]) (by simp);have a2:depth bd<_:=gD (x:="fun") (ds:=[c,bd]) (by simp);have a3:depth (.tup [.str "fun",c,bd])<_:=gD (x:="app") (ds:=[.tup [.str "fun",c,bd],o]) (by simp);exact .inl (cS (Nat.add_le_add_right q3 3) (by lia))
  |zero=>obtain⟨rfl,w0,f,i,p⟩:=ym wf;exact⟨f,j (gD (by simp))⟩
  |yq=>obtain⟨rfl,f,i⟩:=IQ wf;exact⟨f,j (gD (by simp))⟩
  |next=>
   rename_i k b s n;obtain⟨rfl,w0,f,i,p⟩:=ym wf;have l:=Lb p;refine⟨xN (xN i l) (Eh w0 f i l),?_⟩;have b0:depth k<_:=gD (x:="rec") (ds:=[k,b,s, .tup [.str "next",n]]) (by simp);have b1:depth b<_:=gD (x:="rec") (ds:=[k,b,s, .tup [.str "next",n]]) (by simp);have q:depth s<_:=gD (x:="rec") (ds:=[k,b,s, .tup [.str "next",n]]) (by simp);have v:depth (.tup [.str "next",n])<_:=gD (x:="rec") (ds:=[k,b,s, .tup [.str "next",n]]) (by simp);have z:depth n<_:=gD (x:="next") (ds:=[n]) (by simp);have u:depth n<_:=Nat.lt_trans z v;have up:∀{m:Nat},m<depth (.tup [.str "rec",k,b,s, .tup [.str "next",n]])->m<=depth (.tup [.str "rec",k,b,s, .tup [.str "next",n]])-1:=λh=>by lia
   have c1:depth (.tup [.str "app",s,n])<=depth (.tup [.str "rec",k,b,s, .tup [.str "next",n]]):=cS (E6 λd hd=>by
    simp only[eB,fH,or_false]at hd;rcases hd with rfl|rfl;·exact up q
    ·exact up u) (by lia);have c2:depth (.tup [.str "rec",k,b,s,n])<=depth (.tup [.str "rec",k,b,s, .tup [.str "next",n]]):=cS (E6 λd hd=>by
    simp only[eB,fH,or_false]at hd;rcases hd with rfl|rfl|rfl|rfl;·exact up b0
    ·exact up b1
    ·exact up q
    ·exact up u) (by lia);refine .inr (.inl (cS (E6 (m:=depth (.tup [.str "rec",k,b,s, .tup [.str "next",n]])) λd hd=>?_) (by lia)));simp only[eB,fH,or_false]at hd;rcases hd with rfl|rfl;·exact c1
   ·exact c2
  |first=>obtain⟨rfl,w0⟩:=nO wf;rename_i c y;have a1:depth (.tup [.str "pair",c,e',y])<_:=gD (x:="first") (ds:=[.tup [.str "pair",c,e',y]]) (by simp);exact⟨(BZ w0).1,j (Nat.lt_trans (gD (by simp)) a1)⟩
  |second=>obtain⟨rfl,w0⟩:=kN wf;rename_i c x;have a1:depth (.tup [.str "pair",c,x,e'])<_:=gD (x:="second") (ds:=[.tup [.str "pair",c,x,e']]) (by simp);exact⟨(BZ w0).2,j (Nat.lt_trans (gD (by simp)) a1)⟩
  |name=>rename_i y;cases MJ wf;obtain⟨a,b⟩:=E y (nF F);exact⟨a, .inr (.inr b)⟩
theorem iC{k:Bool}{x s:Str}{ps:List D}(n:Nat)(a:cY x= .str s)(hc:s.cps.toList.length=n)(h:bh ao k (.tup (.str x::ps))=true):ps.length=n:=by obtain⟨s',e1,_,_,_,b,_⟩:=bB h;rw[a]at e1;cases e1;omega
theorem ZO{ps:List D}(h:ps.length=2):∃a b,ps=[a,b]:=by match ps,h with|[a,b],_=>exact⟨a,b,rfl⟩
theorem ET{ps:List D}(h:ps.length=3):∃a b c,ps=[a,b,c]:=by match ps,h with|[a,b,c],_=>exact⟨a,b,c,rfl⟩
theorem four{ps:List D}(h:ps.length=4):∃a b c d,ps=[a,b,c,d]:=by match ps,h with|[a,b,c,d],_=>exact⟨a,b,c,d,rfl⟩
theorem N7{inb:Str->Bool}{B:Str->D}{e:D}{r:Str}{k:Bool}(wf:bh ao k e=true)(hd:depth e<=45)(f:bG inb e= .str r):∃p:D×Bool,Ec B e r p.1 p.2:=by
 obtain⟨x,ps,rfl⟩:=cU wf;have f:bZ inb x ps= .str r:=f;unfold bZ at f;by_cases c1:x="name"
 ·subst c1;rw[if_pos rfl]at f;obtain⟨y,rfl⟩:=fW wf;have f:(if inb y=true then V.str "name"else .aP)= .str r:=f;split at f;·cases f;exact⟨(B y,false), .name⟩
  ·cases f
 rw[if_neg c1]at f;by_cases c2:x="app"
 ·subst c2;rw[if_pos rfl]at f;obtain⟨a,b,rfl⟩:=ZO (iC 2 (s:="tt") (by decide+kernel) (by decide+kernel) wf);obtain⟨_,j,v⟩:=ye wf;obtain⟨y,i,rfl⟩:=cU j;have f:(if y="fun"then V.str "fun"else .aP)= .str r:=f;split at f
  ·rename_i g;subst g;cases f;obtain⟨z,bd,rfl⟩:=ZO (iC 2 (s:="kt") (by decide+kernel) (by decide+kernel) j);obtain⟨A,h⟩:=yc j;have h1:depth bd<45:=by simp only[depth,aB]at hd;omega
   have h2:depth b<45:=by simp only[depth,aB]at hd;omega
   obtain⟨q1,_,q3,_⟩:=fV (o:=b) (at_:=0) (Int.le_refl 0) v (by omega) 58 0 bd false (Int.le_refl 0) (by omega) h;exact⟨(zW b 0 bd,cR (zW b 0 bd)), .fn ⟨_,h⟩ ⟨_,v⟩ (by omega) (by omega) ⟨⟨_,q1⟩,by show depth (gv (jh b 0) 58 0 bd)<100;omega,d4 _⟩⟩
  ·cases f
 rw[if_neg c2]at f;by_cases l:x="carry"
 ·subst l;rw[if_pos rfl]at f;obtain⟨a,b,c,rfl⟩:=ET (iC 3 (s:="ktt") (by decide+kernel) (by decide+kernel) wf);have f:(if jg c="like"then V.str "like"else .aP)= .str r:=f;split at f;·cases f;exact⟨(b,false), .yq⟩
  ·cases f
 rw[if_neg l]at f;by_cases n:x="first"
 ·subst n;rw[if_pos rfl]at f;obtain⟨a,rfl⟩:=List.length_eq_one_iff.mp (iC 1 (s:="t") (by decide+kernel) (by decide+kernel) wf);obtain⟨y,i,rfl⟩:=cU (nO wf).2;have f:(if y="pair"then V.str "first"else .aP)= .str r:=f;split at f;·rename_i g;subst g;cases f;obtain⟨a,b,c,rfl⟩:=ET (iC 3 (s:="ktt") (by decide+kernel) (by decide+kernel) (nO wf).2);exact⟨(b,false), .first⟩
  ·cases f
 rw[if_neg n]at f;by_cases q:x="second"
 ·subst q;rw[if_pos rfl]at f;obtain⟨a,rfl⟩:=List.length_eq_one_iff.mp (iC 1 (s:="t") (by decide+kernel) (by decide+kernel) wf);obtain⟨y,i,rfl⟩:=cU (kN wf).2;have f:(if y="pair"then V.str "second"else .aP)= .str r:=f;split at f;·rename_i g;subst g;cases f;obtain⟨a,b,c,rfl⟩:=ET (iC 3 (s:="ktt") (by decide+kernel) (by decide+kernel) (kN wf).2);exact⟨(c,false), .second⟩
  ·cases f
 rw[if_neg q]at f;by_cases u:x="rec"
 ·subst u;rw[if_pos rfl]at f;obtain⟨a,b,c,d,rfl⟩:=four (iC 4 (s:="kttt") (by decide+kernel) (by decide+kernel) wf);obtain⟨_,_,_,_,h⟩:=ym wf;obtain⟨y,i,rfl⟩:=cU h;have f:(if y="zero"then V.str "zero"else if y="next"then V.str "next"else .aP)= .str r:=f;split at f;·cases f;exact⟨(b,false), .zero⟩
  split at f;·rename_i g;subst g;cases f;obtain⟨m,rfl⟩:=List.length_eq_one_iff.mp (iC 1 (s:="t") (by decide+kernel) (by decide+kernel) h);exact⟨(_,false), .next⟩
  ·cases f
 rw[if_neg u]at f;cases f
open Classical in noncomputable def pT(B:Str->D)(e:D)(r:Str):D×Bool:=if h:∃p:D×Bool,Ec B e r p.1 p.2 then h.choose else(.aP,false)
theorem GW{B:Str->D}{e:D}{r:Str}(h:∃p:D×Bool,Ec B e r p.1 p.2):Ec B e r (pT B e r).1 (pT B e r).2:=by unfold pT;rw[dif_pos h];exact h.choose_spec
noncomputable def M4(B:Str->D)(d:D)(pl:List Int)(e:D)(r:Str):D:=putD d pl (pT B e r).1
noncomputable def TQ(B:Str->D)(d:D)(pl:List Int)(e:D)(r:Str):Bool:=(pT B e r).2||cR (M4 B d pl e r)
structure Td(d:D):Prop where
 wf:Wf d
 dp:depth d<=40
 kn:aJ d<=300000
theorem stC{inb:Str->Bool}{B:Str->D}{d e:D}{pl:List Int}{r:Str}(g:Ur inb B)(h:Td d)(a:goto d pl=some e)(c:bG inb e= .str r):J8 inb B d pl r (pT B e r).1 (pT B e r).2/\(TQ B d pl e r=false->Td (M4 B d pl e r)):=by obtain⟨⟨k,wf⟩,hd,_⟩:=h;obtain⟨⟨i,b⟩,n⟩:=qX pl d e ⟨k,wf⟩ a;have ha:=GW (N7 (B:=B) b (by omega) c);obtain⟨j,l⟩:=wA g ha b c;have f:=yo b j pl d k wf a;have m:=ND (e:=(pT B e r).1) pl d ⟨k,wf⟩ a;refine⟨⟨⟨e,a,⟨i,b⟩,c,ha⟩,⟨k,wf⟩,by omega,⟨⟨k,f⟩,by omega,d4 _⟩⟩,λh=>?_⟩;have h2:=m8 ((Bool.or_eq_false_iff.mp h).2);exact⟨⟨k,f⟩,h2.1,cS h2.2 (by decide)⟩
noncomputable abbrev Lg:=List Int×Str
noncomputable def lgD(r:Lg):D:= .tup [RN r.1, .str r.2]
inductive Wr|th(d:D)|pl|st|gr
theorem D4{inb:Str->Bool}{d:D}(h:Wf d):bG inb d= .aP\/∃r:Str,bG inb d= .str r:=by
 obtain⟨k,h⟩:=h;obtain⟨x,ps,rfl⟩:=cU h;show bZ inb x ps= .aP\/∃r:Str,bZ inb x ps= .str r;unfold bZ GG;repeat' split
 all_goals first|exact .inl rfl|exact .inr ⟨_,rfl⟩
structure ach(H:Hp)(B:Str->D)(d:D)(v:V)(b:Addr)(aF:List (Key×V))(rows:List Lg)(us:List V)(T1 T2:Addr):Prop where
 rd:Rep H d v
 td:Td d
 rr:bE H (rows.map lgD) us
 hb:H b=some (.dK aF)
 br:Kh H aF B
 bb:Ur (eU aF) B
 tb:Kd H T1 T2
end K25
end
section
namespace CF
open PySem
inductive Wd|app|fn|rc|zero|next|carry|yq|first|second|pair|o(x:Str)
inductive T|z|v(i:Nat)|n(x:Str)|f(x:Wd)(a b c d:T)
noncomputable def b0:Wd->Nat| .rc=>1| .carry=>1|_=>0
noncomputable def b1:Wd->Nat| .fn=>1| .o x=>if x="all"\/x="some"then 1 else 0|_=>0
noncomputable def zG(k:Nat)(r:Nat->Nat)(i:Nat):Nat:=if i<k then i else r (i-k)+k
noncomputable def gj(r:Nat->Nat):T->T| .z=> .z| .v i=> .v (r i)| .n x=> .n x| .f x a b c d=> .f x (gj (zG (b0 x) r) a) (gj (zG (b1 x) r) b) (gj r c) (gj r d)
noncomputable def ups(k:Nat)(s:Nat->T)(i:Nat):T:=if i<k then .v i else gj (·+k) (s (i-k))
noncomputable def sb(s:Nat->T):T->T| .z=> .z| .v i=>s i| .n x=> .n x| .f x a b c d=> .f x (sb (ups (b0 x) s) a) (sb (ups (b1 x) s) b) (sb s c) (sb s d)
noncomputable def Oa(a:T):Nat->T|0=>a|i+1=> .v i
theorem Yp(k:Nat)(r s:Nat->Nat):(λi=>zG k r (zG k s i))=zG k λi=>r (s i):=by
 funext i;unfold zG;by_cases h:i<k;·rw[if_pos h,if_pos h,if_pos h]
 ·rw[if_neg h,if_neg h,if_neg (by omega),Nat.add_sub_cancel]
theorem AS(t:T):∀(r s:Nat->Nat),gj r (gj s t)=gj (λi=>r (s i)) t:=by induction t with|z=>intro r s;rfl|v i=>intro r s;rfl|n x=>intro r s;rfl|f x a b c d ha hb hc hd=>intro r s;simp only[gj,ha,hb,hc,hd,Yp]
theorem Y7(k:Nat)(s:Nat->T)(r:Nat->Nat):(λi=>ups k s (zG k r i))=ups k λi=>s (r i):=by
 funext i;unfold ups zG;by_cases h:i<k;·rw[if_pos h,if_pos h,if_pos h]
 ·rw[if_neg h,if_neg h,if_neg (by omega),Nat.add_sub_cancel]
theorem Fv(t:T):∀(s:Nat->T)(r:Nat->Nat),sb s (gj r t)=sb (λi=>s (r i)) t:=by induction t with|z=>intro s r;rfl|v i=>intro s r;rfl|n x=>intro s r;rfl|f x a b c d ha hb hc hd=>intro s r;simp only[gj,sb,ha,hb,hc,hd,Y7]
theorem ZT(k:Nat)(r:Nat->Nat)(s:Nat->T):(λi=>gj (zG k r) (ups k s i))=ups k λi=>gj r (s i):=by
 funext i;unfold ups;by_cases h:i<k;·rw[if_pos h,if_pos h];simp only[gj,zG,if_pos h]
 ·rw[if_neg h,if_neg h,AS,AS];congr 1;funext j;unfold zG;rw[if_neg (by omega),Nat.add_sub_cancel]
theorem N_(t:T):∀(r:Nat->Nat)(s:Nat->T),gj r (sb s t)=sb (λi=>gj r (s i)) t:=by induction t with|z=>intro r s;rfl|v i=>intro r s;rfl|n x=>intro r s;rfl|f x a b c d ha hb hc hd=>intro r s;simp only[gj,sb,ha,hb,hc,hd,ZT]
theorem XN(k:Nat)(s u:Nat->T):(λi=>sb (ups k s) (ups k u i))=ups k λi=>sb s (u i):=by
 funext i;unfold ups;by_cases h:i<k;·rw[if_pos h,if_pos h];simp only[sb,if_pos h]
 ·rw[if_neg h,if_neg h,Fv,N_];congr 1;funext j;rw[if_neg (by omega),Nat.add_sub_cancel]
theorem RP(t:T):∀(s u:Nat->T),sb s (sb u t)=sb (λi=>sb s (u i)) t:=by induction t with|z=>intro s u;rfl|v i=>intro s u;rfl|n x=>intro s u;rfl|f x a b c d ha hb hc hd=>intro s u;simp only[sb,ha,hb,hc,hd,XN]
noncomputable def Cl:Nat->T->Prop|_, .z=>True|b, .v i=>i<b|_, .n _=>True|b, .f x p q r s=>Cl (b+b0 x) p/\Cl (b+b1 x) q/\Cl b r/\Cl b s
theorem Wn(t:T):∀(b:Nat)(r:Nat->Nat),Cl b t->(∀i,i<b->r i=i)->gj r t=t:=by
 induction t with
  |z=>intro b r _ _;rfl
  |v i=>intro b r h e;simp only[gj,e i h]
  |n x=>intro b r _ _;rfl
  |f x a b' c d ha hb hc hd=>
   intro b r h e;have u:∀k i,i<b+k->zG k r i=i:=λk i hi=>by
    unfold zG;split;·rfl
    ·rw[e _ (by omega)];omega
   simp only[gj,ha _ _ h.1 (u _),hb _ _ h.2.1 (u _),hc _ _ h.2.2.1 e,hd _ _ h.2.2.2 e]
theorem aab(t:T):∀(b:Nat)(s:Nat->T),Cl b t->(∀i,i<b->s i= .v i)->sb s t=t:=by
 induction t with
  |z=>intro b s _ _;rfl
  |v i=>intro b s h e;exact e i h
  |n x=>intro b s _ _;rfl
  |f x a b' c d ha hb hc hd=>
   intro b s h e;have u:∀k i,i<b+k->ups k s i= .v i:=λk i hi=>by
    unfold ups;split;·rfl
    ·rw[e _ (by omega)];simp only[gj];congr 1;omega
   simp only[sb,ha _ _ h.1 (u _),hb _ _ h.2.1 (u _),hc _ _ h.2.2.1 e,hd _ _ h.2.2.2 e]
inductive rK:T->T->Prop|app{k e p q b c d}:rK (.f .app (.f .fn k e p q) b c d) (sb (Oa b) e)|rz{a b c p q r s}:rK (.f .rc a b c (.f .zero p q r s)) b|rn{a b c m p q r}:rK (.f .rc a b c (.f .next m p q r)) (.f .app (.f .app c m .z .z) (.f .rc a b c m) .z .z)|ca{a b p q r s d}:rK (.f .carry a b (.f .yq p q r s) d) b|fi{p e q r b c d}:rK (.f .first (.f .pair p e q r) b c d) e|se{p q e r b c d}:rK (.f .second (.f .pair p q e r) b c d) e
theorem rK.one{t e e':T}(h:rK t e)(h':rK t e'):e=e':=by cases h<;>cases h'<;>rfl
theorem rK.gj{t e:T}(h:rK t e)(r:Nat->Nat):rK (gj r t) (gj r e):=by
 cases h with
  |@app k e p q b c d=>
   have :CF.gj r (sb (Oa b) e)=sb (Oa (CF.gj r b)) (CF.gj (zG 1 r) e):=by rw[N_,Fv];congr 1;funext i;cases i with|zero=>rfl|succ i=>simp[Oa,zG,CF.gj]
   rw[this];exact .app
  |rz=>exact .rz
  |rn=>exact .rn
  |ca=>exact .ca
  |fi=>exact .fi
  |se=>exact .se
theorem Nh(t:T):∀r:Nat->Nat,(∀i,r i=i)->gj r t=t:=by
 induction t with
  |z=>intro r _;rfl
  |v i=>intro r h;simp only[gj,h]
  |n x=>intro r _;rfl
  |f x a b c d ha hb hc hd=>
   intro r h;have u:∀k i,zG k r i=i:=λk i=>by
    unfold zG;split;·rfl
    ·rw[h];omega
   simp only[gj,ha _ (u _),hb _ (u _),hc _ h,hd _ h]
theorem wg(s:Nat->T):ups 0 s=s:=by funext i;unfold ups;rw[if_neg (jf _)];exact Nh _ _ λi=>rfl
theorem QN(b:T)(s:Nat->T):(λi=>sb (Oa b) (ups 1 s i))=λi=>match i with|0=>b|i+1=>s i:=by
 funext i;cases i with
  |zero=>rfl
  |succ i=>
   show sb (Oa b) (if i+1<1 then _ else CF.gj (·+1) (s (i+1-1)))=s i;rw[if_neg (by omega),Fv,Nat.add_sub_cancel];have :∀t:T,sb (λj=>Oa b (j+1)) t=t:=λt=>by
    have e:∀(t:T),sb T.v t=t:=λt=>by
     induction t with
      |z=>rfl
      |v i=>rfl
      |n x=>rfl
      |f x a b c d ha hb hc hd=>
       have u:∀k,ups k T.v=T.v:=λk=>by
        funext i;unfold ups;split;·rfl
        ·simp only[CF.gj];congr 1;omega
       simp only[sb,u,ha,hb,hc,hd]
    exact e t
   exact this _
theorem rK.sb{t e:T}(h:rK t e)(s:Nat->T):rK (sb s t) (sb s e):=by
 cases h with
  |@app k e p q b c d=>
   have :CF.sb s (CF.sb (Oa b) e)=CF.sb (Oa (CF.sb s b)) (CF.sb (ups 1 s) e):=by rw[RP,RP,QN];congr 1;funext i;cases i with|zero=>rfl|succ i=>rfl
   rw[this];simp only[CF.sb,b0,b1,wg];exact .app
  |rz=>simp only[CF.sb,b0,b1,wg];exact .rz
  |rn=>simp only[CF.sb,b0,b1,wg];exact .rn
  |ca=>simp only[CF.sb,b0,b1,wg];exact .ca
  |fi=>simp only[CF.sb,b0,b1,wg];exact .fi
  |se=>simp only[CF.sb,b0,b1,wg];exact .se
section
variable{inb:Str->Bool}{B:Str->T}
inductive fZ(inb:Str->Bool)(B:Str->T):T->T->Prop|z:fZ inb B .z .z|v{i}:fZ inb B (.v i) (.v i)|n{x}:fZ inb B (.n x) (.n x)|d{x}:inb x=true->fZ inb B (.n x) (B x)|c{x a b c d a' b' c' d'}:fZ inb B a a'->fZ inb B b b'->fZ inb B c c'->fZ inb B d d'->fZ inb B (.f x a b c d) (.f x a' b' c' d')|r{x a b c d a' b' c' d' e}:fZ inb B a a'->fZ inb B b b'->fZ inb B c c'->fZ inb B d d'->rK (.f x a' b' c' d') e->fZ inb B (.f x a b c d) e
theorem fZ.refl(t:T):fZ inb B t t:=by induction t with|z=>exact .z|v i=>exact .v|n x=>exact .n|f x p q r s h1 h2 h3 h4=>exact .c h1 h2 h3 h4
theorem fZ.gj(b:∀x,inb x=true->Cl 0 (B x)){t u:T}(h:fZ inb B t u):∀r:Nat->Nat,fZ inb B (gj r t) (gj r u):=by induction h with|z=>intro r;exact .z|v=>intro r;exact .v|n=>intro r;exact .n|d a=>intro r;rw[Wn _ 0 _ (b _ a) λi hi=>absurd hi (jf _)];exact .d a|c _ _ _ _ ha hb hc hd=>intro r;exact .c (ha _) (hb _) (hc _) (hd _)|r _ _ _ _ h ha hb hc hd=>intro r;exact .r (ha _) (hb _) (hc _) (hd _) (h.gj r)
theorem fZ.sb(b:∀x,inb x=true->Cl 0 (B x)){t u:T}(h:fZ inb B t u):∀s s':Nat->T,(∀i,fZ inb B (s i) (s' i))->fZ inb B (sb s t) (sb s' u):=by
 have up:∀(k:Nat)(s s':Nat->T),(∀i,fZ inb B (s i) (s' i))->∀i,fZ inb B (ups k s i) (ups k s' i):=λk s s' a i=>by
  unfold ups;split;·exact .v
  ·exact(a _).gj b _
 induction h with|z=>intro s s' _;exact .z|v=>intro s s' a;exact a _|n=>intro s s' _;exact .n|d e=>intro s s' _;rw[aab _ 0 _ (b _ e) λi hi=>absurd hi (jf _)];exact .d e|c _ _ _ _ ha hb hc hd=>intro s s' a;exact .c (ha _ _ (up _ _ _ a)) (hb _ _ (up _ _ _ a)) (hc _ _ a) (hd _ _ a)|r _ _ _ _ h ha hb hc hd=>intro s s' a;exact .r (ha _ _ (up _ _ _ a)) (hb _ _ (up _ _ _ a)) (hc _ _ a) (hd _ _ a) (h.sb s')
theorem rK.par(g:∀x,inb x=true->Cl 0 (B x)){x:Wd}{a b c d a' b' c' d' e:T}(h:rK (.f x a b c d) e)(ha:fZ inb B a a')(hb:fZ inb B b b')(hc:fZ inb B c c')(hd:fZ inb B d d'):∃e',rK (.f x a' b' c' d') e'/\fZ inb B e e':=by
 cases h with
  |app=>cases ha with|c h1 h2 h3 h4=>exact⟨_, .app,h2.sb g _ _ λi=>by cases i with|zero=>exact hb|succ i=>exact .v⟩|r h1 h2 h3 h4 h5=>cases h5
  |rz=>cases hd with|c h1 h2 h3 h4=>exact⟨_, .rz,hb⟩|r h1 h2 h3 h4 h5=>cases h5
  |rn=>cases hd with|c h1 h2 h3 h4=>exact⟨_, .rn, .c (.c hc h1 .z .z) (.c ha hb hc h1) .z .z⟩|r h1 h2 h3 h4 h5=>cases h5
  |ca=>cases hc with|c h1 h2 h3 h4=>exact⟨_, .ca,hb⟩|r h1 h2 h3 h4 h5=>cases h5
  |fi=>cases ha with|c h1 h2 h3 h4=>exact⟨_, .fi,h2⟩|r h1 h2 h3 h4 h5=>cases h5
  |se=>cases ha with|c h1 h2 h3 h4=>exact⟨_, .se,h3⟩|r h1 h2 h3 h4 h5=>cases h5
theorem fZ.meet(y:∀x,inb x=true->Cl 0 (B x))(t:T):∀{u v:T},fZ inb B t u->fZ inb B t v->∃w,fZ inb B u w/\fZ inb B v w:=by
 induction t with
  |z=>intro u v h h';cases h;cases h';exact⟨_, .z, .z⟩
  |v i=>intro u v h h';cases h;cases h';exact⟨_, .v, .v⟩
  |n x=>
   intro u v h h';cases h with
    |n=>cases h' with|n=>exact⟨_, .n, .n⟩|d E=>exact⟨_, .d E, .refl _⟩
    |d E=>cases h' with|n=>exact⟨_, .refl _, .d E⟩|d _=>exact⟨_, .refl _, .refl _⟩
  |f x a b c d A C D id=>
   intro u v h h';cases h with
    |c ha hb hc hd=>cases h' with|c l m o p=>obtain⟨G,a1,a2⟩:=A ha l;obtain⟨H,b1,g⟩:=C hb m;obtain⟨I,c1,c2⟩:=D hc o;obtain⟨J,j,k⟩:=id hd p;exact⟨_, .c a1 b1 c1 j, .c a2 g c2 k⟩|r l m o p F=>obtain⟨G,a1,a2⟩:=A ha l;obtain⟨H,b1,g⟩:=C hb m;obtain⟨I,c1,c2⟩:=D hc o;obtain⟨J,j,k⟩:=id hd p;obtain⟨e,s,q⟩:=F.par y a2 g c2 k;exact⟨e, .r a1 b1 c1 j s,q⟩
    |r ha hb hc hd r=>cases h' with|c l m o p=>obtain⟨G,a1,a2⟩:=A ha l;obtain⟨H,b1,g⟩:=C hb m;obtain⟨I,c1,c2⟩:=D hc o;obtain⟨J,j,k⟩:=id hd p;obtain⟨e,s,q⟩:=r.par y a1 b1 c1 j;exact⟨e,q, .r a2 g c2 k s⟩|r l m o p F=>obtain⟨G,a1,a2⟩:=A ha l;obtain⟨H,b1,g⟩:=C hb m;obtain⟨I,c1,c2⟩:=D hc o;obtain⟨J,j,k⟩:=id hd p;obtain⟨e,s,q⟩:=r.par y a1 b1 c1 j;obtain⟨e',L,K⟩:=F.par y a2 g c2 k;exact⟨e,q,s.one L▸K⟩
inductive Way(inb:Str->Bool)(B:Str->T):T->T->Prop|nil{t}:Way inb B t t|cons{t u v}:fZ inb B t u->Way inb B u v->Way inb B t v
theorem Way.app{t u v:T}(h:Way inb B t u)(h':Way inb B u v):Way inb B t v:=by induction h with|nil=>exact h'|cons p _ a=>exact .cons p (a h')
theorem Way.strip(c:∀x,inb x=true->Cl 0 (B x)){t v:T}(h':Way inb B t v):∀{u:T},fZ inb B t u->∃w,Way inb B u w/\fZ inb B v w:=by induction h' with|nil=>intro u h;exact⟨u, .nil,h⟩|cons p _ d=>intro u h;obtain⟨w,a,b⟩:=fZ.meet c _ h p;obtain⟨e,a',b'⟩:=d b;exact⟨e, .cons a a',b'⟩
theorem Way.meet(c:∀x,inb x=true->Cl 0 (B x)){t u:T}(h:Way inb B t u):∀{v:T},Way inb B t v->∃w,Way inb B u w/\Way inb B v w:=by induction h with|nil=>intro v h';exact⟨v,h', .nil⟩|cons p _ d=>intro v h';obtain⟨w,a,b⟩:=h'.strip c p;obtain⟨e,a',b'⟩:=d a;exact⟨e,a', .cons b b'⟩
noncomputable def Bb(inb:Str->Bool):T->Prop| .z=>True| .v _=>True| .n x=>inb x=false| .f x a b c d=>(∀e,¬rK (.f x a b c d) e)/\Bb inb a/\Bb inb b/\Bb inb c/\Bb inb d
theorem Bb.pO{t u:T}(p:fZ inb B t u):Bb inb t->u=t:=by induction p with|z=>intro _;rfl|v=>intro _;rfl|n=>intro _;rfl|d a=>intro h;rw[show inb _=false from h]at a;cases a|c _ _ _ _ ha hb hc hd=>intro h;rw[ha h.2.1,hb h.2.2.1,hc h.2.2.2.1,hd h.2.2.2.2]|r _ _ _ _ r ha hb hc hd=>intro h;rw[ha h.2.1,hb h.2.2.1,hc h.2.2.2.1,hd h.2.2.2.2]at r;exact absurd r (h.1 _)
theorem Bb.end{t u:T}(w:Way inb B t u):Bb inb t->u=t:=by induction w with|nil=>intro _;rfl|cons p _ a=>intro h;have e:=Bb.pO p h;subst e;exact a h
theorem Kq(c:∀x,inb x=true->Cl 0 (B x)){t u v:T}(d:Way inb B t u)(e:Way inb B t v)(f:Bb inb u)(g:Bb inb v):u=v:=by obtain⟨w,a,b⟩:=d.meet c e;rw[<-f.end a,g.end b]
end
end CF
end
section
namespace K25
open PySem L2 L3 KM PyProof.Rows
open CF(T fZ rK Way Bb gj sb Oa zG ups b0 b1)
noncomputable def fk(x:Str):CF.Wd:=if x="app"then .app else if x="fun"then .fn else if x="rec"then .rc else if x="zero"then .zero else if x="next"then .next else if x="carry"then .carry else if x="like"then .yq else if x="first"then .first else if x="second"then .second else if x="pair"then .pair else .o x
noncomputable def uw:CF.Wd->Str| .app=>"app"| .fn=>"fun"| .rc=>"rec"| .zero=>"zero"| .next=>"next"| .carry=>"carry"| .yq=>"like"| .first=>"first"| .second=>"second"| .pair=>"pair"| .o x=>x
theorem L4(x:Str):uw (fk x)=x:=by
 unfold fk;repeat' split
 all_goals first|rfl|(rename_i h;exact h.symm)|skip
noncomputable def NX(ts:List T)(i:Nat):T:=(ts[i]?).getD .z
noncomputable def vT:List D->T|[.int i]=> .v i.toNat|_=> .z
noncomputable def nT:List D->T|[.str y]=> .n y|_=> .z
mutual noncomputable def tr:D->T| .tup (.str x::ps)=>if x="var"then vT ps else if x="name"then nT ps else .f (fk x) (NX (R9 ps) 0) (NX (R9 ps) 1) (NX (R9 ps) 2) (NX (R9 ps) 3)|_=> .z noncomputable def R9:List D->List T|[]=>[]|p::ps=>tr p::R9 ps end
theorem G1:∀ps:List D,R9 ps=ps.map tr|[]=>by rw[R9];rfl|p::ps=>by rw[R9,G1 ps];rfl
noncomputable def kT(ps:List D)(i:Nat):T:=((ps[i]?).map tr).getD .z
theorem bU{x:Str}{ps:List D}(h:bC x=false):tr (.tup (.str x::ps))= .f (fk x) (kT ps 0) (kT ps 1) (kT ps 2) (kT ps 3):=by unfold bC at h;simp only[Bool.or_eq_false_iff,decide_eq_false_iff_not]at h;rw[tr,if_neg h.1,if_neg h.2,G1];unfold NX kT;simp only[nY]
theorem jI(i:Int):tr (.tup [.str "var", .int i])= .v i.toNat:=by rw[tr,if_pos rfl];rfl
theorem j2(y:Str):tr (.tup [.str "name", .str y])= .n y:=by rw[tr,if_neg (by decide+kernel),if_pos rfl];rfl
theorem Uy{ps:List D}{j i:Nat}{q:D}(h:j<ps.length):kT (ps.set j q) i=if i=j then tr q else kT ps i:=by
 unfold kT;rw[List.getElem?_set];by_cases e:j=i;·subst e;rw[if_pos rfl,if_pos rfl,if_pos h];rfl
 ·rw[if_neg e,if_neg λz=>e z.symm]
theorem Dh{ps:List D}{i:Nat}{p:D}(h:ps[i]?=some p):kT ps i=tr p:=by unfold kT;rw[h];rfl
theorem Mf{ps:List D}{i:Nat}(h:ps.length<=i):kT ps i= .z:=by unfold kT;rw[List.getElem?_eq_none h];rfl
theorem aaF:(b_.all λr=>decide (gW r.1 0=(b0 (fk r.1):Nat))&&(decide (gW r.1 1=(b1 (fk r.1):Nat))&&(decide (gW r.1 2=0)&&decide (gW r.1 3=0))))=true:=by decide+kernel
theorem aay{x:Str}{r:List V}(h:b_.lookup x=some r):gW x 0=(b0 (fk x):Nat)/\gW x 1=(b1 (fk x):Nat)/\gW x 2=0/\gW x 3=0:=by have :=List.all_eq_true.mp aaF _ (lookup_mem h);simp only[cf,decide_eq_true_eq]at this;exact this
theorem MX{g:Int->Int->D}{A:Nat->T->T}(u:∀b,A b .z= .z)(hn:∀b y,A b (.n y)= .n y)(hf:∀b x p q r s,A b (.f x p q r s)= .f x (A (b+b0 x) p) (A (b+b1 x) q) (A b r) (A b s))(t:∀b i:Nat,tr (if(b:Int)<=(i:Nat)then g ((i:Nat)-(b:Nat)) (b:Nat)else .tup [.str "var", .int (i:Nat)])=A b (.v i)):∀(n b:Nat)(d:D)(k:Bool),bh ao k d=true->depth d<n->tr (gv g n (b:Nat) d)=A b (tr d)
 |0,_,_,_,_,h=>absurd h (jf _)
 |n+1,b,d,k,wf,hd=>by
  obtain⟨x,ps,k,rfl,wf,I⟩:=d7 ⟨k,wf⟩;by_cases o:x="var"
  ·subst o;obtain⟨i,rfl,i0,_⟩:=jT wf;obtain⟨j,rfl⟩:∃j:Nat,i=(j:Int):=⟨i.toNat,by omega⟩;have e:gv g (n+1) (b:Nat) (.tup [.str "var", .int (j:Nat)])=if(b:Int)<=(j:Nat)then g ((j:Nat)-(b:Nat)) (b:Nat)else .tup [.str "var", .int (j:Nat)]:=by rw[gv,if_pos rfl]
   rw[e,t,jI];rfl
  ·have e:gv g (n+1) (b:Nat) (.tup (.str x::ps))=bK x ps ((List.range (av x ps).length).map λi=>gv g n ((b:Nat)+gW x i) (((av x ps)[i]?).getD .aP)):=by
    conv=>lhs;unfold gv
    exact if_neg o
   by_cases hm:x="name"
   ·subst hm;obtain⟨y,rfl⟩:=fW wf;have a:av "name" [.str y]=[]:=by unfold av;rw[if_pos (by decide+kernel)]
    rw[e,a,j2,hn];show tr (bK "name" [.str y] [])=_;rw[bK];exact j2 y
   ·have hl:bC x=false:=by unfold bC;rw[decide_eq_false o,decide_eq_false hm];rfl
    have a:av x ps=ps:=by unfold av;rw[if_neg (by rw[hl];decide)]
    obtain⟨_,_,_,_,_,_,_,_,r,C,_⟩:=bB wf;obtain⟨w,c1,c2,B⟩:=aay C;have G:=oH wf;rw[a]at G e;rw[e,bU hl,hf];have c:∀(i:Nat)(m:Nat),gW x i=(m:Int)->kT ((List.range ps.length).map λi=>gv g n ((b:Nat)+gW x i) ((ps[i]?).getD .aP)) i=A (b+m) (kT ps i):=λi m hm=>by
     by_cases hi:i<ps.length
     ·obtain⟨p,l⟩:∃p,ps[i]?=some p:=⟨_,e8 hi⟩;have e1:((List.range ps.length).map λi=>gv g n ((b:Nat)+gW x i) ((ps[i]?).getD .aP))[i]?=some (gv g n ((b+m:Nat):Int) p):=by rw[nY,List.getElem?_range hi,Option.map_some,l,Option.getD_some,hm];rfl
      obtain⟨⟨F,H⟩,J⟩:=eQ wf (i:=i) (p:=p) (by rw[a];exact l);rw[Dh e1,Dh l];exact MX u hn hf t n (b+m) p F H (by omega)
     ·rw[Mf (by rw[c_,List.length_range];omega),Mf (by omega),u]
    have e2:tr (bK x ps ((List.range ps.length).map λi=>gv g n ((b:Nat)+gW x i) ((ps[i]?).getD .aP)))= .f (fk x) (kT ((List.range ps.length).map λi=>gv g n ((b:Nat)+gW x i) ((ps[i]?).getD .aP)) 0) (kT ((List.range ps.length).map λi=>gv g n ((b:Nat)+gW x i) ((ps[i]?).getD .aP)) 1) (kT ((List.range ps.length).map λi=>gv g n ((b:Nat)+gW x i) ((ps[i]?).getD .aP)) 2) (kT ((List.range ps.length).map λi=>gv g n ((b:Nat)+gW x i) ((ps[i]?).getD .aP)) 3):=by
     unfold bK;split;·rename_i E;have :ps=[]:=List.length_eq_zero_iff.mp (by have :=congrArg List.length E;simpa using this);subst this;exact bU hl
     ·exact bU hl
    rw[e2,c 0 _ w,c 1 _ c1,c 2 0 (by rw[c2];rfl),c 3 0 (by rw[B];rfl)];rfl
theorem PL{m:Nat}{d:D}{k:Bool}{n:Nat}(wf:bh ao k d=true)(hd:depth d<n):tr (gv (lj (m:Nat) 0) n 0 d)=gj (·+m) (tr d):=by
 have :=MX (g:=lj (m:Nat) 0) (A:=λb=>gj λi=>if i<b then i else i+m) (λ_=>rfl) (λ_ _=>rfl) (λb x p q r s=>?_) (λb i=>?_) n 0 d k wf hd;·refine this.trans ?_;congr 1
 ·show T.f x _ _ _ _=T.f x _ _ _ _;have u:∀k,zG k (λi=>if i<b then i else i+m)=λi=>if i<b+k then i else i+m:=λk=>by
   funext i;show(if i<k then i else(if i-k<b then i-k else i-k+m)+k)=if i<b+k then i else i+m;repeat' split
   all_goals omega
  rw[u,u]
 ·show _=T.v (if i<b then i else i+m);by_cases c:(b:Int)<=(i:Nat);·rw[if_pos c,if_neg (by omega),lj,if_pos (by omega),jI];congr 1;omega
  ·rw[if_neg c,if_pos (by omega),jI];rfl
theorem V8{o d:D}{k:Bool}{n:Nat}(f:bh ao false o=true)(e:depth o<58)(wf:bh ao k d=true)(hd:depth d<n):tr (gv (jh o 0) n 0 d)=sb (Oa (tr o)) (tr d):=by
 have :=MX (g:=jh o 0) (A:=λb=>sb λi=>if i<b then T.v i else if i=b then gj (·+b) (tr o)else T.v (i-1)) (λ_=>rfl) (λ_ _=>rfl) (λb x p q r s=>?_) (λb i=>?_) n 0 d k wf hd;·refine this.trans ?_;congr 1;funext i;cases i with|zero=>exact CF.Nh _ _ λ_=>rfl|succ i=>rfl
 ·show T.f x _ _ _ _=T.f x _ _ _ _;have u:∀k,ups k (λi=>if i<b then T.v i else if i=b then gj (·+b) (tr o)else T.v (i-1))=λi=>if i<b+k then T.v i else if i=b+k then gj (·+(b+k)) (tr o)else T.v (i-1):=λk=>by
   funext i;unfold ups;by_cases c1:i<k;·rw[if_pos c1,if_pos (by omega)]
   ·rw[if_neg c1];show gj (·+k) (if i-k<b then T.v (i-k)else if i-k=b then gj (·+b) (tr o)else T.v (i-k-1))=_;by_cases c2:i-k<b;·rw[if_pos c2,if_pos (show i<b+k by omega)];show T.v (i-k+k)=T.v i;congr 1;omega
    ·rw[if_neg c2,if_neg (show¬i<b+k by omega)];by_cases a:i-k=b;·rw[if_pos a,if_pos (show i=b+k by omega),CF.AS];congr 1;funext j;show j+b+k=j+(b+k);omega
     ·rw[if_neg a,if_neg (show¬i=b+k by omega)];show T.v (i-k-1+k)=T.v (i-1);congr 1;omega
  rw[u,u]
 ·show _=(if i<b then T.v i else if i=b then gj (·+b) (tr o)else T.v (i-1));by_cases c:(b:Int)<=(i:Nat)
  ·rw[if_pos c,if_neg (by omega),jh];by_cases c2:i=b;·subst c2;rw[if_pos (by omega),if_pos rfl];exact PL f e
   ·rw[if_neg (by omega),if_neg c2,if_pos (by omega),jI];congr 1;omega
  ·rw[if_neg c,if_pos (by omega),jI];rfl
theorem aau{p:D}{w:CF.Wd}{a b c d:T}(h:tr p=T.f w a b c d):jg p=uw w:=by
 unfold tr at h;split at h
 ·rename_i x ps;split at h;·unfold vT at h;split at h<;>cases h
  ·split at h;·unfold nT at h;split at h<;>cases h
   ·injection h with h _;rw[<-h,L4];rfl
 ·cases h
theorem vR{ps:List D}{i:Nat}{w:CF.Wd}{a b c d:T}(h:kT ps i=T.f w a b c d):jg ((ps[i]?).getD .aP)=uw w:=by unfold kT at h;cases e:ps[i]? with|none=>rw[e]at h;cases h|some p=>rw[e]at h;exact aau h
theorem UO(inb:Str->Bool)(ps:List D):bZ inb "app" ps=if jg ((ps[0]?).getD .aP)="fun"then .str "fun"else .aP:=by unfold bZ;rw[if_neg (by decide+kernel),if_pos rfl]
theorem Di(inb:Str->Bool)(ps:List D):bZ inb "carry" ps=if jg ((ps[2]?).getD .aP)="like"then .str "like"else .aP:=by unfold bZ;rw[if_neg (by decide+kernel),if_neg (by decide+kernel),if_pos rfl]
theorem Mm(inb:Str->Bool)(ps:List D):bZ inb "first" ps=if jg ((ps[0]?).getD .aP)="pair"then .str "first"else .aP:=by unfold bZ;rw[if_neg (by decide+kernel),if_neg (by decide+kernel),if_neg (by decide+kernel),if_pos rfl]
theorem Jk(inb:Str->Bool)(ps:List D):bZ inb "second" ps=if jg ((ps[0]?).getD .aP)="pair"then .str "second"else .aP:=by unfold bZ;rw[if_neg (by decide+kernel),if_neg (by decide+kernel),if_neg (by decide+kernel),if_neg (by decide+kernel),if_pos rfl]
theorem E9(inb:Str->Bool)(ps:List D):bZ inb "rec" ps=if jg ((ps[3]?).getD .aP)="zero"then .str "zero"else if jg ((ps[3]?).getD .aP)="next"then .str "next"else .aP:=by unfold bZ;rw[if_neg (by decide+kernel),if_neg (by decide+kernel),if_neg (by decide+kernel),if_neg (by decide+kernel),if_neg (by decide+kernel),if_pos rfl]
theorem YD{inb:Str->Bool}{x:Str}{ps:List D}(a:bG inb (.tup (.str x::ps))= .aP){e:T}:¬rK (T.f (fk x) (kT ps 0) (kT ps 1) (kT ps 2) (kT ps 3)) e:=by intro h;have hw:=L4 x;generalize b:kT ps 0=c at h;generalize h1:kT ps 1=d at h;generalize h2:kT ps 2=f at h;generalize h3:kT ps 3=g at h;generalize fk x=w at h hw;have a:bZ inb x ps= .aP:=a;subst hw;cases h with|app=>have a:bZ inb "app" ps= .aP:=a;rw[UO,if_pos (show jg ((ps[0]?).getD .aP)="fun"from vR b)]at a;cases a|rz=>have a:bZ inb "rec" ps= .aP:=a;rw[E9,if_pos (show jg ((ps[3]?).getD .aP)="zero"from vR h3)]at a;cases a|rn=>have a:bZ inb "rec" ps= .aP:=a;have e:jg ((ps[3]?).getD .aP)="next":=vR h3;rw[E9,e,if_neg (by decide+kernel),if_pos rfl]at a;cases a|ca=>have a:bZ inb "carry" ps= .aP:=a;rw[Di,if_pos (show jg ((ps[2]?).getD .aP)="like"from vR h2)]at a;cases a|fi=>have a:bZ inb "first" ps= .aP:=a;rw[Mm,if_pos (show jg ((ps[0]?).getD .aP)="pair"from vR b)]at a;cases a|se=>have a:bZ inb "second" ps= .aP:=a;rw[Jk,if_pos (show jg ((ps[0]?).getD .aP)="pair"from vR b)]at a;cases a
theorem w8{inb:Str->Bool}:∀{ps:List D}{i:Nat},gh inb i ps=none->∀p∈ps,cq inb p=none
 |[],_,_,p,a=>by cases a
 |q::ps,i,h,p,a=>by
  rw[gh]at h;cases e:cq inb q with
   |some r=>rw[e]at h;cases h
   |none=>
    rw[e]at h;rcases List.mem_cons.mp a with rfl|a;·exact e
    ·exact w8 h p a
theorem FD{inb:Str->Bool}:∀(n:Nat)(d:D)(k:Bool),bh ao k d=true->depth d<n->cq inb d=none->Bb inb (tr d)
 |0,_,_,_,h,_=>absurd h (jf _)
 |n+1,d,k,wf,hd,h=>by
  obtain⟨x,ps,k,rfl,wf,q⟩:=d7 ⟨k,wf⟩;rw[GP]at h;cases e:dJ inb (.tup (.str x::ps))with
   |some y=>rw[e]at h;cases h
   |none=>
    rw[e]at h;have h:gh inb 0 (av x ps)=none:=h;have g:bG inb (.tup (.str x::ps))= .aP:=by
     rcases cE inb (.tup (.str x::ps))with⟨a,_⟩|⟨y,_,b,_⟩;·exact a
     ·rw[b]at e;cases e
    by_cases l:x="var";·subst l;obtain⟨i,rfl,_,_⟩:=jT wf;rw[jI];trivial
    by_cases hm:x="name"
    ·subst hm;obtain⟨y,rfl⟩:=fW wf;rw[j2];show inb y=false;cases e2:inb y with
      |false=>rfl
      |true=>
       have :bG inb (.tup [.str "name", .str y])= .str "name":=by show bZ inb "name" [.str y]=_;unfold bZ;rw[if_pos rfl];show(if inb y=true then V.str "name"else .aP)=_;rw[if_pos e2]
       rw[this]at g;cases g
    have hl:bC x=false:=by unfold bC;rw[decide_eq_false l,decide_eq_false hm];rfl
    have j:av x ps=ps:=by unfold av;rw[if_neg (by rw[hl];decide)]
    rw[j]at h;have c:∀i,Bb inb (kT ps i):=λi=>by
     by_cases hi:i<ps.length;·obtain⟨p,f⟩:∃p,ps[i]?=some p:=⟨_,e8 hi⟩;obtain⟨⟨m,o⟩,r⟩:=eQ wf (i:=i) (p:=p) (by rw[j];exact f);rw[Dh f];exact FD n p m o (by omega) (w8 h p (nP f))
     ·rw[Mf (by omega)];trivial
    rw[bU hl];exact⟨λe=>YD g,c 0,c 1,c 2,c 3⟩
theorem fw:fk "app"= .app/\fk "fun"= .fn/\fk "rec"= .rc/\fk "zero"= .zero/\fk "next"= .next/\fk "carry"= .carry/\fk "like"= .yq/\fk "first"= .first/\fk "second"= .second/\fk "pair"= .pair:=by refine⟨?_,?_,?_,?_,?_,?_,?_,?_,?_,?_⟩<;>(unfold fk;repeat(first|rw[if_pos rfl]|rw[if_neg (by decide+kernel)]))
theorem i9:bC "app"=false/\bC "fun"=false/\bC "rec"=false/\bC "zero"=false/\bC "next"=false/\bC "carry"=false/\bC "like"=false/\bC "first"=false/\bC "second"=false/\bC "pair"=false:=by decide+kernel
theorem zA(a b:D):tr (.tup [.str "app",a,b])=T.f .app (tr a) (tr b) .z .z:=by rw[bU i9.1,fw.1];rfl
theorem Nw(a b:D):tr (.tup [.str "fun",a,b])=T.f .fn (tr a) (tr b) .z .z:=by rw[bU i9.2.1,fw.2.1];rfl
theorem Ab(a b c d:D):tr (.tup [.str "rec",a,b,c,d])=T.f .rc (tr a) (tr b) (tr c) (tr d):=by rw[bU i9.2.2.1,fw.2.2.1];rfl
theorem Gb(a:D):tr (.tup [.str "next",a])=T.f .next (tr a) .z .z .z:=by rw[bU i9.2.2.2.2.1,fw.2.2.2.2.1];rfl
theorem Bq(a b c:D):tr (.tup [.str "carry",a,b,c])=T.f .carry (tr a) (tr b) (tr c) .z:=by rw[bU i9.2.2.2.2.2.1,fw.2.2.2.2.2.1];rfl
theorem Cf(a:D):tr (.tup [.str "first",a])=T.f .first (tr a) .z .z .z:=by rw[bU i9.2.2.2.2.2.2.2.1,fw.2.2.2.2.2.2.2.1];rfl
theorem wI(a:D):tr (.tup [.str "second",a])=T.f .second (tr a) .z .z .z:=by rw[bU i9.2.2.2.2.2.2.2.2.1,fw.2.2.2.2.2.2.2.2.1];rfl
theorem x_(a b c:D):tr (.tup [.str "pair",a,b,c])=T.f .pair (tr a) (tr b) (tr c) .z:=by rw[bU i9.2.2.2.2.2.2.2.2.2,fw.2.2.2.2.2.2.2.2.2];rfl
theorem RC{p:D}{x:Str}(h:jg p=x)(hl:bC x=false)(e:x≠""):∃a b c d,tr p=T.f (fk x) a b c d:=by
 unfold jg at h;split at h;·subst h;exact⟨_,_,_,_,bU hl⟩
 ·exact absurd h.symm e
theorem O3{inb:Str->Bool}{B:Str->D}{e e':D}{r:Str}{g k:Bool}(h:Ec B e r e' g)(wf:bh ao k e=true)(a:bG inb e= .str r):fZ inb (λy=>tr (B y)) (tr e) (tr e'):=by
 cases h with
  |@fn i bd o u v j m rz=>obtain⟨_,p,q⟩:=ye wf;obtain⟨_,t⟩:=yc p;rw[zA,Nw,V8 q m t j];exact .r (.refl _) (.refl _) (.refl _) (.refl _) .app
  |@zero i b s n=>
   have a:bZ inb "rec" [i,e',s,n]= .str "zero":=a;rw[E9]at a;have a:(if jg n="zero"then V.str "zero"else if jg n="next"then V.str "next"else V.aP)= .str "zero":=a;have hn:jg n="zero":=by
    by_cases c:jg n="zero";·exact c
    ·rw[if_neg c]at a;split at a;·injection a with a;exact absurd a (by decide+kernel)
     ·cases a
   obtain⟨_,_,_,_,f⟩:=RC hn i9.2.2.2.1 (by decide+kernel);rw[fw.2.2.2.1]at f;rw[Ab,f];exact .r (.refl _) (.refl _) (.refl _) (.refl _) .rz
  |@yq i x l=>
   have a:bZ inb "carry" [i,e',l]= .str "like":=a;rw[Di]at a;have a:(if jg l="like"then V.str "like"else V.aP)= .str "like":=a;have hn:jg l="like":=by
    by_cases c:jg l="like";·exact c
    ·rw[if_neg c]at a;cases a
   obtain⟨_,_,_,_,f⟩:=RC hn i9.2.2.2.2.2.2.1 (by decide+kernel);rw[fw.2.2.2.2.2.2.1]at f;rw[Bq,f];exact .r (.refl _) (.refl _) (.refl _) (.refl _) .ca
  |next=>rw[Ab,Gb,zA,zA,Ab];exact .r (.refl _) (.refl _) (.refl _) (.refl _) .rn
  |first=>rw[Cf,x_];exact .r (.refl _) (.refl _) (.refl _) (.refl _) .fi
  |second=>rw[wI,x_];exact .r (.refl _) (.refl _) (.refl _) (.refl _) .se
  |name=>rw[j2];exact .d (nF a)
theorem Gs{inb:Str->Bool}{B:Str->T}{g e:D}(f:fZ inb B (tr g) (tr e)):∀(pl:List Int)(d:D)(k:Bool),bh ao k d=true->goto d pl=some g->fZ inb B (tr d) (tr (putD d pl e))
 |[],d,k,wf,h=>by rw[goto]at h;cases h;rw[putD];exact f
 |i::is,d,k,wf,h=>by
  obtain⟨x,ps,k,rfl,wf,q⟩:=d7 ⟨k,wf⟩;rw[goto]at h;cases e1:dz (.tup (.str x::ps)) i with
   |none=>rw[e1]at h;cases h
   |some p=>
    rw[e1]at h;obtain⟨i0,hl,a⟩:=ir e1;have l:av x ps=ps:=by unfold av;rw[if_neg (by rw[hl];decide)]
    obtain⟨⟨n,o⟩,_⟩:=eQ wf (i:=i.toNat) (p:=p) (by rw[l];exact a);have m:=Gs f is p n o h;have hi:i.toNat<ps.length:=(List.getElem?_eq_some_iff.mp a).1;rw[putD,a,Option.getD_some,bU hl,bU hl];have b:∀j,fZ inb B (kT ps j) (kT (ps.set i.toNat (putD p is e)) j):=λj=>by
     rw[Uy hi];by_cases c:j=i.toNat;·rw[if_pos c,c,Dh a];exact m
     ·rw[if_neg c];exact .refl _
    exact .c (b 0) (b 1) (b 2) (b 3)
noncomputable def arD(x:Str):Nat:=((b_.lookup x).getD []).length
noncomputable def un:T->D| .z=> .aP| .v i=> .tup [.str "var", .int (i:Nat)]| .n y=> .tup [.str "name", .str y]| .f w a b c d=> .tup (.str (uw w)::[un a,un b,un c,un d].take (arD (uw w)))
theorem Mc:∀(n:Nat)(d:D)(k:Bool),bh ao k d=true->depth d<n->un (tr d)=d
 |0,_,_,_,h=>absurd h (jf _)
 |n+1,d,k,wf,hd=>by
  obtain⟨x,ps,k,rfl,wf,u⟩:=d7 ⟨k,wf⟩;by_cases j:x="var";·subst j;obtain⟨i,rfl,i0,_⟩:=jT wf;rw[jI,un,show((i.toNat:Nat):Int)=i by omega]
  by_cases hm:x="name";·subst hm;obtain⟨y,rfl⟩:=fW wf;rw[j2,un]
  have hl:bC x=false:=by unfold bC;rw[decide_eq_false j,decide_eq_false hm];rfl
  have f:av x ps=ps:=by unfold av;rw[if_neg (by rw[hl];decide)]
  obtain⟨_,_,_,_,_,_,_,_,r,o,el⟩:=bB wf;have l:=oH wf;rw[f]at l el;rw[bU hl,un,L4];have m:arD x=ps.length:=by unfold arD;rw[o];exact el
  rw[m];congr 2;have a:∀i p,ps[i]?=some p->un (kT ps i)=p:=λi p g=>by obtain⟨⟨q,t⟩,v⟩:=eQ wf (i:=i) (p:=p) (by rw[f];exact g);rw[Dh g];exact Mc n p q t (by omega)
  match ps,l,a with|[],_,_=>rfl|[b],_,a=>simp[a 0 b rfl]|[b,c],_,a=>simp[a 0 b rfl,a 1 c rfl]|[b,c,e],_,a=>simp[a 0 b rfl,a 1 c rfl,a 2 e rfl]|[b,c,e,s],_,a=>simp[a 0 b rfl,a 1 c rfl,a 2 e rfl,a 3 s rfl]|_::_::_::_::_::_,h,_=>simp at h
theorem Wa{d d':D}{k a:Bool}(b:bh ao k d=true)(c:bh ao a d'=true)(e:tr d=tr d'):d=d':=by rw[<-Mc (depth d+1) d k b (Nat.lt_succ_self _),e,Mc (depth d'+1) d' a c (Nat.lt_succ_self _)]
end K25
end
section
namespace K25
open PySem L2 L3 KM PyProof.Rows
seal L2.PE L2.PS L2.gT L2.PT L2.PW L2.PA L2.PG L2.uX L2.PI L2.PC L2.PO L2.DC L2.PK L3.vF
variable{P:Program}{w:World}{K:PySem.W.Frag}{mg:Str->Option Value}{base:Heap}{t:ve}
theorem PY{x:Str}(h:x∉(["app","fun","rec","zero","next","carry","like","first","second","pair"]:List Str)):fk x= .o x:=by simp only[eB,fH,or_false,not_or]at h;obtain⟨h1,h2,h3,h4,h5,h6,b,c,d,a⟩:=h;unfold fk;rw[if_neg h1,if_neg h2,if_neg h3,if_neg h4,if_neg h5,if_neg h6,if_neg b,if_neg c,if_neg d,if_neg a]
section
variable{nr:Int}{a b c d:D}
theorem Si{x:Str}(h:x∉(["app","fun","rec","zero","next","carry","like","first","second","pair"]:List Str))(hl:bC x=false):CF.Cl nr.toNat (tr (.tup [.str x])):=by rw[bU hl,PY h];exact⟨trivial,trivial,trivial,trivial⟩
theorem VZ:CF.Cl nr.toNat (tr (.tup [.str "nat"])):=Si (by decide+kernel) (by decide+kernel)
theorem P0:CF.Cl nr.toNat (tr (.tup [.str "none"])):=Si (by decide+kernel) (by decide+kernel)
theorem qZ:CF.Cl nr.toNat (tr (.tup [.str "zero"])):=by rw[bU i9.2.2.2.1,fw.2.2.2.1];exact⟨trivial,trivial,trivial,trivial⟩
theorem P4{y:Str}:CF.Cl nr.toNat (tr (.tup [.str "name", .str y])):=by rw[j2];trivial
theorem Tr{i:Int}(e:0<=i)(h1:i<nr):CF.Cl nr.toNat (tr (.tup [.str "var", .int i])):=by rw[jI];show i.toNat<nr.toNat;omega
theorem zL(ha:CF.Cl nr.toNat (tr a)):CF.Cl nr.toNat (tr (.tup [.str "next",a])):=by rw[Gb];exact⟨ha,trivial,trivial,trivial⟩
theorem CO(ha:CF.Cl nr.toNat (tr a)):CF.Cl nr.toNat (tr (.tup [.str "first",a])):=by rw[Cf];exact⟨ha,trivial,trivial,trivial⟩
theorem wJ(ha:CF.Cl nr.toNat (tr a)):CF.Cl nr.toNat (tr (.tup [.str "second",a])):=by rw[wI];exact⟨ha,trivial,trivial,trivial⟩
theorem KL(ha:CF.Cl nr.toNat (tr a))(hb:CF.Cl nr.toNat (tr b)):CF.Cl nr.toNat (tr (.tup [.str "app",a,b])):=by rw[zA];exact⟨ha,hb,trivial,trivial⟩
theorem G0(e:0<=nr)(ha:CF.Cl (nr+1).toNat (tr a)):CF.Cl (nr.toNat+1) (tr a):=by rw[show nr.toNat+1=(nr+1).toNat by omega];exact ha
theorem Wc(e:0<=nr)(ha:CF.Cl nr.toNat (tr a))(hb:CF.Cl (nr+1).toNat (tr b)):CF.Cl nr.toNat (tr (.tup [.str "fun",a,b])):=by rw[Nw];exact⟨ha,G0 e hb,trivial,trivial⟩
theorem Oi(e:0<=nr)(ha:CF.Cl (nr+1).toNat (tr a))(hb:CF.Cl nr.toNat (tr b))(hc:CF.Cl nr.toNat (tr c))(hd:CF.Cl nr.toNat (tr d)):CF.Cl nr.toNat (tr (.tup [.str "rec",a,b,c,d])):=by rw[Ab];exact⟨G0 e ha,hb,hc,hd⟩
theorem Dj(e:0<=nr)(ha:CF.Cl (nr+1).toNat (tr a))(hb:CF.Cl nr.toNat (tr b))(hc:CF.Cl nr.toNat (tr c)):CF.Cl nr.toNat (tr (.tup [.str "carry",a,b,c])):=by rw[Bq];exact⟨G0 e ha,hb,hc,trivial⟩
theorem Pm(ha:CF.Cl nr.toNat (tr a))(hb:CF.Cl nr.toNat (tr b))(hc:CF.Cl nr.toNat (tr c)):CF.Cl nr.toNat (tr (.tup [.str "pair",a,b,c])):=by rw[x_];exact⟨ha,hb,hc,trivial⟩
theorem Qv(ha:CF.Cl nr.toNat (tr a))(hb:CF.Cl nr.toNat (tr b)):CF.Cl nr.toNat (tr (.tup [.str "like",a,b])):=by rw[bU i9.2.2.2.2.2.2.1,fw.2.2.2.2.2.2.1];exact⟨ha,hb,trivial,trivial⟩
theorem MN(ha:CF.Cl nr.toNat (tr a))(hb:CF.Cl nr.toNat (tr b)):CF.Cl nr.toNat (tr (.tup [.str "never",a,b])):=by rw[bU (by decide+kernel),PY (by decide+kernel)];refine⟨ha,?_,trivial,trivial⟩;rw[CF.b1,if_neg (by decide+kernel)];exact hb
theorem O9(ha:CF.Cl nr.toNat (tr a))(hb:CF.Cl nr.toNat (tr b))(hc:CF.Cl nr.toNat (tr c)):CF.Cl nr.toNat (tr (.tup [.str "same",a,b,c])):=by rw[bU (by decide+kernel),PY (by decide+kernel)];refine⟨ha,?_,hc,trivial⟩;rw[CF.b1,if_neg (by decide+kernel)];exact hb
theorem Qw{x:Str}(e:x="all"\/x="some")(f:0<=nr)(ha:CF.Cl nr.toNat (tr a))(hb:CF.Cl (nr+1).toNat (tr b)):CF.Cl nr.toNat (tr (.tup [.str x,a,b])):=by rw[bU (by rcases e with rfl|rfl<;>decide+kernel),PY (by rcases e with rfl|rfl<;>decide+kernel)];refine⟨ha,?_,trivial,trivial⟩;rw[CF.b1,if_pos e];exact G0 f hb
end
def PlD(H:Hp)(c:Addr):Prop:=∃x y z:Str,Pn x/\Pn y/\Pn z/\H c=some (.lst [.str x, .str y, .str z])
structure Sg(K:PySem.W.Frag)(a p c:Addr)(ns:List Int)(H:Hp)(i:Int):Prop where
 T:Tp K a p ns H i
 pl:PlD H c
theorem Sg.next{a p c:Addr}{ns:List Int}{H H':Hp}{i j:Int}(g:Sg K a p c ns H i)(s:bO p H H')(h:H' p=some (.lst [.int j]))(b:0<=j):Sg K a p c ns H' j:=by refine⟨g.T.next s h b,?_⟩;obtain⟨x,y,z,d,f,k,hc⟩:=g.pl;refine⟨x,y,z,d,f,k,s _ _ (λe=>?_) hc⟩;subst e;rw[g.T.fK]at hc;cases hc
theorem Sg.upd{a p c b:Addr}{ns:List Int}{H:Hp}{i:Int}{aF:List (Key×V)}{o:HO}(g:Sg K a p c ns H i)(hb:H b=some (.dK aF)):Sg K a p c ns (L2.upd H b o) i:=by refine⟨g.T.upd hb,?_⟩;obtain⟨x,y,z,d,f,h,hc⟩:=g.pl;refine⟨x,y,z,d,f,h,?_⟩;rw[bf (λe=>by rw[e,hb]at hc;cases hc)];exact hc
theorem Sg.mono{a p c:Addr}{ns:List Int}{H H':Hp}{i:Int}(g:Sg K a p c ns H i)(s:aL H H'):Sg K a p c ns H' i:=g.next s.x (s _ _ g.T.fK) g.T.i0
theorem Sg.rep{a p c:Addr}{ns:List Int}{H H':Hp}{i:Int}{d:D}{v:V}(g:Sg K a p c ns H i)(s:bO p H H')(r:Rep H d v):Rep H' d v:=g.T.rep s r
noncomputable def cst(n:Nat):Int:=10^(n+1)
theorem sX(n:Nat):cst (n+1)=10*cst n:=by unfold cst;rw[Int.pow_succ];omega
theorem iA:∀n:Nat,10<=cst n|0=>by decide|n+1=>by have :=iA n;rw[sX];omega
noncomputable def p5(n:Nat):Nat:=5^n
theorem yT(n:Nat):p5 (n+1)=5*p5 n:=by unfold p5;rw[Nat.pow_succ];omega
theorem mB:∀n:Nat,1<=p5 n|0=>by decide|n+1=>by have :=mB n;rw[yT];omega
structure Ou(K:PySem.W.Frag)(a p c:Addr)(ns:List Int)(H:Hp)(i:Int)(nr:Int)(k:Bool)(dp kn:Nat)(co:Int)(d:D)(v:V)(H':Hp)(i':Int):Prop where
 r:Rep H' d v
 cl:CF.Cl nr.toNat (tr d)
 wf:bh ao k d=true
 dp:depth d<=dp
 kn:aJ d<=kn
 sx:bO p H H'
 g:Sg K a p c ns H' i'
 lo:i<=i'
 hi:i'<=i+co
theorem Ou.weak{a p c:Addr}{ns:List Int}{H H':Hp}{i i' nr:Int}{k:Bool}{dp kn e f:Nat}{co b:Int}{d:D}{v:V}(o:Ou K a p c ns H i nr k dp kn co d v H' i')(h1:dp<=e)(h2:kn<=f)(h3:co<=b):Ou K a p c ns H i nr k e f b d v H' i':=⟨o.r,o.cl,o.wf,cS o.dp h1,cS o.kn h2,o.sx,o.g,o.lo,by have :=o.hi;omega⟩
theorem Ou.after{a p c:Addr}{ns:List Int}{H b H':Hp}{i j i' nr:Int}{k:Bool}{dp kn:Nat}{co co1:Int}{d:D}{v:V}(o:Ou K a p c ns b j nr k dp kn co d v H' i')(s:bO p H b)(h1:i<=j)(h2:j<=i+co1):Ou K a p c ns H i nr k dp kn (co1+co) d v H' i':=⟨o.r,o.cl,o.wf,o.dp,o.kn,s.trans o.sx,o.g,by have :=o.lo;omega,by have :=o.hi;omega⟩
theorem Ou.later{a p c:Addr}{ns:List Int}{H H' b:Hp}{i i' nr:Int}{k:Bool}{dp kn:Nat}{co:Int}{d:D}{v:V}(o:Ou K a p c ns H i nr k dp kn co d v H' i')(s:bO p H' b):Rep b d v:=o.g.rep s o.r
theorem made{a p c q:Addr}{ns:List Int}{H b:Hp}{i i2 nr:Int}{k:Bool}{dp kn:Nat}{co:Int}{ds:List D}{vs:List V}(s:bO p H b)(g:Sg K a p c ns b i2)(hq:b q=none)(r:bE b ds vs)(wf:bh ao k (.tup ds)=true)(cl:CF.Cl nr.toNat (tr (.tup ds)))(h1:depth (.tup ds)<=dp)(h2:aJ (.tup ds)<=kn)(lo:i<=i2)(hi:i2<=i+co):Ou K a p c ns H i nr k dp kn co (.tup ds) (.ref q) (upd b q (.tup vs)) i2:=⟨fO hq r,cl,wf,h1,h2,s.trans (ar hq _).x,g.mono (ar hq _),lo,hi⟩
def dS(K:PySem.W.Frag)(k:Bool)(n:Nat):Sp:=λvs H Q _=>∃(a p c:Addr)(ns:List Int)(i deep near:Int),vs=[.ref a, .ref p, .int deep, .int near, .ref c]/\Sg K a p c ns H i/\i+cst n<2^58/\-1<=deep/\deep+1<n/\n<=10/\0<=near/\near+n<=99/\∀(d:D)(v:V)(H':Hp)(i':Int),Ou K a p c ns H i near k (2*n+2) (3*p5 n) (cst n) d v H' i'->Q v H'
def jJ(K:PySem.W.Frag)(n dp kn:Nat)(co:Int):Sp:=λvs H Q _=>∃(a p c:Addr)(ns:List Int)(i deep near:Int),vs=[.ref a, .ref p, .int deep, .int near, .ref c]/\Sg K a p c ns H i/\i+4*cst n<2^58/\1<=deep/\deep<n/\n<=9/\0<=near/\near+n+1<=99/\∀(d:D)(v:V)(H':Hp)(i':Int),Ou K a p c ns H i near false dp kn co d v H' i'->Q v H'
def D6(K:PySem.W.Frag):Sp:=λvs H Q _=>∃(a p c:Addr)(ns:List Int)(i near:Int),vs=[.ref a, .ref p, .int near, .ref c]/\Sg K a p c ns H i/\i<2^59/\0<=near/\near<=99/\∀(d:D)(v:V)(H':Hp)(i':Int),Ou K a p c ns H i near false 2 2 2 d v H' i'->Q v H'
theorem oq:aN ["_law_script","_law_tape","_law_near","_law_pool_here","_law_way"] ["_law_script","_law_tape","_law_near","_law_pool_here"] (ak iR):=⟨rfl,rfl,rfl,by decide+kernel,rfl,by decide+kernel,by decide+kernel⟩
theorem Fd(D:Df K mg "_law_leaf" iR ["_law_script","_law_tape","_law_near","_law_pool_here"])(M:Mg mg t)(n:bj P w K mg bA "_law_draw" (1) FC (ft K)):bj P w K mg bA "_law_leaf" (131) ["_law_script","_law_tape","_law_near","_law_pool_here"] (D6 K):=by
 refine D.ok oq (λvs H Q E h=>?_) (λbase f cF A outer s H vs Q E l h=>?_);·obtain⟨a,p,c,ns,i,near,rfl,_⟩:=h;rfl
 obtain⟨a,p,c,ns,i,near,rfl,g,hi,O,R,q⟩:=h;have hh:=l.hd (by decide);have i0:=g.T.i0;refine⟨_,(ag (aH (i:=4) oq.nd rfl (cI rfl) (ay n l.m rfl aC (aa (pv 0) (aa (pv 1) (aa ah af))))) (ag (bu (aD bP (pv 4) ah (aG _)) (ai (aw (aZ (aa aE af)))) aM) (ag (bu (aD bP (pv 4) ah (aG _)) (ai (aw (aZ (aa aE (aa (aS cT (pv 3) (ay n l.m rfl aC (aa (pv 0) (aa (pv 1) (aa ah af)))) (λ_ _=>rfl)) af))))) aM) (ag (bu (aD bP (pv 2) ah (aG _)) (ai (aw (aZ (aa aE (aa (aZ (aa aE af)) af))))) aM) (ag (bu (aD bP (pv 4) ah (aG _)) (ai (aw (aZ (aa aE (aa (ay n l.m rfl aC (aa (pv 0) (aa (pv 1) (aa (pv 2) af)))) af))))) aM) (ai (aw (aZ (aa aE (aa (ay n l.m rfl aC (aa (pv 0) (aa (pv 1) (aa (bw (Ja hh) rfl M.Yb UB (aa (pv 2) (aa ah af))) af)))) af)))))))))),?_⟩;try dsimp only[gL,N]
 refine Px ?_;intro _ _ _ _ _ _;refine⟨_,rfl,_,rfl,a,p,ns,i,6,rfl,g.T,(by omega),(by decide),λway r w0 S x1 h1=>?_⟩;have d:=g.next x1 h1 (by omega);have zero:∀{q:Addr},r q=none->Ou K a p c ns H i near false 2 2 2 (.tup [.str "zero"]) (.ref q) (upd r q (.tup [V.str "zero"])) (i+1):=λhq=>made x1 d hq (rs ky r0) rX qZ (by simp[depth,aB]) (by simp[aJ,aK]) (by omega) (by omega);refine⟨_,rfl,rfl,_,rfl,aV (λ_=>⟨(dw rfl),λq1 b=>q _ _ _ _ (zero b)⟩) (λ_=>?_)⟩;refine⟨_,rfl,rfl,_,rfl,aV (λ_=>?_) (λ_=>?_)⟩
 ·obtain⟨x,y,z,I,J,L,hc⟩:=d.pl;refine⟨_,rfl,_,rfl,_,rfl,a,p,ns,i+1,3,rfl,d.T,(by omega),(by decide),λat_ j a0 a1 x2 h2=>?_⟩;have B:=d.next x2 h2 (by omega);have C:j c=some (.lst [.str x, .str y, .str z]):=x2 _ _ (λe=>by subst e;rw[d.T.fK]at hc;cases hc) hc;obtain⟨o,F,u⟩:∃o:Str,kZ [V.str x, .str y, .str z] at_=some (.str o)/\Pn o:=by
   have :at_=0\/at_=1\/at_=2:=by omega
   rcases this with rfl|rfl|rfl;·exact⟨x,rfl,I⟩
   ·exact⟨y,rfl,J⟩
   ·exact⟨z,rfl,L⟩
  refine⟨c,_,_,_,rfl,rfl,bN.of C,F,(dw rfl),λq1 b=>q _ _ _ _ (made (x1.trans x2) B b (rs ky (rs (ky (by have :=u.len;omega)) r0)) (PM u) P4 (by simp[depth,aB]) (by simp[aJ,aK]) (by omega) (by omega))⟩
 refine⟨_,rfl,rfl,_,rfl,aV (λ_=>?_) (λv=>?_)⟩;·refine⟨(dw rfl),λq1 b=>⟨(dw rfl),λq2 G=>?_⟩⟩;have s1:=ar b (.tup [V.str "zero"]);exact q _ _ _ _ (made (x1.trans s1.x) (d.mono s1) G (rs ky (rs (fO b (rs ky r0)) r0)) (yy rX) (zL qZ) (by simp[depth,aB]) (by simp[aJ,aK]) (by omega) (by omega))
 have hn:0<near:=by have :near≠0:=λz=>v (by rw[z];exact decide_eq_true rfl);omega
 have var:∀{z:Int}{j:Hp}{q:Addr},0<=z->z<near->bO p r j->j p=some (.lst [.int (i+1+1)])->j q=none->Ou K a p c ns H i near false 2 2 2 (.tup [.str "var", .int z]) (.ref q) (upd j q (.tup [V.str "var", .int z])) (i+1+1):=λk m x2 h2 hq=>made (x1.trans x2) (d.next x2 h2 (by omega)) hq (rs ky (rs ri r0)) (To k (by omega)) (Tr k m) (by simp[depth,aB]) (by simp[aJ,aK]) (by omega) (by omega);refine⟨_,rfl,rfl,_,rfl,aV (λ_=>?_) (λ_=>?_)⟩;·refine⟨_,rfl,_,rfl,_,rfl,a,p,ns,i+1,near,rfl,d.T,(by omega),hn,λz j k m x2 h2=>⟨(dw rfl),λq1 b=>q _ _ _ _ (var k m x2 h2 b)⟩⟩
 ·refine⟨_,rfl,_,rfl,_,rfl,near,3,rfl,a,p,ns,i+1,_,rfl,d.T,(by omega),(by split<;>omega),λz j k m x2 h2=>⟨(dw rfl),λq1 b=>q _ _ _ _ (var k ?_ x2 h2 b)⟩⟩;split at m<;>omega
theorem Qs{a:D->Bool}:bh a true (.tup [.str "none"])=true:=by refine cH (w:="none") (s:="") (by decide+kernel) (by decide+kernel) ?_;rw[show(Str.ofString "").cps.toList=[]by decide+kernel];simp[dQ]
theorem Qh{a:D->Bool}{d0 b:D}(c:bh a true d0=true)(h1:bh a false b=true):bh a false (.tup [.str "like",d0,b])=true:=by refine cH (w:="like") (s:="kt") (by decide+kernel) (by decide+kernel) ?_;rw[show(Str.ofString "kt").cps.toList=[107,116]by decide+kernel,az,az];simp[cO,dQ,c,h1]
theorem QX{a:D->Bool}{d0 b c:D}(d:bh a true d0=true)(h1:bh a false b=true)(h2:bh a false c=true):bh a false (.tup [.str "pair",d0,b,c])=true:=by refine cH (w:="pair") (s:="ktt") (by decide+kernel) (by decide+kernel) ?_;rw[show(Str.ofString "ktt").cps.toList=[107,116,116]by decide+kernel,az,az,az];simp[cO,dQ,d,h1,h2]
theorem vS{a:D->Bool}{d0:D}(b:bh a false d0=true):bh a false (.tup [.str "second",d0])=true:=by refine cH (w:="second") (s:="t") (by decide+kernel) (by decide+kernel) ?_;rw[show(Str.ofString "t").cps.toList=[116]by decide+kernel,az];simp[cO,dQ,b]
theorem fh:aN ["_law_script","_law_tape","_law_deep","_law_near","_law_pool_here","_law_way","_law_first","_law_kind_here"] eA (ak gp):=⟨rfl,rfl,rfl,by decide+kernel,rfl,by decide+kernel,by decide+kernel⟩
theorem Cr{n:Nat}(D:Df K mg "_law_kind" gp eA)(M:Mg mg t)(aI:bj P w K mg bA "_law_draw" (1) FC (ft K))(I:bj P w K mg bA "_law_kind" (3*n+132) eA (dS K true n))(U:bj P w K mg bA "_law_term" (3*n+132) eA (dS K false n)):bj P w K mg bA "_law_kind" (3*n+135) eA (dS K true (n+1)):=by
 refine D.ok fh (λvs H Q E h=>?_) (λbase f cF A outer s H vs Q E o h=>?_);·obtain⟨a,p,c,ns,i,deep,near,rfl,_⟩:=h;rfl
 obtain⟨a,p,c,ns,i,deep,near,rfl,g,hi,d0,d1,hn,G,n1,q⟩:=h;have i0:=g.T.i0;have e:=sX n;have UX:=iA n;have e5:=yT n;have p1:=mB n;rw[e]at hi q;rw[e5]at q;refine⟨_,(ag (aH (i:=5) fh.nd rfl (cI rfl) (ay aI o.m rfl aC (aa (pv 0) (aa (pv 1) (aa ah af))))) (ag (bu (L2.PW.pt (lO (aD oD (pv 2) ah (aG _)) (jj (aD oD (pv 5) ah (aG _))))) (ai (aw (aS cT (cA (aa (aZ (aa aE af)) (aa (aZ (aa aE af)) (aa (aZ (aa aE af)) af)))) (aQ jx (pv 5) ah) (λ_ _=>rfl)))) aM) (ag (bu (aD oD (pv 5) ah (aG _)) (ag (aH (i:=6) fh.nd rfl (cI rfl) (ay I o.m rfl aC (aa (pv 0) (aa (pv 1) (aa (aQ bM (pv 2) ah) (aa (pv 3) (aa (pv 4) af))))))) (ai (aw (aZ (aa (aS cT (cA (aa aE (aa aE af))) (aQ bM (pv 5) ah) (λ_ _=>rfl)) (aa (pv 6) (aa (ay I o.m rfl aC (aa (pv 0) (aa (pv 1) (aa (aQ bM (pv 2) ah) (aa (aQ cy (pv 3) ah) (aa (pv 4) af)))))) af))))))) aM) (ag (aH (i:=6) fh.nd rfl (cI rfl) (ay U o.m rfl aC (aa (pv 0) (aa (pv 1) (aa (aQ bM (pv 2) ah) (aa (pv 3) (aa (pv 4) af))))))) (ag (aH (i:=7) fh.nd rfl (cI rfl) (ay I o.m rfl aC (aa (pv 0) (aa (pv 1) (aa (aQ bM (pv 2) ah) (aa (pv 3) (aa (pv 4) af))))))) (ai (aw (aZ (aa aE (aa (pv 7) (aa (pv 6) (aa (ay U o.m rfl aC (aa (pv 0) (aa (pv 1) (aa (aQ bM (pv 2) ah) (aa (pv 3) (aa (pv 4) af)))))) af)))))))))))),?_⟩;try dsimp only[gL,cG]
 refine Px ?_;intro _ _ _ _ _ _;refine⟨_,rfl,_,rfl,a,p,ns,i,7,rfl,g.T,(by omega),(by decide),λway l w0 w1 x1 h1=>?_⟩;have B:=g.next x1 h1 (by omega);have Z:∀j:Hp,bO p H j->Sg K a p c ns j (i+1)->∀(x:Str)(r:Addr),(x="nat"\/x="none")->Rep j (.tup [.str x]) (.ref r)->Q (.ref r) j:=λj sx C x r u F=>by
  refine q (.tup [.str x]) _ j (i+1) ⟨F,?_,?_,by simp only[depth,aB];omega,by simp only[aJ,aK];omega,sx,C,by omega,by omega⟩
  ·rcases u with rfl|rfl;·exact VZ
   ·exact P0
  rcases u with rfl|rfl;·exact UN
  ·exact Qs
 refine⟨_,rfl,_,_,rfl,rfl,_,rfl,?_⟩;have SF:∀(R:VK),(∀(j:Hp)(x:Str)(r:Addr),bO p H j->Sg K a p c ns j (i+1)->(x="nat"\/x="none")->Rep j (.tup [.str x]) (.ref r)->R (.ref r) j)->∀(q1 q2 q3 q4:Addr),l q1=none->(upd l q1 (.tup [V.str "nat"])) q2=none->(upd (upd l q1 (.tup [V.str "nat"])) q2 (.tup [V.str "nat"])) q3=none->(upd (upd (upd l q1 (.tup [V.str "nat"])) q2 (.tup [V.str "nat"])) q3 (.tup [V.str "none"])) q4=none->∃v,kZ [V.ref q1, .ref q2, .ref q3] (way%3)=some v/\(upd (upd (upd (upd l q1 (.tup [V.str "nat"])) q2 (.tup [V.str "nat"])) q3 (.tup [V.str "none"])) q4 (.lst [V.ref q1, .ref q2, .ref q3])) q4=some (.lst [V.ref q1, .ref q2, .ref q3])/\R v (upd (upd (upd (upd l q1 (.tup [V.str "nat"])) q2 (.tup [V.str "nat"])) q3 (.tup [V.str "none"])) q4 (.lst [V.ref q1, .ref q2, .ref q3])):=λR N q1 q2 q3 q4 e1 e2 m e4=>by
  have t1:=ar e1 (.tup [V.str "nat"]);have t2:=ar e2 (.tup [V.str "nat"]);have T:=ar m (.tup [V.str "none"]);have t4:=ar e4 (.lst [V.ref q1, .ref q2, .ref q3]);have ra:=(fO e1 (rs (ky (x:="nat")) r0)).mono (t2.trans (T.trans t4));have rb:=(fO e2 (rs (ky (x:="nat")) r0)).mono (T.trans t4);have rc:=(fO m (rs (ky (x:="none")) r0)).mono t4;have z:=t1.trans (t2.trans (T.trans t4));have h:way%3=0\/way%3=1\/way%3=2:=by omega
  rcases h with h|h|h;·exact⟨_,by rw[h];rfl,aq,N _ "nat" q1 (x1.trans z.x) (B.mono z) (.inl rfl) ra⟩
  ·exact⟨_,by rw[h];rfl,aq,N _ "nat" q2 (x1.trans z.x) (B.mono z) (.inl rfl) rb⟩
  ·exact⟨_,by rw[h];rfl,aq,N _ "none" q3 (x1.trans z.x) (B.mono z) (.inr rfl) rc⟩
 have one:1<=sizeLine:=by decide
 refine aV (λcd=>?_) (λcd=>?_);·refine pR ⟨one,λq1 e1=>⟨one,λq2 e2=>⟨one,λq3 m=>⟨(dw rfl),λq4 e4=>?_⟩⟩⟩⟩;obtain⟨v,O,h4,hq⟩:=SF Q (λj x r sx C u F=>Z j sx C x r u F) q1 q2 q3 q4 e1 e2 m e4;exact⟨_,rfl,_,_,rfl,rfl,(by show(0:Int)<3;decide),q4,_,_,v,rfl,rfl,bN.of h4,O,hq⟩
 refine⟨_,rfl,_,_,rfl,rfl,_,rfl,?_⟩;refine aV (λJ=>?_) (λJ=>?_);·refine⟨one,λq1 e1=>⟨one,λq2 e2=>⟨one,λq3 m=>⟨(dw rfl),λq4 e4=>?_⟩⟩⟩⟩;obtain⟨v,O,h4,hq⟩:=SF Q (λj x r sx C u F=>Z j sx C x r u F) q1 q2 q3 q4 e1 e2 m e4;exact⟨_,rfl,_,_,rfl,rfl,(by show(0:Int)<3;decide),q4,_,_,v,rfl,rfl,bN.of h4,O,hq⟩
 have cd:¬deep<1:=of_decide_eq_false (Bool.eq_false_iff.mpr cd);have J:¬way<3:=of_decide_eq_false (Bool.eq_false_iff.mpr J);refine⟨_,rfl,_,_,rfl,rfl,_,rfl,?_⟩;refine aV (λL=>?_) (λL=>?_)
 ·have L:way<5:=of_decide_eq_true L;refine⟨_,rfl,_,rfl,_,rfl,_,_,rfl,rfl,_,rfl,_,rfl,a,p,c,ns,i+1,deep-1,near,rfl,B,(by omega),(by omega),(by omega),(by omega),G,(by omega),λW vA j i2 d=>?_⟩;refine⟨(dw rfl),λq1 e1=>?_⟩;have t1:=ar e1 (.lst [V.str "all", .str "some"]);obtain⟨y,hy,S⟩:∃y:Str,kZ [V.str "all", .str "some"] (way-3)=some (.str y)/\(y="all"\/y="some"):=by
   have :way=3\/way=4:=by omega
   rcases this with rfl|rfl;·exact⟨_,rfl, .inl rfl⟩
   ·exact⟨_,rfl, .inr rfl⟩
  have hA:=d.hi;have lA:=d.lo;refine⟨_,rfl,_,_,rfl,rfl,q1,_,_,_,rfl,rfl,bN.of aq,hy,_,rfl,?_⟩;refine⟨_,rfl,_,rfl,_,rfl,_,_,rfl,rfl,_,rfl,_,_,rfl,rfl,_,rfl,a,p,c,ns,i2,deep-1,near+1,rfl,d.g.mono t1,(by omega),(by omega),(by omega),(by omega),(by omega),(by omega),λX vB H3 Y b=>⟨(dw rfl),λq2 e2=>?_⟩⟩;have hB:=b.hi;have lB:=b.lo;have sAB:=t1.x.trans b.sx;have a1:=d.dp;have a2:=b.dp;have a3:=d.kn;have a4:=b.kn;have hw:bh ao true (.tup [.str y,W,X])=true:=by
   rcases S with rfl|rfl;·exact Vj d.wf b.wf
   ·exact PX d.wf b.wf
  have Z0:y.length<=1000:=by rcases S with rfl|rfl<;>decide
  exact q _ _ _ _ (made ((x1.trans d.sx).trans sAB) b.g e2 (rs (ky Z0) (rs (d.later sAB) (rs b.r r0))) hw (Qw S G d.cl b.cl) (by apply KM.d0;with_reducible repeat' first|apply KM.Cy|apply KM.BP|apply KM.q0|apply KM.q4|apply KM.q3|apply KM.q2|apply KM.q1|omega) (by simp only[aJ,aK];omega) (by omega) (by omega))
 ·refine⟨_,rfl,_,rfl,_,rfl,_,_,rfl,rfl,_,rfl,_,rfl,a,p,c,ns,i+1,deep-1,near,rfl,B,(by omega),(by omega),(by omega),(by omega),G,(by omega),λW vA j i2 d=>?_⟩;have hA:=d.hi;have lA:=d.lo;refine⟨_,rfl,_,rfl,_,rfl,_,_,rfl,rfl,_,rfl,_,rfl,a,p,c,ns,i2,deep-2,near,rfl,d.g,(by omega),(by omega),(by omega),(by omega),G,(by omega),λX vB H3 Y b=>?_⟩;have hB:=b.hi;have lB:=b.lo;refine⟨_,rfl,_,rfl,_,rfl,_,rfl,_,rfl,_,_,rfl,rfl,_,rfl,_,rfl,a,p,c,ns,Y,deep-1,near,rfl,b.g,(by omega),(by omega),(by omega),(by omega),G,(by omega),λdC vC H4 i4 k=>⟨(dw rfl),λq2 e2=>?_⟩⟩;have hC:=k.hi;have lC:=k.lo;have a1:=d.dp;have a2:=b.dp;have a3:=d.kn;have a4:=b.kn;have a5:=k.dp;have a6:=k.kn;exact q _ _ _ _ (made ((x1.trans d.sx).trans (b.sx.trans k.sx)) k.g e2 (rs ky (rs (b.later k.sx) (rs (d.later (b.sx.trans k.sx)) (rs k.r r0)))) (Qd b.wf d.wf k.wf) (O9 b.cl d.cl k.cl) (by apply KM.d0;with_reducible repeat' first|apply KM.Cy|apply KM.BP|apply KM.q0|apply KM.q4|apply KM.q3|apply KM.q2|apply KM.q1|omega) (by simp only[aJ,aK];omega) (by omega) (by omega))
theorem sZ:aN ["_law_script","_law_tape","_law_deep","_law_near","_law_pool_here","_law_kind_here"] eA (ak iu):=⟨rfl,rfl,rfl,by decide+kernel,rfl,by decide+kernel,by decide+kernel⟩
theorem Jl{n:Nat}(D:Df K mg "_law_fun" iu eA)(M:Mg mg t)(j:bj P w K mg bA "_law_kind" (3*n+132) eA (dS K true n))(k:bj P w K mg bA "_law_term" (3*n+132) eA (dS K false n)):bj P w K mg bA "_law_fun" (3*n+133) eA (jJ K n (2*n+3) (1+6*p5 n) (2*cst n)):=by
 refine D.ok sZ (λvs H Q E h=>?_) (λbase f cF A outer s H vs Q E e h=>?_);·obtain⟨a,p,c,ns,i,deep,near,rfl,_⟩:=h;rfl
 obtain⟨a,p,c,ns,i,deep,near,rfl,g,hi,d0,v,hn,l,N,q⟩:=h;have i0:=g.T.i0;have r:=iA n;have O:=mB n;refine⟨_,(ag (aH (i:=5) sZ.nd rfl (cI rfl) (ay j e.m rfl aC (aa (pv 0) (aa (pv 1) (aa (aQ bM (pv 2) ah) (aa (pv 3) (aa (pv 4) af))))))) (ai (aw (aZ (aa aE (aa (pv 5) (aa (ay k e.m rfl aC (aa (pv 0) (aa (pv 1) (aa (aQ bM (pv 2) ah) (aa (aQ cy (pv 3) ah) (aa (pv 4) af)))))) af))))))),?_⟩;try dsimp only[gL,u]
 refine nH ?_;intro _ _;refine⟨_,rfl,_,rfl,_,rfl,_,_,rfl,rfl,_,rfl,_,rfl,a,p,c,ns,i,deep-2,near,rfl,g,(by omega),(by omega),(by omega),(by omega),(by omega),(by omega),λx R m i1 d=>?_⟩;have C:=d.hi;have J:=d.lo;have z:=d.dp;have G:=d.kn;refine⟨_,rfl,_,rfl,_,rfl,_,rfl,_,_,rfl,rfl,_,rfl,_,_,rfl,rfl,_,rfl,a,p,c,ns,i1,deep-1,near+1,rfl,d.g,(by omega),(by omega),(by omega),(by omega),(by omega),(by omega),λy S o i2 b=>?_⟩;have F:=b.hi;have L:=b.lo;have B:=b.dp;have I:=b.kn;refine⟨(dw rfl),λq1 e1=>?_⟩;exact q _ _ _ _ (made (d.sx.trans b.sx) b.g e1 (rs ky (rs (d.later b.sx) (rs b.r r0))) (Vs d.wf b.wf) (Wc l d.cl b.cl) (by apply KM.d0;with_reducible repeat' first|apply KM.Cy|apply KM.BP|apply KM.q0|apply KM.q4|apply KM.q3|apply KM.q2|apply KM.q1|omega) (by simp only[aJ,aK];omega) (by omega) (by omega))
theorem jO:aN ["_law_script","_law_tape","_law_deep","_law_near","_law_pool_here","_law_kind_here","_law_first"] eA (ak gk):=⟨rfl,rfl,rfl,by decide+kernel,rfl,by decide+kernel,by decide+kernel⟩
theorem E8{n:Nat}(D:Df K mg "_law_pair" gk eA)(M:Mg mg t)(l:bj P w K mg bA "_law_kind" (3*n+132) eA (dS K true n))(k:bj P w K mg bA "_law_term" (3*n+132) eA (dS K false n)):bj P w K mg bA "_law_pair" (3*n+133) eA (jJ K n (2*n+3) (1+9*p5 n) (3*cst n)):=by
 refine D.ok jO (λvs H Q E h=>?_) (λbase f cF A outer s H vs Q E j h=>?_);·obtain⟨a,p,c,ns,i,deep,near,rfl,_⟩:=h;rfl
 obtain⟨a,p,c,ns,i,deep,near,rfl,g,hi,d0,x,hn,W,X,q⟩:=h;have i0:=g.T.i0;have u:=iA n;have Y:=mB n;refine⟨_,(ag (aH (i:=5) jO.nd rfl (cI rfl) (ay l j.m rfl aC (aa (pv 0) (aa (pv 1) (aa (aQ bM (pv 2) ah) (aa (pv 3) (aa (pv 4) af))))))) (ag (aH (i:=6) jO.nd rfl (cI rfl) (ay k j.m rfl aC (aa (pv 0) (aa (pv 1) (aa (aQ bM (pv 2) ah) (aa (pv 3) (aa (pv 4) af))))))) (ai (aw (aZ (aa aE (aa (pv 5) (aa (pv 6) (aa (ay k j.m rfl aC (aa (pv 0) (aa (pv 1) (aa (aQ bM (pv 2) ah) (aa (pv 3) (aa (pv 4) af)))))) af))))))))),?_⟩;try dsimp only[gL,v]
 refine El ?_;intro _ _ _;refine⟨_,rfl,_,rfl,_,rfl,_,_,rfl,rfl,_,rfl,_,rfl,a,p,c,ns,i,deep-2,near,rfl,g,(by omega),(by omega),(by omega),(by omega),(by omega),(by omega),λy Z m i1 e=>?_⟩;have I:=e.hi;have T:=e.lo;have C:=e.dp;have O:=e.kn;refine⟨_,rfl,_,rfl,_,rfl,_,_,rfl,rfl,_,rfl,_,rfl,a,p,c,ns,i1,deep-1,near,rfl,e.g,(by omega),(by omega),(by omega),(by omega),(by omega),(by omega),λz vB o i2 d=>?_⟩;have J:=d.hi;have U:=d.lo;have F:=d.dp;have R:=d.kn;refine⟨_,rfl,_,rfl,_,rfl,_,rfl,_,rfl,_,_,rfl,rfl,_,rfl,_,rfl,a,p,c,ns,i2,deep-1,near,rfl,d.g,(by omega),(by omega),(by omega),(by omega),(by omega),(by omega),λB vC r N b=>?_⟩;have L:=b.hi;have V:=b.lo;have G:=b.dp;have S:=b.kn;refine⟨(dw rfl),λq1 e1=>?_⟩;exact q _ _ _ _ (made (e.sx.trans (d.sx.trans b.sx)) b.g e1 (rs ky (rs (e.later (d.sx.trans b.sx)) (rs (d.later b.sx) (rs b.r r0)))) (QX e.wf d.wf b.wf) (Pm e.cl d.cl b.cl) (by apply KM.d0;with_reducible repeat' first|apply KM.Cy|apply KM.BP|apply KM.q0|apply KM.q4|apply KM.q3|apply KM.q2|apply KM.q1|omega) (by simp only[aJ,aK];omega) (by omega) (by omega))
theorem oI:aN ["_law_script","_law_tape","_law_deep","_law_near","_law_pool_here","_law_kind_here"] eA (ak gs):=⟨rfl,rfl,rfl,by decide+kernel,rfl,by decide+kernel,by decide+kernel⟩
theorem DY{n:Nat}(D:Df K mg "_law_like" gs eA)(M:Mg mg t)(j:bj P w K mg bA "_law_kind" (3*n+132) eA (dS K true n))(k:bj P w K mg bA "_law_term" (3*n+132) eA (dS K false n)):bj P w K mg bA "_law_like" (3*n+133) eA (jJ K n (2*n+3) (1+6*p5 n) (2*cst n)):=by
 refine D.ok oI (λvs H Q E h=>?_) (λbase f cF A outer s H vs Q E e h=>?_);·obtain⟨a,p,c,ns,i,deep,near,rfl,_⟩:=h;rfl
 obtain⟨a,p,c,ns,i,deep,near,rfl,g,hi,d0,u,hn,L,N,q⟩:=h;have i0:=g.T.i0;have o:=iA n;have O:=mB n;refine⟨_,(ag (aH (i:=5) oI.nd rfl (cI rfl) (ay j e.m rfl aC (aa (pv 0) (aa (pv 1) (aa (aQ bM (pv 2) ah) (aa (pv 3) (aa (pv 4) af))))))) (ai (aw (aZ (aa aE (aa (pv 5) (aa (ay k e.m rfl aC (aa (pv 0) (aa (pv 1) (aa (aQ bM (pv 2) ah) (aa (pv 3) (aa (pv 4) af)))))) af))))))),?_⟩;try dsimp only[gL,r]
 refine nH ?_;intro _ _;refine⟨_,rfl,_,rfl,_,rfl,_,_,rfl,rfl,_,rfl,_,rfl,a,p,c,ns,i,deep-2,near,rfl,g,(by omega),(by omega),(by omega),(by omega),(by omega),(by omega),λv R l i1 d=>?_⟩;have B:=d.hi;have I:=d.lo;have y:=d.dp;have F:=d.kn;refine⟨_,rfl,_,rfl,_,rfl,_,rfl,_,_,rfl,rfl,_,rfl,_,rfl,a,p,c,ns,i1,deep-1,near,rfl,d.g,(by omega),(by omega),(by omega),(by omega),(by omega),(by omega),λx S m i2 b=>?_⟩;have C:=b.hi;have J:=b.lo;have z:=b.dp;have G:=b.kn;refine⟨(dw rfl),λq1 e1=>?_⟩;exact q _ _ _ _ (made (d.sx.trans b.sx) b.g e1 (rs ky (rs (d.later b.sx) (rs b.r r0))) (Qh d.wf b.wf) (Qv d.cl b.cl) (by apply KM.d0;with_reducible repeat' first|apply KM.Cy|apply KM.BP|apply KM.q0|apply KM.q4|apply KM.q3|apply KM.q2|apply KM.q1|omega) (by simp only[aJ,aK];omega) (by omega) (by omega))
theorem vg:aN eA eA (ak eK):=⟨rfl,rfl,rfl,by decide+kernel,rfl,by decide+kernel,by decide+kernel⟩
theorem y_{n:Nat}(D:Df K mg "_law_number" eK eA)(M:Mg mg t)(j:bj P w K mg bA "_law_draw" (1) FC (ft K))(k:bj P w K mg bA "_law_term" (3*n+132) eA (dS K false n)):bj P w K mg bA "_law_number" (3*n+133) eA (jJ K n (2*n+3) (1+3*p5 n) (1+cst n)):=by
 refine D.ok vg (λvs H Q E h=>?_) (λbase f cF A outer s H vs Q E e h=>?_);·obtain⟨a,p,c,ns,i,deep,near,rfl,_⟩:=h;rfl
 obtain⟨a,p,c,ns,i,deep,near,rfl,g,hi,d0,v,hn,F,G,q⟩:=h;have i0:=g.T.i0;have r:=iA n;have I:=mB n;refine⟨_,(ag (bu (aD bP (ay j e.m rfl aC (aa (pv 0) (aa (pv 1) (aa ah af)))) ah (aG _)) (ai (aw (aZ (aa aE af)))) aM) (ai (aw (aZ (aa aE (aa (ay k e.m rfl aC (aa (pv 0) (aa (pv 1) (aa (aQ bM (pv 2) ah) (aa (pv 3) (aa (pv 4) af)))))) af)))))),?_⟩;try dsimp only[gL,u]
 refine nH ?_;intro _ _;refine⟨_,rfl,_,rfl,a,p,ns,i,3,rfl,g.T,(by omega),(by decide),λway m w0 L x0 l=>⟨rfl,_,rfl,?_⟩⟩;have d:=g.next x0 l (by omega);refine aV (λ_=>?_) (λ_=>?_);·refine⟨(dw rfl),λq1 e1=>?_⟩;exact q _ _ _ _ (made x0 d e1 (rs ky r0) rX qZ (by apply KM.d0;with_reducible repeat' first|apply KM.Cy|apply KM.BP|apply KM.q0|apply KM.q4|apply KM.q3|apply KM.q2|apply KM.q1|omega) (by simp only[aJ,aK];omega) (by omega) (by omega))
 refine⟨_,rfl,_,rfl,_,rfl,_,_,rfl,rfl,_,rfl,_,rfl,a,p,c,ns,i+1,deep-1,near,rfl,d,(by omega),(by omega),(by omega),(by omega),(by omega),(by omega),λx J o i1 b=>?_⟩;have z:=b.hi;have C:=b.lo;have y:=b.dp;have B:=b.kn;refine⟨(dw rfl),λq1 e1=>?_⟩;exact q _ _ _ _ (made (x0.trans b.sx) b.g e1 (rs ky (rs b.r r0)) (yy b.wf) (zL b.cl) (by apply KM.d0;with_reducible repeat' first|apply KM.Cy|apply KM.BP|apply KM.q0|apply KM.q4|apply KM.q3|apply KM.q2|apply KM.q1|omega) (by simp only[aJ,aK];omega) (by omega) (by omega))
def Ih(K:PySem.W.Frag)(n dp kn:Nat)(co:Int):Sp:=λvs H Q _=>∃(a p c:Addr)(ns:List Int)(i deep near way:Int),vs=[.ref a, .ref p, .int deep, .int near, .ref c, .int way]/\Sg K a p c ns H i/\i+9*cst n<2^58/\1<=deep/\deep<n/\n<=9/\0<=near/\near+n+1<=99/\∀(d:D)(v:V)(H':Hp)(i':Int),Ou K a p c ns H i near false dp kn co d v H' i'->Q v H'
theorem dY:aN ["_law_script","_law_tape","_law_deep","_law_near","_law_pool_here","_law_way","_law_word","_law_kind_here","_law_first","_law_second"] IG (ak eJ):=⟨rfl,rfl,rfl,by decide+kernel,rfl,by decide+kernel,by decide+kernel⟩
theorem AM{n:Nat}(D:Df K mg "_law_parted" eJ IG)(M:Mg mg t)(S:bj P w K mg bA "_law_draw" (1) FC (ft K))(W:bj P w K mg bA "_law_kind" (3*n+132) eA (dS K true n))(u:bj P w K mg bA "_law_term" (3*n+132) eA (dS K false n))(U:bj P w K mg bA "_law_fun" (3*n+133) eA (jJ K n (2*n+3) (1+6*p5 n) (2*cst n)))(Z:bj P w K mg bA "_law_pair" (3*n+133) eA (jJ K n (2*n+3) (1+9*p5 n) (3*cst n)))(X:bj P w K mg bA "_law_like" (3*n+133) eA (jJ K n (2*n+3) (1+6*p5 n) (2*cst n)))(Y:bj P w K mg bA "_law_number" (3*n+133) eA (jJ K n (2*n+3) (1+3*p5 n) (1+cst n))):bj P w K mg bA "_law_parted" (3*n+134) IG (Ih K n (2*n+4) (2+12*p5 n) (2+5*cst n)):=by
 refine D.ok dY (λvs H Q E h=>?_) (λbase f cF A outer s H vs Q E l h=>?_);·obtain⟨a,p,c,ns,i,deep,near,way,rfl,_⟩:=h;rfl
 obtain⟨a,p,c,ns,i,deep,near,way,rfl,g,hi,d0,o,hn,m,r,q⟩:=h;have i0:=g.T.i0;have UX:=iA n;have p1:=mB n;refine⟨_,(ag (bu (aD bP (pv 5) ah (aG _)) (ai (aw (aZ (aa aE (aa (ay U l.m rfl aC (aa (pv 0) (aa (pv 1) (aa (pv 2) (aa (pv 3) (aa (pv 4) af)))))) (aa (ay u l.m rfl aC (aa (pv 0) (aa (pv 1) (aa (aQ bM (pv 2) ah) (aa (pv 3) (aa (pv 4) af)))))) af)))))) aM) (ag (bu (aD bP (pv 5) ah (aG _)) (ag (aH (i:=6) dY.nd rfl (cI rfl) (aS cT (cA (aa aE (aa aE af))) (ay S l.m rfl aC (aa (pv 0) (aa (pv 1) (aa ah af)))) (λ_ _=>rfl))) (ai (aw (aZ (aa (pv 6) (aa (ay Z l.m rfl aC (aa (pv 0) (aa (pv 1) (aa (pv 2) (aa (pv 3) (aa (pv 4) af)))))) af)))))) aM) (ag (aH (i:=7) dY.nd rfl (cI rfl) (ay W l.m rfl aC (aa (pv 0) (aa (pv 1) (aa (aQ bM (pv 2) ah) (aa (aQ cy (pv 3) ah) (aa (pv 4) af))))))) (ag (aH (i:=8) dY.nd rfl (cI rfl) (ay u l.m rfl aC (aa (pv 0) (aa (pv 1) (aa (aQ bM (pv 2) ah) (aa (pv 3) (aa (pv 4) af))))))) (ag (bu (aD bP (pv 5) ah (aG _)) (ai (aw (aZ (aa aE (aa (pv 7) (aa (pv 8) (aa (ay X l.m rfl aC (aa (pv 0) (aa (pv 1) (aa (pv 2) (aa (pv 3) (aa (pv 4) af)))))) af))))))) aM) (ag (aH (i:=9) dY.nd rfl (cI rfl) (ay u l.m rfl aC (aa (pv 0) (aa (pv 1) (aa (aQ bM (pv 2) ah) (aa (pv 3) (aa (pv 4) af))))))) (ai (aw (aZ (aa aE (aa (pv 7) (aa (pv 8) (aa (pv 9) (aa (ay Y l.m rfl aC (aa (pv 0) (aa (pv 1) (aa (pv 2) (aa (pv 3) (aa (pv 4) af)))))) af)))))))))))))),?_⟩;try dsimp only[gL,cG]
 refine ab0 ?_;intro _ _ _ _ _ _ _;refine⟨_,rfl,rfl,_,rfl,aV (λ_=>?_) (λ_=>?_)⟩;·refine⟨_,rfl,_,rfl,_,rfl,_,rfl,_,rfl,a,p,c,ns,i,deep,near,rfl,g,(by omega),d0,o,(by omega),m,r,λG R F i1 b=>?_⟩;have J:=b.hi;have O:=b.lo;have I:=b.dp;have N:=b.kn;refine⟨_,rfl,_,rfl,_,rfl,_,_,rfl,rfl,_,rfl,_,rfl,a,p,c,ns,i1,deep-1,near,rfl,b.g,(by omega),(by omega),(by omega),(by omega),(by omega),(by omega),λdB vB H2 i2 e=>?_⟩;have hB:=e.hi;have lB:=e.lo;have WM:=e.dp;have W7:=e.kn;refine⟨(dw rfl),λq1 e1=>?_⟩;exact q _ _ _ _ (made (b.sx.trans e.sx) e.g e1 (rs ky (rs (b.later e.sx) (rs e.r r0))) (xN b.wf e.wf) (KL b.cl e.cl) (by apply KM.d0;with_reducible repeat' first|apply KM.Cy|apply KM.BP|apply KM.q0|apply KM.q4|apply KM.q3|apply KM.q2|apply KM.q1|omega) (by simp only[aJ,aK];omega) (by omega) (by omega))
 refine⟨_,rfl,rfl,_,rfl,aV (λ_=>?_) (λ_=>?_)⟩
 ·refine⟨(dw rfl),λq0 e0=>?_⟩;have x:=ar e0 (.lst [V.str "first", .str "second"]);refine⟨_,rfl,_,rfl,a,p,ns,i,2,rfl,(g.mono x).T,(by omega),(by decide),λB H9 w0 w1 C h9=>?_⟩;have g9:=(g.mono x).next C h9 (by omega);obtain⟨y,hy,v⟩:∃y:Str,kZ [V.str "first", .str "second"] B=some (.str y)/\(y="first"\/y="second"):=by
   have :B=0\/B=1:=by omega
   rcases this with rfl|rfl;·exact⟨_,rfl, .inl rfl⟩
   ·exact⟨_,rfl, .inr rfl⟩
  have A_:q0≠p:=λz=>by subst z;rw[g.T.fK]at e0;cases e0
  have hq0:=C _ _ A_ (show(upd _ q0 (.lst [V.str "first", .str "second"])) q0=some _ from aq);have Z0:y.length<=1000:=by rcases v with rfl|rfl<;>decide
  have hcy:∀{d:KM.D},CF.Cl near.toNat (tr d)->CF.Cl near.toNat (tr (.tup [.str y,d])):=λh=>by
   rcases v with rfl|rfl;·exact CO h
   ·exact wJ h
  have hwy:∀{d:KM.D},bh ao false d=true->bh ao false (.tup [.str y,d])=true:=λh=>by
   rcases v with rfl|rfl;·exact DJ h
   ·exact vS h
  refine⟨q0,_,_,_,rfl,rfl,bN.of hq0,hy,?_⟩;refine⟨_,rfl,_,rfl,_,rfl,_,rfl,_,rfl,_,rfl,a,p,c,ns,i+1,deep,near,rfl,g9,(by omega),d0,o,(by omega),m,r,λG R F i1 b=>?_⟩;have J:=b.hi;have O:=b.lo;have I:=b.dp;have N:=b.kn;refine⟨(dw rfl),λq1 e1=>?_⟩;exact q _ _ _ _ (made ((x.x.trans C).trans b.sx) b.g e1 (rs (ky Z0) (rs b.r r0)) (hwy b.wf) (hcy b.cl) (by apply KM.d0;with_reducible repeat' first|apply KM.Cy|apply KM.BP|apply KM.q0|apply KM.q4|apply KM.q3|apply KM.q2|apply KM.q1|omega) (by simp only[aJ,aK];omega) (by omega) (by omega))
 refine⟨_,rfl,_,rfl,_,rfl,_,_,rfl,rfl,_,rfl,_,_,rfl,rfl,_,rfl,a,p,c,ns,i,deep-2,near+1,rfl,g,(by omega),(by omega),(by omega),(by omega),(by omega),(by omega),λG R F i1 b=>?_⟩;have J:=b.hi;have O:=b.lo;have I:=b.dp;have N:=b.kn;refine⟨_,rfl,_,rfl,_,rfl,_,_,rfl,rfl,_,rfl,_,rfl,a,p,c,ns,i1,deep-1,near,rfl,b.g,(by omega),(by omega),(by omega),(by omega),(by omega),(by omega),λdB vB H2 i2 e=>?_⟩;have hB:=e.hi;have lB:=e.lo;have WM:=e.dp;have W7:=e.kn;refine⟨_,rfl,rfl,_,rfl,aV (λ_=>?_) (λ_=>?_)⟩;·refine⟨_,rfl,_,rfl,_,rfl,_,rfl,_,rfl,_,rfl,_,rfl,a,p,c,ns,i2,deep,near,rfl,e.g,(by omega),d0,o,(by omega),m,r,λdC vC H3 L j=>?_⟩;have hC:=j.hi;have lC:=j.lo;have dpC:=j.dp;have knC:=j.kn;refine⟨(dw rfl),λq1 e1=>?_⟩;exact q _ _ _ _ (made (b.sx.trans (e.sx.trans j.sx)) j.g e1 (rs ky (rs (b.later (e.sx.trans j.sx)) (rs (e.later j.sx) (rs j.r r0)))) (Bi b.wf e.wf j.wf) (Dj m b.cl e.cl j.cl) (by apply KM.d0;with_reducible repeat' first|apply KM.Cy|apply KM.BP|apply KM.q0|apply KM.q4|apply KM.q3|apply KM.q2|apply KM.q1|omega) (by simp only[aJ,aK];omega) (by omega) (by omega))
 refine⟨_,rfl,_,rfl,_,rfl,_,_,rfl,rfl,_,rfl,_,rfl,a,p,c,ns,i2,deep-1,near,rfl,e.g,(by omega),(by omega),(by omega),(by omega),(by omega),(by omega),λdC vC H3 L j=>?_⟩;have hC:=j.hi;have lC:=j.lo;have dpC:=j.dp;have knC:=j.kn;refine⟨_,rfl,_,rfl,_,rfl,_,rfl,_,rfl,_,rfl,_,rfl,_,rfl,a,p,c,ns,L,deep,near,rfl,j.g,(by omega),d0,o,(by omega),m,r,λdE vE H4 i4 k=>?_⟩;have hE:=k.hi;have lE:=k.lo;have dpE:=k.dp;have knE:=k.kn;refine⟨(dw rfl),λq1 e1=>?_⟩;exact q _ _ _ _ (made (b.sx.trans (e.sx.trans (j.sx.trans k.sx))) k.g e1 (rs ky (rs (b.later (e.sx.trans (j.sx.trans k.sx))) (rs (e.later (j.sx.trans k.sx)) (rs (j.later k.sx) (rs k.r r0))))) (Eh b.wf e.wf j.wf k.wf) (Oi m b.cl e.cl j.cl k.cl) (by apply KM.d0;with_reducible repeat' first|apply KM.Cy|apply KM.BP|apply KM.q0|apply KM.q4|apply KM.q3|apply KM.q2|apply KM.q1|omega) (by simp only[aJ,aK];omega) (by omega) (by omega))
theorem fI:aN ["_law_script","_law_tape","_law_deep","_law_near","_law_pool_here","_law_way","_law_one","_law_two","_law_three"] IG (ak fe):=⟨rfl,rfl,rfl,by decide+kernel,rfl,by decide+kernel,by decide+kernel⟩
theorem BJ{n:Nat}(D:Df K mg "_law_still" fe IG)(M:Mg mg t)(U:bj P w K mg bA "_law_draw" (1) FC (ft K))(J:bj P w K mg bA "_law_kind" (3*n+132) eA (dS K true n))(o:bj P w K mg bA "_law_term" (3*n+132) eA (dS K false n))(W:bj P w K mg bA "_law_fun" (3*n+133) eA (jJ K n (2*n+3) (1+6*p5 n) (2*cst n)))(Y:bj P w K mg bA "_law_pair" (3*n+133) eA (jJ K n (2*n+3) (1+9*p5 n) (3*cst n)))(X:bj P w K mg bA "_law_like" (3*n+133) eA (jJ K n (2*n+3) (1+6*p5 n) (2*cst n))):bj P w K mg bA "_law_still" (3*n+134) IG (Ih K n (2*n+4) (1+12*p5 n) (1+4*cst n)):=by
 refine D.ok fI (λvs H Q E h=>?_) (λbase f cF A outer s H vs Q E l h=>?_);·obtain⟨a,p,c,ns,i,deep,near,way,rfl,_⟩:=h;rfl
 obtain⟨a,p,c,ns,i,deep,near,way,rfl,g,hi,d0,L,hn,m,O,q⟩:=h;have i0:=g.T.i0;have UX:=iA n;have p1:=mB n;refine⟨_,(ag (bu (aD oD (pv 5) ah (aG _)) (ai (aw (aZ (aa aE (aa (ay o l.m rfl aC (aa (pv 0) (aa (pv 1) (aa (aQ bM (pv 2) ah) (aa (pv 3) (aa (pv 4) af)))))) af))))) aM) (ag (bu (aD bP (pv 5) ah (aG _)) (ai (aw (ay W l.m rfl aC (aa (pv 0) (aa (pv 1) (aa (pv 2) (aa (pv 3) (aa (pv 4) af)))))))) aM) (ag (bu (aD bP (pv 5) ah (aG _)) (ai (aw (ay Y l.m rfl aC (aa (pv 0) (aa (pv 1) (aa (pv 2) (aa (pv 3) (aa (pv 4) af)))))))) aM) (ag (bu (aD bP (pv 5) ah (aG _)) (ai (aw (ay X l.m rfl aC (aa (pv 0) (aa (pv 1) (aa (pv 2) (aa (pv 3) (aa (pv 4) af)))))))) aM) (ag (aH (i:=6) fI.nd rfl (cI rfl) (ay o l.m rfl aC (aa (pv 0) (aa (pv 1) (aa (aQ bM (pv 2) ah) (aa (pv 3) (aa (pv 4) af))))))) (ag (bu (aD bP (pv 5) ah (aG _)) (ai (aw (aZ (aa aE (aa (ay J l.m rfl aC (aa (pv 0) (aa (pv 1) (aa (aQ bM (pv 2) ah) (aa (pv 3) (aa (pv 4) af)))))) (aa (pv 6) af)))))) aM) (ag (bu (aD bP (pv 5) ah (aG _)) (ai (aw (aZ (aa (aS cT (cA (aa aE (aa aE af))) (ay U l.m rfl aC (aa (pv 0) (aa (pv 1) (aa ah af)))) (λ_ _=>rfl)) (aa (pv 6) af))))) aM) (ag (aH (i:=7) fI.nd rfl (cI rfl) (ay o l.m rfl aC (aa (pv 0) (aa (pv 1) (aa (aQ bM (pv 2) ah) (aa (pv 3) (aa (pv 4) af))))))) (ag (bu (aD bP (pv 5) ah (aG _)) (ai (aw (aZ (aa aE (aa (pv 6) (aa (pv 7) af)))))) aM) (ag (bu (aD bP (pv 5) ah (aG _)) (ai (aw (aZ (aa aE (aa (ay J l.m rfl aC (aa (pv 0) (aa (pv 1) (aa (aQ bM (pv 2) ah) (aa (aQ cy (pv 3) ah) (aa (pv 4) af)))))) (aa (pv 6) (aa (pv 7) af))))))) aM) (ag (aH (i:=8) fI.nd rfl (cI rfl) (ay o l.m rfl aC (aa (pv 0) (aa (pv 1) (aa (aQ bM (pv 2) ah) (aa (pv 3) (aa (pv 4) af))))))) (ai (aw (aZ (aa aE (aa (ay J l.m rfl aC (aa (pv 0) (aa (pv 1) (aa (aQ bM (pv 2) ah) (aa (aQ cy (pv 3) ah) (aa (pv 4) af)))))) (aa (pv 6) (aa (pv 7) (aa (pv 8) af))))))))))))))))))),?_⟩;try dsimp only[gL,cG]
 refine Ym ?_;intro _ _ _ _ _ _ _ _ _ _ _ _;refine⟨_,rfl,_,_,rfl,rfl,_,rfl,aV (λ_=>?_) (λ_=>?_)⟩;·refine⟨_,rfl,_,rfl,_,rfl,_,_,rfl,rfl,_,rfl,_,rfl,a,p,c,ns,i,deep-1,near,rfl,g,(by omega),(by omega),(by omega),(by omega),(by omega),(by omega),λu G r i1 b=>?_⟩;have x:=b.hi;have C:=b.lo;have v:=b.dp;have B:=b.kn;refine⟨(dw rfl),λq1 e1=>?_⟩;exact q _ _ _ _ (made (b.sx) b.g e1 (rs ky (rs b.r r0)) (yy b.wf) (zL b.cl) (by apply KM.d0;with_reducible repeat' first|apply KM.Cy|apply KM.BP|apply KM.q0|apply KM.q4|apply KM.q3|apply KM.q2|apply KM.q1|omega) (by simp only[aJ,aK];omega) (by omega) (by omega))
 refine⟨_,rfl,rfl,_,rfl,aV (λ_=>?_) (λ_=>?_)⟩;·refine⟨_,rfl,_,rfl,_,rfl,_,rfl,_,rfl,a,p,c,ns,i,deep,near,rfl,g,(by omega),d0,L,(by omega),m,O,λu G r i1 b=>?_⟩;have x:=b.hi;have C:=b.lo;have v:=b.dp;have B:=b.kn;exact q _ _ _ _ (b.weak (by omega) (by omega) (by omega))
 refine⟨_,rfl,rfl,_,rfl,aV (λ_=>?_) (λ_=>?_)⟩;·refine⟨_,rfl,_,rfl,_,rfl,_,rfl,_,rfl,a,p,c,ns,i,deep,near,rfl,g,(by omega),d0,L,(by omega),m,O,λu G r i1 b=>?_⟩;have x:=b.hi;have C:=b.lo;have v:=b.dp;have B:=b.kn;exact q _ _ _ _ (b.weak (by omega) (by omega) (by omega))
 refine⟨_,rfl,rfl,_,rfl,aV (λ_=>?_) (λ_=>?_)⟩;·refine⟨_,rfl,_,rfl,_,rfl,_,rfl,_,rfl,a,p,c,ns,i,deep,near,rfl,g,(by omega),d0,L,(by omega),m,O,λu G r i1 b=>?_⟩;have x:=b.hi;have C:=b.lo;have v:=b.dp;have B:=b.kn;exact q _ _ _ _ (b.weak (by omega) (by omega) (by omega))
 refine⟨_,rfl,_,rfl,_,rfl,_,_,rfl,rfl,_,rfl,_,rfl,a,p,c,ns,i,deep-1,near,rfl,g,(by omega),(by omega),(by omega),(by omega),(by omega),(by omega),λu G r i1 b=>?_⟩;have x:=b.hi;have C:=b.lo;have v:=b.dp;have B:=b.kn;refine⟨_,rfl,rfl,_,rfl,aV (λ_=>?_) (λ_=>?_)⟩;·refine⟨_,rfl,_,rfl,_,rfl,_,_,rfl,rfl,_,rfl,_,rfl,a,p,c,ns,i1,deep-2,near,rfl,b.g,(by omega),(by omega),(by omega),(by omega),(by omega),(by omega),λdB vB Z i2 e=>?_⟩;have hB:=e.hi;have lB:=e.lo;have WM:=e.dp;have W7:=e.kn;refine⟨_,rfl,(dw rfl),λq1 e1=>?_⟩;exact q _ _ _ _ (made (b.sx.trans e.sx) e.g e1 (rs ky (rs e.r (rs (b.later e.sx) r0))) (Nm e.wf b.wf) (MN e.cl b.cl) (by apply KM.d0;with_reducible repeat' first|apply KM.Cy|apply KM.BP|apply KM.q0|apply KM.q4|apply KM.q3|apply KM.q2|apply KM.q1|omega) (by simp only[aJ,aK];omega) (by omega) (by omega))
 refine⟨_,rfl,rfl,_,rfl,aV (λ_=>?_) (λ_=>?_)⟩
 ·refine⟨(dw rfl),λq0 e0=>?_⟩;have F:=ar e0 (.lst [V.str "first", .str "second"]);refine⟨_,rfl,_,rfl,a,p,ns,i1,2,rfl,(b.g.mono F).T,(by omega),(by decide),λR H9 w0 w1 I h9=>?_⟩;have g9:=(b.g.mono F).next I h9 (by omega);obtain⟨y,hy,N⟩:∃y:Str,kZ [V.str "first", .str "second"] R=some (.str y)/\(y="first"\/y="second"):=by
   have :R=0\/R=1:=by omega
   rcases this with rfl|rfl;·exact⟨_,rfl, .inl rfl⟩
   ·exact⟨_,rfl, .inr rfl⟩
  have A_:q0≠p:=λz=>by subst z;rw[b.g.T.fK]at e0;cases e0
  have hq0:=I _ _ A_ (show(upd _ q0 (.lst [V.str "first", .str "second"])) q0=some _ from aq);have Z0:y.length<=1000:=by rcases N with rfl|rfl<;>decide
  have hcy:∀{d:KM.D},CF.Cl near.toNat (tr d)->CF.Cl near.toNat (tr (.tup [.str y,d])):=λh=>by
   rcases N with rfl|rfl;·exact CO h
   ·exact wJ h
  have hwy:∀{d:KM.D},bh ao false d=true->bh ao false (.tup [.str y,d])=true:=λh=>by
   rcases N with rfl|rfl;·exact DJ h
   ·exact vS h
  refine⟨q0,_,_,_,rfl,rfl,bN.of hq0,hy,_,rfl,?_⟩;refine⟨(dw rfl),λq1 e1=>?_⟩;exact q _ _ _ _ (made (b.sx.trans (F.x.trans I)) g9 e1 (rs (ky Z0) (rs (b.later (F.x.trans I)) r0)) (hwy b.wf) (hcy b.cl) (by apply KM.d0;with_reducible repeat' first|apply KM.Cy|apply KM.BP|apply KM.q0|apply KM.q4|apply KM.q3|apply KM.q2|apply KM.q1|omega) (by simp only[aJ,aK];omega) (by omega) (by omega))
 refine⟨_,rfl,_,rfl,_,rfl,_,_,rfl,rfl,_,rfl,_,rfl,a,p,c,ns,i1,deep-1,near,rfl,b.g,(by omega),(by omega),(by omega),(by omega),(by omega),(by omega),λdB vB Z i2 e=>?_⟩;have hB:=e.hi;have lB:=e.lo;have WM:=e.dp;have W7:=e.kn;refine⟨_,rfl,rfl,_,rfl,aV (λ_=>?_) (λ_=>?_)⟩;·refine⟨_,rfl,_,rfl,(dw rfl),λq1 e1=>?_⟩;exact q _ _ _ _ (made (b.sx.trans e.sx) e.g e1 (rs ky (rs (b.later e.sx) (rs e.r r0))) (xN b.wf e.wf) (KL b.cl e.cl) (by apply KM.d0;with_reducible repeat' first|apply KM.Cy|apply KM.BP|apply KM.q0|apply KM.q4|apply KM.q3|apply KM.q2|apply KM.q1|omega) (by simp only[aJ,aK];omega) (by omega) (by omega))
 refine⟨_,rfl,rfl,_,rfl,aV (λ_=>?_) (λ_=>?_)⟩;·refine⟨_,rfl,_,rfl,_,rfl,_,_,rfl,rfl,_,rfl,_,_,rfl,rfl,_,rfl,a,p,c,ns,i2,deep-2,near+1,rfl,e.g,(by omega),(by omega),(by omega),(by omega),(by omega),(by omega),λdC vC H3 S j=>?_⟩;have hC:=j.hi;have lC:=j.lo;have dpC:=j.dp;have knC:=j.kn;refine⟨_,rfl,_,rfl,(dw rfl),λq1 e1=>?_⟩;exact q _ _ _ _ (made (b.sx.trans (e.sx.trans j.sx)) j.g e1 (rs ky (rs j.r (rs (b.later (e.sx.trans j.sx)) (rs (e.later j.sx) r0)))) (Bi j.wf b.wf e.wf) (Dj m j.cl b.cl e.cl) (by apply KM.d0;with_reducible repeat' first|apply KM.Cy|apply KM.BP|apply KM.q0|apply KM.q4|apply KM.q3|apply KM.q2|apply KM.q1|omega) (by simp only[aJ,aK];omega) (by omega) (by omega))
 refine⟨_,rfl,_,rfl,_,rfl,_,_,rfl,rfl,_,rfl,_,rfl,a,p,c,ns,i2,deep-1,near,rfl,e.g,(by omega),(by omega),(by omega),(by omega),(by omega),(by omega),λdC vC H3 S j=>?_⟩;have hC:=j.hi;have lC:=j.lo;have dpC:=j.dp;have knC:=j.kn;refine⟨_,rfl,_,rfl,_,rfl,_,_,rfl,rfl,_,rfl,_,_,rfl,rfl,_,rfl,a,p,c,ns,S,deep-2,near+1,rfl,j.g,(by omega),(by omega),(by omega),(by omega),(by omega),(by omega),λdE vE H4 i4 k=>?_⟩;have hE:=k.hi;have lE:=k.lo;have dpE:=k.dp;have knE:=k.kn;refine⟨_,rfl,_,rfl,_,rfl,(dw rfl),λq1 e1=>?_⟩;exact q _ _ _ _ (made (b.sx.trans (e.sx.trans (j.sx.trans k.sx))) k.g e1 (rs ky (rs k.r (rs (b.later (e.sx.trans (j.sx.trans k.sx))) (rs (e.later (j.sx.trans k.sx)) (rs (j.later k.sx) r0))))) (Eh k.wf b.wf e.wf j.wf) (Oi m k.cl b.cl e.cl j.cl) (by apply KM.d0;with_reducible repeat' first|apply KM.Cy|apply KM.BP|apply KM.q0|apply KM.q4|apply KM.q3|apply KM.q2|apply KM.q1|omega) (by simp only[aJ,aK];omega) (by omega) (by omega))
theorem pA:aN IG eA (ak gq):=⟨rfl,rfl,rfl,by decide+kernel,rfl,by decide+kernel,by decide+kernel⟩
theorem CW{n:Nat}(D:Df K mg "_law_term" gq eA)(M:Mg mg t)(l:bj P w K mg bA "_law_draw" (1) FC (ft K))(m:bj P w K mg bA "_law_leaf" (131) ["_law_script","_law_tape","_law_near","_law_pool_here"] (D6 K))(r:bj P w K mg bA "_law_parted" (3*n+134) IG (Ih K n (2*n+4) (2+12*p5 n) (2+5*cst n)))(u:bj P w K mg bA "_law_still" (3*n+134) IG (Ih K n (2*n+4) (1+12*p5 n) (1+4*cst n))):bj P w K mg bA "_law_term" (3*n+135) eA (dS K false (n+1)):=by
 refine D.ok pA (λvs H Q E h=>?_) (λbase f cF A outer s H vs Q E j h=>?_);·obtain⟨a,p,c,ns,i,deep,near,rfl,_⟩:=h;rfl
 obtain⟨a,p,c,ns,i,deep,near,rfl,g,hi,d0,G,hn,k,I,q⟩:=h;have i0:=g.T.i0;have e:=sX n;have C:=iA n;have z:=yT n;have J:=mB n;rw[e]at hi q;rw[z]at q;refine⟨_,(ag (aH (i:=5) pA.nd rfl (cI rfl) (ay l j.m rfl aC (aa (pv 0) (aa (pv 1) (aa ah af))))) (ag (bu (L2.PW.pt (lO (aD oD (pv 2) ah (aG _)) (jj (aD oD (pv 5) ah (aG _))))) (ai (aw (ay m j.m rfl aC (aa (pv 0) (aa (pv 1) (aa (pv 3) (aa (pv 4) af))))))) aM) (ag (bu (aD oD (pv 5) ah (aG _)) (ai (aw (ay r j.m rfl aC (aa (pv 0) (aa (pv 1) (aa (pv 2) (aa (pv 3) (aa (pv 4) (aa (aQ bM (pv 5) ah) af))))))))) aM) (ai (aw (ay u j.m rfl aC (aa (pv 0) (aa (pv 1) (aa (pv 2) (aa (pv 3) (aa (pv 4) (aa (aQ bM (pv 5) ah) af)))))))))))),?_⟩;try dsimp only[gL,F]
 refine IW ?_;intro _ _ _ _;refine⟨_,rfl,_,rfl,a,p,ns,i,17,rfl,g.T,(by omega),(by decide),λway B w0 L x1 h1=>?_⟩;have b:=g.next x1 h1 (by omega);refine⟨_,rfl,_,_,rfl,rfl,_,rfl,?_⟩;refine aV (λcd=>?_) (λcd=>?_);·exact pR ⟨_,rfl,_,rfl,_,rfl,_,rfl,a,p,c,ns,i+1,near,rfl,b,(by omega),k,(by omega),λd v H' i' o=>q _ _ _ _ ((o.after (co1:=1) x1 (by omega) (by omega)).weak (by omega) (by omega) (by omega))⟩
 refine⟨_,rfl,_,_,rfl,rfl,_,rfl,?_⟩;refine aV (λx=>?_) (λx=>?_);·exact⟨_,rfl,_,rfl,_,rfl,_,rfl,a,p,c,ns,i+1,near,rfl,b,(by omega),k,(by omega),λd v H' i' o=>q _ _ _ _ ((o.after (co1:=1) x1 (by omega) (by omega)).weak (by omega) (by omega) (by omega))⟩
 have cd:¬deep<1:=of_decide_eq_false (Bool.eq_false_iff.mpr cd);refine⟨_,rfl,_,_,rfl,rfl,_,rfl,?_⟩;refine aV (λy=>?_) (λy=>?_);·exact⟨_,rfl,_,rfl,_,rfl,_,rfl,_,rfl,_,rfl,_,_,rfl,rfl,a,p,c,ns,i+1,deep,near,way-3,rfl,b,(by omega),(by omega),(by omega),(by omega),k,(by omega),λd v H' i' o=>q _ _ _ _ ((o.after (co1:=1) x1 (by omega) (by omega)).weak (by omega) (by omega) (by omega))⟩
 ·exact⟨_,rfl,_,rfl,_,rfl,_,rfl,_,rfl,_,rfl,_,_,rfl,rfl,a,p,c,ns,i+1,deep,near,way-7,rfl,b,(by omega),(by omega),(by omega),(by omega),k,(by omega),λd v H' i' o=>q _ _ _ _ ((o.after (co1:=1) x1 (by omega) (by omega)).weak (by omega) (by omega) (by omega))⟩
theorem SD(e:Df K mg "_law_kind" gp eA)(f:Df K mg "_law_term" gq eA)(g:Df K mg "_law_fun" iu eA)(k:Df K mg "_law_pair" gk eA)(h:Df K mg "_law_like" gs eA)(j:Df K mg "_law_number" eK eA)(Da:Df K mg "_law_parted" eJ IG)(l:Df K mg "_law_still" fe IG)(M:Mg mg t)(b:bj P w K mg bA "_law_draw" (1) FC (ft K))(m:bj P w K mg bA "_law_leaf" (131) ["_law_script","_law_tape","_law_near","_law_pool_here"] (D6 K)):∀n:Nat,(bj P w K mg bA "_law_kind" (3*n+132) eA (dS K true n))/\(bj P w K mg bA "_law_term" (3*n+132) eA (dS K false n))|0=>⟨bj.never e λvs H Q E⟨a,p,c,ns,i,deep,near,_,_,_,h1,h2,_⟩=>by omega,bj.never f λvs H Q E⟨a,p,c,ns,i,deep,near,_,_,_,h1,h2,_⟩=>by omega⟩|n+1=>by obtain⟨d,ht⟩:=SD e f g k h j Da l M b m n;have f1:=Jl g M d ht;have f2:=E8 k M d ht;have o:=DY h M d ht;have q:=y_ j M b ht;have r:=AM Da M b d ht f1 f2 o q;have s:=BJ l M b d ht f1 f2 o;exact⟨(Cr e M b d ht).mono (by omega),(CW f M b m r s).mono (by omega)⟩
theorem Ph(x:Str):QV (.str x) ((["var","name"]:List Str).map V.str)=bC x:=by rw[mQ];unfold bC;rw[Bool.eq_iff_iff];simp
theorem Cg:aN ["_law_thing_here"] ["_law_thing_here"] (ak iX):=⟨rfl,rfl,rfl,by decide+kernel,rfl,by decide+kernel,by decide+kernel⟩
theorem EY(D:Df K mg "_law_kids" iX ["_law_thing_here"])(M:Mg mg t):bj P w K mg bA "_law_kids" (1) ["_law_thing_here"] d6:=by
 refine D.ok Cg (λvs H Q E h=>?_) (λbase f cF A outer s H vs Q E y h=>?_);·obtain⟨x,ps,v,rfl,_⟩:=h;rfl
 obtain⟨x,ps,v,rfl,r,hl,q⟩:=h;obtain⟨a,us,rfl,ha,C,us,rfl,⟨rfl,B⟩,g⟩:=r;have u:=g.length;have i:kZ (V.str x::us) 0=some (.str x):=aO (j:=0) rfl;refine⟨_,(ag (bu (aD jS (aS aR (pv 0) ah (λ_ _=>rfl)) (aZ (aa aE (aa aE af))) rfl) (ai (aw (cA af))) aM) (ai (aw (oh md rfl M.Ll HV (aa (ip qO (pv 0) (eL ah) cJ) af))))),?_⟩;try dsimp only[gL,o]
 refine nH ?_;intro _ _;refine⟨_,rfl,a,_,_,_,rfl,rfl,bS.of ha,i,(dw rfl),λe k=>⟨e,(["var","name"]:List Str).map V.str,rfl, .inr (bS.of aq),rfl,rfl,_,rfl,?_⟩⟩;have s1:=ar k (.tup [V.str "var", .str "name"]);show if(QV (.str x) ((["var","name"]:List Str).map V.str))=true then _ else _;rw[Ph];generalize upd H e (.tup [V.str "var", .str "name"])=n at s1⊢;refine aV (λc=>?_) (λc=>?_);·exact⟨d4 _,λp b=>q p [] _ (s1.free b) (s1.trans (ar b _)) aq (by unfold av;rw[if_pos c];exact rfl)⟩
 have m:av x ps=ps:=by unfold av;rw[if_neg c]
 rw[m]at q;have d:iK (V.str x::us) (some 1) none=us:=by have :=hI (V.str x::us) 1;simpa using this
 have h1:=s1 _ _ ha;refine⟨_,rfl,_,rfl,a,_,rfl,bS.of h1,λp b=>?_,λz=>?_⟩;·rw[d];refine⟨p,us,rfl, .inr (bS.of aq),λl hl=>?_⟩;have s2:=s1.trans ((ar b (.tup us)).trans (ar hl (.lst us)));exact q l us _ (s1.free ((ar b _).free hl)) s2 aq (g.mono s2)
 ·rw[d]at z;exact absurd (congrArg List.length z) (by simp)
theorem vH:∀(l:List Nat)(a:Nat),iU (l++[a])=max (iU l) a|[],a=>by show max a 0=max 0 a;omega|b::l,a=>by show max b (iU (l++[a]))=max (max b (iU l)) a;rw[vH l a];omega
theorem wt:∀(ds:List D)(e:D),eM (ds++[e])=(eM ds||dv e)|[],e=>by show(dv e||false)=(false||dv e);rw[Bool.or_false,Bool.false_or]|d::ds,e=>by rw[List.cons_append,eM,wt ds e,eM,Bool.or_assoc]
theorem Pc{x:Str}{ps:List D}{k:Bool}(wf:bh ao k (.tup (.str x::ps))=true)(m:Nat)(hm:m=(av x ps).length):((if x="var"then dv (.tup (.str x::ps))else false)||eM ((av x ps).take m))=dv (.tup (.str x::ps)):=by
 rw[hm,List.take_length];by_cases b:x="var"
 ·rw[if_pos b];have :av x ps=[]:=by unfold av;rw[if_pos (by rw[b];decide+kernel)]
  rw[this];show(_||false)=_;rw[Bool.or_false]
 ·rw[if_neg b,Bool.false_or];by_cases d:bC x=true
  ·have e:av x ps=[]:=by unfold av;rw[if_pos d]
   rw[e];have g:∀a:List D,(∀p∈a,dv p=false)->eM a=false:=λa=>by induction a with|nil=>intro _;rfl|cons q a f=>intro h;rw[eM,h q eC,f λp c=>h p (dX _ c)];rfl
   have :eM ps=false:=g ps λp c=>by obtain⟨i,hi,e⟩:=List.mem_iff_getElem.mp c;exact Bx wf d b i p (by rw[e8 hi,e])
   show false=(false||eM ps);rw[this];rfl
  ·have e:av x ps=ps:=by unfold av;rw[if_neg d]
   rw[e];show eM ps=(false||eM ps);rw[Bool.false_or]
def yD(n:Nat):Sp:=λvs H Q _=>∃(d:D)(v:V),vs=[v]/\Rep H d v/\Rz d n/\∀(q:Addr)(c:Int)(H':Hp),aL H H'->-1<=c->decide (99<c)=dv d->H' q=some (.tup [.int (aJ d:Nat), .int (depth d:Nat), .int c])->Q (.ref q) H'
theorem bF:aN ["_law_thing_here","_law_knots","_law_deep","_law_most","_law_kid","_law_told"] ["_law_thing_here"] (ak du):=⟨rfl,rfl,rfl,by decide+kernel,rfl,by decide+kernel,by decide+kernel⟩
theorem pQ{n:Nat}(D:Df K mg "_law_measured" du ["_law_thing_here"])(M:Mg mg t)(R:bj P w K mg bA "_law_kids" (1) ["_law_thing_here"] d6)(S:bj P w K mg bA "_law_measured" (n+131) ["_law_thing_here"] (yD n)):bj P w K mg bA "_law_measured" (n+132) ["_law_thing_here"] (yD (n+1)):=by
 refine D.ok bF (λvs H Q E h=>?_) (λbase f cF A outer s H vs Q E F h=>?_);·obtain⟨d,v,rfl,_⟩:=h;rfl
 obtain⟨d,v,rfl,r,rz,q⟩:=h;have hh:=F.hd (by omega);obtain⟨x,ps,k,rfl,wf,Y⟩:=d7 rz.wf;have Xf:=oH wf;obtain⟨a,O,rfl,ha,v0,O,rfl,⟨rfl,hx⟩,rp⟩:=id r;have X:kZ (V.str x::O) 0=some (.str x):=aO (j:=0) rfl;refine⟨_,(ag (aH (i:=1) bF.nd rfl (cI rfl) ah) (ag (aH (i:=2) bF.nd rfl (cI rfl) ah) (ag (aH (i:=3) bF.nd rfl (cI rfl) (Mx Ez ah)) (GC (bu (aD bP (aS aR (pv 0) ah (λ_ _=>rfl)) aE (aG _)) (ai (aH (i:=3) bF.nd rfl (cI rfl) (aS aR (pv 0) ah (λ_ _=>rfl)))) aM) (ag (gS PassesOwn.never rfl (j5 (ay R F.m rfl aC (aa (pv 0) af))) (bI (i:=4) bF.nd rfl (cI rfl)) (ag (aH (i:=5) bF.nd rfl (cI rfl) (ay S F.m rfl aC (aa (pv 4) af))) (ag (aH (i:=1) bF.nd rfl (cI rfl) (aQ cy (pv 1) (aS aR (pv 5) ah (λ_ _=>rfl)))) (ag (aH (i:=2) bF.nd rfl (cI rfl) (bw (wx hh) rfl M.LB E1 (aa (pv 2) (aa (aS aR (pv 5) ah (λ_ _=>rfl)) af)))) (ai (aH (i:=3) bF.nd rfl (cI rfl) (bw (wx hh) rfl M.LB E1 (aa (pv 3) (aa (aS aR (pv 5) ah (λ_ _=>rfl)) af))))))))) (ai (aw (aZ (aa (pv 1) (aa (aQ cy (pv 2) ah) (aa (pv 3) af))))))))))),?_⟩;try dsimp only[gL,cG]
 refine IW ?_;intro _ _ _ _;refine⟨_,rfl,λl H'=>∃c:Int,l=[some (.ref a),some (.int 1),some (.int 0),some (.int c),none,none]/\-1<=c/\decide (99<c)=(if x="var"then dv (.tup (.str x::ps))else false)/\H'=H,?_,?_⟩
 ·refine⟨_,rfl,a,_,_,_,rfl,rfl,bS.of ha,X,rfl,_,rfl,?_⟩;refine aV (λc=>?_) (λc=>⟨-1,rfl,by decide,by rw[if_neg (λz=>c (by rw[z];exact decide_eq_true rfl))];rfl,rfl⟩);have c:V.str x=V.str "var":=of_decide_eq_true c;cases c;obtain⟨sh,e1,_,y,_,B,_⟩:=bB wf;rw[eg]at e1;cases e1;rw[tY]at y B;obtain⟨g,rfl⟩:∃g,ps=[g]:=by cases ps with|nil=>simp at B|cons g rest=>cases rest with|nil=>exact⟨g,rfl⟩|cons _ _=>simp at B
  rw[az,cf]at y;have hn:iq g=true:=by simpa[cO]using y.1
  obtain⟨i,rfl⟩:∃i,g= .int i:=by cases g<;>first|exact⟨_,rfl⟩|simp[iq]at hn
  obtain⟨u1,us1,rfl,u,_⟩:=rp;cases(show u1=V.int i from u);have hi:0<=i:=by simp[iq]at hn;exact hn
  exact⟨_,rfl,a,_,_, .int i,rfl,rfl,bS.of ha,aO (j:=1) rfl,i,rfl,by omega,by rw[if_pos rfl];simp[dv,eM],rfl⟩
 rintro l H0⟨c,rfl,m,c1,rfl⟩;refine⟨_,rfl,x,ps,_,rfl,r,Y,λp1 us T _ s1 h1 u=>⟨p1,rfl,⟨us,bN.of h1⟩,?_⟩⟩;have N:=u.length;have J:=iW wf;let W:Nat->L2.St->Hp->Prop:=(λj l H'=>∃(c:Int)(kv G:Option V),l=[some (.ref a),some (.int ((1+(((av x ps).take j).map aJ).sum:Nat):Int)),some (.int (iU (((av x ps).take j).map depth):Nat)),some (.int c),kv,G]/\-1<=c/\decide (99<c)=((if x="var"then dv (.tup (.str x::ps))else false)||eM ((av x ps).take j))/\aL T H');refine jz us.length W ?_ ?_ ?_;·exact⟨c,none,none,rfl,m,by rw[c1,List.take_zero,eM,Bool.or_false],aL.refl _⟩
 ·rintro j l U hj⟨c,kv,G,rfl,m,c1,s2⟩;obtain⟨e,o⟩:∃e,(av x ps)[j]?=some e:=⟨_,e8 (by omega)⟩;obtain⟨I,L,ruj⟩:=u.get o;refine⟨⟨us,I,bN.of (s2 _ _ h1),L⟩,?_⟩;rintro x' H3⟨rfl,p⟩;have p:=p us (bN.of (s2 _ _ h1));rw[L]at p;cases p;refine⟨_,rfl,e,I,rfl,ruj.mono s2,rz.kid o,λq3 b H4 s4 b0 b1 h4=>?_⟩;have C:=bS.of (K:=K) h4;refine⟨_,rfl,_,rfl,q3,_,_,_,rfl,rfl,C,aO (j:=0) rfl,_,_,rfl,rfl,?_⟩;refine⟨_,rfl,_,rfl,q3,_,_,_,rfl,rfl,C,aO (j:=1) rfl,_,_,rfl,?_⟩;refine⟨_,rfl,_,rfl,q3,_,_,_,rfl,rfl,C,aO (j:=2) rfl,_,_,rfl,?_⟩;refine⟨if b>c then b else c,some I,some (.ref q3),?_,?_,?_,s2.trans s4⟩;rotate_left;·show-1<=(if b>c then b else c);split<;>omega
  ·show decide (99<(if b>c then b else c))=_;rw[take_snoc o,wt,<-Bool.or_assoc,<-c1,<-b1];by_cases h1:b>c
   ·rw[if_pos h1];by_cases h2:99<b;·rw[decide_eq_true h2,Bool.or_true]
    ·rw[decide_eq_false h2,decide_eq_false (by omega)];rfl
   ·rw[if_neg h1];by_cases h2:99<c;·rw[decide_eq_true h2,Bool.true_or]
    ·rw[decide_eq_false h2,decide_eq_false (by omega)];rfl
  ·rw[take_snoc o,List.map_append,List.map_append,List.sum_append,List.map_singleton,List.map_singleton,vH,List.sum_singleton];have e1:((1+(((av x ps).take j).map aJ).sum:Nat):Int)+((aJ e:Nat):Int)=((1+((((av x ps).take j).map aJ).sum+aJ e):Nat):Int):=by omega
   have e2:(if((depth e:Nat):Int)>((iU (((av x ps).take j).map depth):Nat):Int)then((depth e:Nat):Int)else((iU (((av x ps).take j).map depth):Nat):Int))=((max (iU (((av x ps).take j).map depth)) (depth e):Nat):Int):=by split<;>omega
   rw[<-e1,<-e2];rfl
 ·rintro l U⟨c,kv,G,rfl,m,c1,s2⟩;refine⟨⟨us,bN.of (s2 _ _ h1),bJ _⟩,?_⟩;refine⟨_,rfl,_,rfl,_,_,rfl,rfl,_,rfl,(dw rfl),λq4 Z=>?_⟩;refine q q4 c _ (s1.trans (s2.trans (ar Z _))) m (c1.trans (Pc wf us.length N)) ?_;rw[J.1,J.2];rw[N,List.take_length];have e2:((iU ((av x ps).map depth):Nat):Int)+1=((1+iU ((av x ps).map depth):Nat):Int):=by omega
  rw[<-e2];exact aq
theorem jK(D:Df K mg "_law_measured" du ["_law_thing_here"])(M:Mg mg t)(a:bj P w K mg bA "_law_kids" (1) ["_law_thing_here"] d6):∀n:Nat,bj P w K mg bA "_law_measured" (n+131) ["_law_thing_here"] (yD n)|0=>bj.never D λvs H Q E⟨d,v,_,_,h,_⟩=>absurd h.dp (jf _)|n+1=>pQ D M a (jK D M a n)
def Hk(n:Nat):Sp:=λvs H Q _=>∃(d:D)(v:V),vs=[v]/\Rep H d v/\Rz d n/\∀H',aL H H'->Q (.bl (cR d)) H'
theorem l0:aN ["_law_thing_here","_law_told"] ["_law_thing_here"] (ak gC):=⟨rfl,rfl,rfl,by decide+kernel,rfl,by decide+kernel,by decide+kernel⟩
theorem CS{n:Nat}(D:Df K mg "_law_great" gC ["_law_thing_here"])(M:Mg mg t)(g:bj P w K mg bA "_law_measured" (n+131) ["_law_thing_here"] (yD n)):bj P w K mg bA "_law_great" (n+132) ["_law_thing_here"] (Hk n):=by
 refine D.ok l0 (λvs H Q E h=>?_) (λbase f cF A outer s H vs Q E l h=>?_);·obtain⟨d,v,rfl,_⟩:=h;rfl
 obtain⟨d,v,rfl,r,rz,q⟩:=h;refine⟨_,(ag (aH (i:=1) l0.nd rfl (cI rfl) (ay g l.m rfl aC (aa (pv 0) af))) (ai (aw (C9 (cK uH (aS aR (pv 1) ah (λ_ _=>rfl)) ah (aG _)) (C9 (cK uH (aS aR (pv 1) ah (λ_ _=>rfl)) ah (aG _)) (jl (cK uH (aS aR (pv 1) ah (λ_ _=>rfl)) ah (aG _)))))))),?_⟩;try dsimp only[gL,o]
 refine nH ?_;intro _ _;refine⟨_,rfl,d,v,rfl,r,rz,λp c k s1 m c1 h1=>?_⟩;have b:=bS.of (K:=K) h1;have a:=q k s1;refine⟨_,rfl,p,_,_,_,rfl,rfl,b,aO (j:=0) rfl,_,_,rfl,rfl,_,rfl,?_⟩;refine aV (λc=>?_) (λc=>?_)
 ·have c:(600:Int)<((aJ d:Nat):Int):=of_decide_eq_true c;have e:c7 d=true:=by unfold c7;simp;omega
  have e:cR d=true:=by show(c7 d||dv d)=true;rw[e];rfl
  rw[e]at a;exact a
 have c:¬(600:Int)<((aJ d:Nat):Int):=of_decide_eq_false (Bool.eq_false_iff.mpr c);refine⟨_,rfl,p,_,_,_,rfl,rfl,b,aO (j:=1) rfl,_,_,rfl,rfl,_,rfl,?_⟩;refine aV (λc2=>?_) (λc2=>?_)
 ·have c2:(40:Int)<((depth d:Nat):Int):=of_decide_eq_true c2;have e:c7 d=true:=by unfold c7;simp;omega
  have e:cR d=true:=by show(c7 d||dv d)=true;rw[e];rfl
  rw[e]at a;exact a
 have c2:¬(40:Int)<((depth d:Nat):Int):=of_decide_eq_false (Bool.eq_false_iff.mpr c2);have e:c7 d=false:=by unfold c7;simp;omega
 have e:cR d=dv d:=by show(c7 d||dv d)=_;rw[e];rfl
 rw[e,<-c1]at a;exact⟨_,rfl,p,_,_,_,rfl,rfl,b,aO (j:=2) rfl,_,_,rfl,rfl,a⟩
def GX(K:PySem.W.Frag):Sp:=λvs H Q _=>∃(a p c:Addr)(ns:List Int)(i deep near:Int),vs=[.ref a, .ref p, .int deep, .int near, .ref c]/\Sg K a p c ns H i/\i<2^50/\1<=deep/\deep<=5/\0<=near/\near<=90/\∀(k:Bool)(d:D)(v:V)(H':Hp)(i':Int),Ou K a p c ns H i near k 16 300000 1000000000 d v H' i'->cR d=false->Q v H'
theorem iM:aN ["_law_script","_law_tape","_law_deep","_law_near","_law_pool_here","_law_made"] eA (ak gF):=⟨rfl,rfl,rfl,by decide+kernel,rfl,by decide+kernel,by decide+kernel⟩
theorem DA(D:Df K mg "_law_thing" gF eA)(M:Mg mg t)(m:bj P w K mg bA "_law_draw" (1) FC (ft K))(r:bj P w K mg bA "_law_kind" (153) eA (dS K true 7))(u:bj P w K mg bA "_law_term" (153) eA (dS K false 7))(n:bj P w K mg bA "_law_great" (152) ["_law_thing_here"] (Hk 20)):bj P w K mg bA "_law_thing" (154) eA (GX K):=by
 refine D.ok iM (λvs H Q E h=>?_) (λbase f cF A outer s H vs Q E b h=>?_);·obtain⟨a,p,c,ns,i,deep,near,rfl,_⟩:=h;rfl
 obtain⟨a,p,c,ns,i,deep,near,rfl,g,hi,d0,B,j,G,q⟩:=h;have i0:=g.T.i0;have F:cst 7=100000000:=by decide
 have C:p5 7=78125:=by decide
 refine⟨_,(GC (bu (aD bP (ay m b.m rfl aC (aa (pv 0) (aa (pv 1) (aa ah af)))) ah (aG _)) (ai (aH (i:=5) iM.nd rfl (cI rfl) (ay r b.m rfl aC (aa (pv 0) (aa (pv 1) (aa (pv 2) (aa (pv 3) (aa (pv 4) af)))))))) (ai (aH (i:=5) iM.nd rfl (cI rfl) (ay u b.m rfl aC (aa (pv 0) (aa (pv 1) (aa (pv 2) (aa (pv 3) (aa (pv 4) af))))))))) (ag (bu (jA (ay n b.m rfl aC (aa (pv 5) af))) (ai (aw (aZ (aa aE af)))) aM) (ai (aw (pv 5))))),?_⟩;try dsimp only[gL,z]
 refine⟨λl H'=>∃(k:Bool)(d:KM.D)(v:V)(i':Int),l=[some (.ref a),some (.ref p),some (.int deep),some (.int near),some (.ref c),some v]/\Ou K a p c ns H i near k 16 300000 1000000000 d v H' i',?_,?_⟩
 ·refine⟨_,rfl,_,rfl,a,p,ns,i,5,rfl,g.T,(by omega),(by decide),λway x w0 L x1 h1=>⟨rfl,_,rfl,?_⟩⟩;have e:=g.next x1 h1 (by omega);refine aV (λ_=>?_) (λ_=>?_);·exact⟨_,rfl,_,rfl,_,rfl,_,rfl,_,rfl,a,p,c,ns,i+1,deep,near,rfl,e,(by omega),(by omega),(by omega),(by decide),j,(by omega),λd v H' i' o=>⟨true,d,v,i',rfl,(o.after (co1:=1) x1 (by omega) (by omega)).weak (by decide) (by omega) (by omega)⟩⟩
  ·exact⟨_,rfl,_,rfl,_,rfl,_,rfl,_,rfl,a,p,c,ns,i+1,deep,near,rfl,e,(by omega),(by omega),(by omega),(by decide),j,(by omega),λd v H' i' o=>⟨false,d,v,i',rfl,(o.after (co1:=1) x1 (by omega) (by omega)).weak (by decide) (by omega) (by omega)⟩⟩
 rintro l x⟨k,d,v,i',rfl,o⟩;have I:=o.dp;have J:=o.kn;refine⟨_,rfl,d,v,rfl,o.r,⟨⟨k,o.wf⟩,by omega,by omega⟩,λy s2=>⟨_,rfl,?_⟩⟩;refine aV (λ_=>?_) (λgr=>?_);·refine⟨(dw rfl),λq1 e1=>?_⟩;exact q false _ _ _ _ (made (o.sx.trans s2.x) (o.g.mono s2) e1 (rs ky r0) rX qZ (by apply KM.d0;with_reducible repeat' first|apply KM.Cy|apply KM.BP|apply KM.q0|apply KM.q4|apply KM.q3|apply KM.q2|apply KM.q1|omega) (by simp only[aJ,aK];omega) o.lo o.hi) (by decide+kernel)
 ·exact⟨_,rfl,q k d v y i' ⟨o.r.mono s2,o.cl,o.wf,o.dp,o.kn,o.sx.trans s2.x,o.g.mono s2,o.lo,o.hi⟩ (Bool.eq_false_iff.mpr gr)⟩
def R1(H:Hp)(v:V):Prop:=∃(q:Addr)(b a:D)(c d:V),v= .ref q/\H q=some (.tup [c,d])/\Rep H b c/\bh ao true b=true/\Rep H a d/\bh ao false a=true/\depth b<=16/\depth a<=16/\aJ b<=300000/\aJ a<=300000/\CF.Cl 0 (tr a)
structure Bk(H:Hp)(aF:List (Key×V)):Prop where
 len:aF.length<=1000
 each:∀k v,(k,v)∈aF->R1 H v
theorem R1.sx{H H':Hp}{p:Addr}{v:V}(h:R1 H v)(s:bO p H H')(a:∀vs,H p≠some (.tup vs)):R1 H' v:=by obtain⟨q,c,d,i,j,e,hq,f,k,g,l,b⟩:=h;exact⟨q,c,d,i,j,e,s _ _ (λz=>by subst z;exact a _ hq) hq,f.ja s a,k,g.ja s a,l,b⟩
theorem Bk.sx{H H':Hp}{p:Addr}{aF:List (Key×V)}(h:Bk H aF)(s:bO p H H')(a:∀vs,H p≠some (.tup vs)):Bk H' aF:=⟨h.len,λk v m=>(h.each k v m).sx s a⟩
theorem R1.mono{H H':Hp}{v:V}(h:R1 H v)(s:aL H H'):R1 H' v:=by obtain⟨q,a,c,g,i,e,hq,d,j,f,k,b⟩:=h;exact⟨q,a,c,g,i,e,s _ _ hq,d.mono s,j,f.mono s,k,b⟩
theorem Bk.mono{H H':Hp}{aF:List (Key×V)}(h:Bk H aF)(s:aL H H'):Bk H' aF:=⟨h.len,λk v m=>(h.each k v m).mono s⟩
theorem Qj{aF:List (Key×V)}{k d:Key}{v c:V}(h:(d,c)∈putK aF k v):(d,c)∈aF\/c=v:=by
 unfold putK at h;split at h
 ·obtain⟨⟨a,b⟩,m,e⟩:=List.mem_map.mp h;simp only at e;split at e;·cases e;exact .inr rfl
  ·cases e;exact .inl m
 ·rcases List.mem_append.mp h with m|m;·exact .inl m
  ·have :=List.mem_singleton.mp m;cases this;exact .inr rfl
theorem Hi{aF:List (Key×V)}{k:Key}{v:V}:(putK aF k v).length<=aF.length+1:=by
 unfold putK;split;·rw[c_];omega
 ·rw[je,List.length_singleton];exact bJ _
theorem dD{H:Hp}{p:Addr}{xs:List V}(h:H p=some (.lst xs)):∀vs,H p≠some (.tup vs):=λvs z=>by rw[h]at z;cases z
theorem lr{H:Hp}{p:Addr}{xs:List (Key×V)}(h:H p=some (.dK xs)):∀vs,H p≠some (.tup vs):=λvs z=>by rw[h]at z;cases z
def MV(K:PySem.W.Frag):Sp:=λvs H Q _=>∃(a p c:Addr)(ns:List Int)(i:Int),vs=[.ref a, .ref p, .ref c]/\Sg K a p c ns H i/\i<2^50/\∀(b:Addr)(aF:List (Key×V))(H':Hp)(i':Int),H b=none->H' b=some (.dK aF)->aF.length<=3->Bk H' aF->bO p H H'->Sg K a p c ns H' i'->i<=i'->i'<=i+10000000000->Q (.ref b) H'
theorem gO:aN ["_law_script","_law_tape","_law_pool_here","_law_book_here","_law_k","_law_kind_here"] ["_law_script","_law_tape","_law_pool_here"] (ak iE):=⟨rfl,rfl,rfl,by decide+kernel,rfl,by decide+kernel,by decide+kernel⟩
theorem D8(D:Df K mg "_law_book" iE ["_law_script","_law_tape","_law_pool_here"])(M:Mg mg t)(aI:bj P w K mg bA "_law_draw" (1) FC (ft K))(bz:bj P w K mg bA "_law_kind" (153) eA (dS K true 7))(aX:bj P w K mg bA "_law_term" (153) eA (dS K false 7)):bj P w K mg bA "_law_book" (154) ["_law_script","_law_tape","_law_pool_here"] (MV K):=by
 refine D.ok gO (λvs H Q E h=>?_) (λbase f cF A outer s H vs Q E u h=>?_);·obtain⟨a,p,c,ns,i,rfl,_⟩:=h;rfl
 obtain⟨a,p,c,ns,i,rfl,g,hi,q⟩:=h;have i0:=g.T.i0;have hu:=DH u;have ec:cst 7=100000000:=by decide
 have e5:p5 7=78125:=by decide
 refine⟨_,(ag (aH (i:=3) gO.nd rfl (cI rfl) LW) (ag (gS PassesOwn.never rfl (gX rfl M.mX (aa (ay aI u.m rfl aC (aa (pv 0) (aa (pv 1) (aa ah af)))) af)) (bI (i:=4) gO.nd rfl (cI rfl)) (ag (aH (i:=5) gO.nd rfl (cI rfl) (ay bz u.m rfl aC (aa (pv 0) (aa (pv 1) (aa ah (aa ah (aa (pv 2) af))))))) (ai (QO hu (pv 3) (aS cT (pv 2) (pv 4) (λ_ _=>rfl)) (aZ (aa (pv 5) (aa (ay aX u.m rfl aC (aa (pv 0) (aa (pv 1) (aa ah (aa ah (aa (pv 2) af)))))) af))) rfl)))) (ai (aw (pv 3))))),?_⟩;try dsimp only[gL,cG]
 refine El ?_;intro _ _ _;intro b hb;have sb:=ar hb (.dK []);have S:(upd H b (.dK [])) b=some (.dK []):=aq;have F:=g.mono sb;have xb:bO p H (upd H b (.dK [])):=sb.x;have W:b≠p:=λz=>by subst z;rw[g.T.fK]at hb;cases hb
 generalize upd H b (.dK [])=H0 at sb S F xb⊢;refine⟨_,rfl,_,rfl,a,p,ns,i,4,rfl,F.T,(by omega),(by decide),λm H1 m0 m1 x1 h1=>⟨_,rfl,(by omega),(by omega),?_⟩⟩;obtain⟨m,rfl⟩:∃k:Nat,m=(k:Int):=⟨m.toNat,by omega⟩;have g1:=F.next x1 h1 (by omega);have ZZ:=x1 _ _ W S;let FK:Nat->L2.St->Hp->Prop:=(λk L H'=>∃(aF:List (Key×V))(i':Int)(kv G:Option V),L=[some (.ref a),some (.ref p),some (.ref c),some (.ref b),kv,G]/\H' b=some (.dK aF)/\aF.length<=k/\Bk H' aF/\bO p H H'/\Sg K a p c ns H' i'/\i<=i'/\i'<=i+1+200000000*(k:Int));refine jz (m:Int).toNat FK ?_ ?_ ?_;·exact⟨[],i+1,none,none,rfl,ZZ,bJ _,⟨by simp,λk v h=>by cases h⟩,xb.trans x1,g1,by omega,by omega⟩
 ·rintro k L O hk⟨aF,i2,kv,G,rfl,h2,l2,n,x2,r,U,hi2⟩;refine⟨hk,?_⟩;rintro x' H2'⟨rfl,rfl⟩;have e0:(0:Int)+(k:Int)=((k:Nat):Int):=by omega
  rw[e0];refine⟨_,rfl,_,rfl,_,rfl,a,p,c,ns,i2,1,0,rfl,r,(by omega),(by decide),(by decide),(by decide),(by decide),(by decide),λdA j H3 i3 e=>?_⟩;have hA:=e.hi;have lA:=e.lo;refine⟨_,rfl,_,rfl,_,rfl,_,rfl,a,p,c,ns,i3,2,0,rfl,e.g,(by omega),(by decide),(by decide),(by decide),(by decide),(by decide),λdB l R i4 d=>⟨(dw rfl),λq1 e1=>?_⟩⟩;have hB:=d.hi;have lB:=d.lo;have t1:=ar e1 (.tup [j,l]);have J:=e.sx.trans d.sx;have C:=d.g.mono t1;have h5:=t1 _ _ (J _ _ W h2);have N:=(n.sx J (dD r.T.fK)).mono t1;have X:=(e.later d.sx).mono t1;have Y:=d.r.mono t1;have T:(upd R q1 (.tup [j,l])) q1=some (.tup [j,l]):=aq;have Z:=(x2.trans J).trans t1.x;generalize upd R q1 (.tup [j,l])=B at t1 C h5 N X Y T Z⊢;obtain⟨x,y,z,l1,l2',l3,hc⟩:=C.pl;obtain⟨o,ho,Uw⟩:∃o:Str,kZ [V.str x, .str y, .str z] ((k:Nat):Int)=some (.str o)/\o.length<=101:=by
   have hk3:k=0\/k=1\/k=2:=by omega
   rcases hk3 with rfl|rfl|rfl;·exact⟨x,rfl,OV l1⟩
   ·exact⟨y,rfl,OV l2'⟩
   ·exact⟨z,rfl,OV l3⟩
  refine⟨_,rfl,_,rfl,_,rfl,c,_,_,_,rfl,rfl,bN.of hc,ho,b,_,rfl,OC.k (k:=Sum.inr o) h5 (by have :aF.length<=1000:=n.len;exact Nat.lt_of_le_of_lt this (by decide)),?_⟩;have xu:bO b B (upd B b (.dK (putK aF (Sum.inr o) (.ref q1)))):=bO.upd _;have dA':=e.dp;have dB':=d.dp;have kA':=e.kn;have kB':=d.kn;have bV:R1 B (.ref q1):=⟨q1,dA,dB,j,l,rfl,T,X,e.wf,Y,d.wf,dA',dB',by omega,by omega,d.cl⟩;have hB':H b=none:=hb;refine⟨putK aF (Sum.inr o) (.ref q1),i4,_,_,rfl,aq,cS Hi (by omega),⟨cS Hi (by omega),λk' v' I=>?_⟩,?_,?_,by omega,by omega⟩
  ·rcases Qj I with I|rfl;·exact(N.each k' v' I).sx xu (lr h5)
   ·exact bV.sx xu (lr h5)
  ·intro b' o' n' h';rw[bf (aT h' hb)];exact Z b' o' n' h'
  ·exact C.upd h5
 ·rintro L O⟨aF,i2,kv,G,rfl,h2,l2,n,x2,r,U,hi2⟩;refine⟨bJ _,_,rfl,q b aF O i2 hb h2 (by omega) n x2 r U (by omega)⟩
noncomputable abbrev Rp:=List Nat×D
mutual noncomputable def aY(pl:List Nat):D->List Rp| .tup (.str x::ps)=>(pl, .tup (.str x::ps))::(if bC x=true then[]else cx pl 0 ps)|_=>[]noncomputable def cx(pl:List Nat):Nat->List D->List Rp|_,[]=>[]|i,d::ds=>aY (pl++[i]) d++cx pl (i+1) ds end
theorem CJ(pl:List Nat)(x:Str)(ps:List D):aY pl (.tup (.str x::ps))=(pl, .tup (.str x::ps))::cx pl 0 (av x ps):=by
 rw[aY];unfold av;split;·rw[cx]
 ·rfl
mutual theorem Jz:∀(pl:List Nat)(d:D),(aY pl d).length<=aJ d
 |pl, .tup (.str x::ps)=>by
  rw[aY,hV];have e:aJ (.tup (.str x::ps))=1+aK ps:=by simp[aJ,aK]
  rw[e];split;·simp
  ·have :=n5 pl 0 ps;omega
 |pl, .tup []=>by simp[aY]
 |pl, .tup (.aP::_)=>by simp[aY]
 |pl, .tup (.bl _::_)=>by simp[aY]
 |pl, .tup (.int _::_)=>by simp[aY]
 |pl, .tup (.tup _::_)=>by simp[aY]
 |pl, .aP=>by simp[aY]
 |pl, .bl _=>by simp[aY]
 |pl, .int _=>by simp[aY]
 |pl, .str _=>by simp[aY]theorem n5:∀(pl:List Nat)(j:Nat)(ds:List D),(cx pl j ds).length<=aK ds
 |pl,j,[]=>by simp[cx]
 |pl,j,d::ds=>by
  rw[cx,je];have h1:=Jz (pl++[j]) d;have h2:=n5 pl (j+1) ds;have e:aK (d::ds)=aJ d+aK ds:=by simp[aK]
  omega end
noncomputable def vD:V->D| .str x=> .str x|_=> .aP
noncomputable def stD(r:Rp):D:= .tup [Uj r.1,r.2]
noncomputable def aaG(inb:Str->Bool)(r:Rp):D:= .tup [Uj r.1,r.2,vD (bG inb r.2)]
structure Wk(H H':Hp)(d:D)(b pf pw:Addr)(inb:Str->Bool)(st fo:List Rp)(ws fs:List V):Prop where
 hw:H' pw=some (.lst ws)
 hf:H' pf=some (.lst fs)
 ky:bE H' (st.map stD) ws
 rf:bE H' (fo.map (aaG inb)) fs
 all:fo++st.reverse.flatMap (λr=>aY r.1 r.2)=aY [] d
 ok:∀x∈st,Wf x.2/\x.1.length+depth x.2<=75
 kn:(st.map λr=>aJ r.2).sum<=1000000
 sm:aL H H'
seal L3.PH L3.PB
theorem Iz{x:Str}{ps:List D}{i:Nat}{p:D}(h:(av x ps)[i]?=some p):dz (.tup (.str x::ps)) ((i:Nat):Int)=some p:=by unfold dz;rw[if_pos (Int.natCast_nonneg i)];exact h
mutual theorem ny:∀(pl:List Nat)(d:D),∀r∈aY pl d,∃q,r.1=pl++q/\goto d (uS q)=some r.2
 |pl, .tup (.str x::ps),r,h=>by
  rw[CJ]at h;rcases List.mem_cons.mp h with rfl|h;·exact⟨[],by simp,rfl⟩
  ·have key:∀r∈cx pl 0 (av x ps),∃(i:Nat)(p:D)(q:List Nat),(av x ps)[i]?=some p/\r.1=pl++(0+i)::q/\goto p (uS q)=some r.2:=by
    unfold av;split;·intro r h;rw[cx]at h;cases h
    ·exact tG pl 0 ps
   obtain⟨i,p,q,h1,h2,h3⟩:=key r h;rw[Nat.zero_add]at h2;exact⟨i::q,h2,by rw[<-h3];exact eR (Iz h1)⟩
 |pl, .tup [],r,h=>by simp[aY]at h
 |pl, .tup (.aP::_),r,h=>by simp[aY]at h
 |pl, .tup (.bl _::_),r,h=>by simp[aY]at h
 |pl, .tup (.int _::_),r,h=>by simp[aY]at h
 |pl, .tup (.tup _::_),r,h=>by simp[aY]at h
 |pl, .aP,r,h=>by simp[aY]at h
 |pl, .bl _,r,h=>by simp[aY]at h
 |pl, .int _,r,h=>by simp[aY]at h
 |pl, .str _,r,h=>by simp[aY]at h theorem tG:∀(pl:List Nat)(j:Nat)(ds:List D),∀r∈cx pl j ds,∃(i:Nat)(p:D)(q:List Nat),ds[i]?=some p/\r.1=pl++(j+i)::q/\goto p (uS q)=some r.2
 |pl,j,[],r,h=>by simp[cx]at h
 |pl,j,d::ds,r,h=>by
  rw[cx]at h;rcases List.mem_append.mp h with h|h;·obtain⟨q,h1,h2⟩:=ny (pl++[j]) d r h;exact⟨0,d,q,rfl,by rw[h1];simp,h2⟩
  ·obtain⟨i,p,q,h1,h2,h3⟩:=tG pl (j+1) ds r h;exact⟨i+1,p,q,by simpa using h1,by rw[h2,show j+1+i=j+(i+1)by omega],h3⟩end
noncomputable def FE(inb:Str->Bool)(d:D):List Rp:=(aY [] d).filter λr=>decide (bG inb r.2≠ .aP)
theorem LV{inb:Str->Bool}{d:D}(wf:Wf d){r:Rp}(h:r∈FE inb d):∃y:Str,bG inb r.2= .str y/\goto d (uS r.1)=some r.2:=by
 unfold FE at h;rw[List.mem_filter]at h;obtain⟨q,e1,e2⟩:=ny [] d r h.1;rw[List.nil_append]at e1;rw[<-e1]at e2;rcases D4 (inb:=inb) (qX _ _ _ wf e2).1 with z|⟨y,z⟩;·exact absurd z (of_decide_eq_true h.2)
 ·exact⟨y,z,e2⟩
theorem Kd.sx{H H':Hp}{p T1 T2:Addr}{xs:List V}(h:Kd H T1 T2)(s:bO p H H')(a:H p=some (.lst xs)):Kd H' T1 T2:=⟨s _ _ (λz=>by have :=h.t1;unfold i8 at this;rw[z,a]at this;cases this) h.t1,s _ _ (λz=>by have :=h.t2;unfold i8 at this;rw[z,a]at this;cases this) h.t2⟩
theorem Kh.sx{H H':Hp}{p:Addr}{aF:List (Key×V)}{B:Str->D}(h:Kh H aF B)(s:bO p H H')(d:∀vs,H p≠some (.tup vs)):Kh H' aF B:=λy e=>let⟨q,kv,f,a,b,c⟩:=h y e;⟨q,kv,f,a,s _ _ (λz=>d _ (z▸b)) b,c.ja s d⟩
structure Bs(H:Hp)(B:Str->D)(b:Addr)(aF:List (Key×V))(T1 T2:Addr):Prop where
 hb:H b=some (.dK aF)
 br:Kh H aF B
 bb:Ur (eU aF) B
 tb:Kd H T1 T2
theorem Bs.mono{H H':Hp}{B:Str->D}{b:Addr}{aF:List (Key×V)}{T1 T2:Addr}(h:Bs H B b aF T1 T2)(s:aL H H'):Bs H' B b aF T1 T2:=⟨s _ _ h.hb,h.br.mono s,h.bb,h.tb.mono s⟩
theorem Bs.sx{H H':Hp}{B:Str->D}{b p:Addr}{aF:List (Key×V)}{T1 T2:Addr}{xs:List V}(h:Bs H B b aF T1 T2)(s:bO p H H')(a:H p=some (.lst xs)):Bs H' B b aF T1 T2:=⟨s _ _ (λz=>by have :=h.hb;rw[z,a]at this;cases this) h.hb,h.br.sx s (dD a),h.bb,h.tb.sx s a⟩
noncomputable def Ki(inb:Str->Bool)(r:Rp):Option vz:=(dJ inb r.2).map λy=>(r.1,y)
mutual theorem uJ(inb:Str->Bool):∀(pl:List Nat)(d:D),(aY pl d).findSome? (Ki inb)=(cq inb d).map λr=>(pl++r.1,r.2)
 |pl, .tup (.str x::ps)=>by
  rw[aY,cq,List.findSome?_cons];cases h:dJ inb (.tup (.str x::ps))with
   |some y=>
    have e:Ki inb (pl, .tup (.str x::ps))=some (pl,y):=by unfold Ki;rw[h];rfl
    rw[e];simp
   |none=>
    have e:Ki inb (pl, .tup (.str x::ps))=none:=by unfold Ki;rw[h];rfl
    rw[e];show List.findSome? _ (if bC x=true then[]else cx pl 0 ps)=Option.map _ (if bC x=true then none else gh inb 0 ps);split;·rfl
    ·exact wO inb pl 0 ps
 |pl, .tup []=>by simp[aY,cq]
 |pl, .tup (.aP::_)=>by simp[aY,cq]
 |pl, .tup (.bl _::_)=>by simp[aY,cq]
 |pl, .tup (.int _::_)=>by simp[aY,cq]
 |pl, .tup (.tup _::_)=>by simp[aY,cq]
 |pl, .aP=>by simp[aY,cq]
 |pl, .bl _=>by simp[aY,cq]
 |pl, .int _=>by simp[aY,cq]
 |pl, .str _=>by simp[aY,cq]theorem wO(inb:Str->Bool):∀(pl:List Nat)(j:Nat)(ds:List D),(cx pl j ds).findSome? (Ki inb)=(gh inb j ds).map λr=>(pl++r.1,r.2)|pl,j,[]=>by rw[cx,gh];rfl|pl,j,d::ds=>by rw[cx,gh,List.findSome?_append,uJ inb (pl++[j]) d];cases cq inb d with|some r=>simp|none=>simpa using wO inb pl (j+1) ds end
theorem Lv{inb:Str->Bool}{r:Rp}(h:decide (bG inb r.2≠ .aP)=true):∃y:Str,bG inb r.2= .str y/\Ki inb r=some (r.1,y):=by
 rcases cE inb r.2 with⟨e,_⟩|⟨y,e1,e2,_⟩;·exact absurd e (of_decide_eq_true h)
 ·exact⟨y,e1,by unfold Ki;rw[e2];rfl⟩
theorem Dz{inb:Str->Bool}{r:Rp}(h:decide (bG inb r.2≠ .aP)=false):Ki inb r=none:=by
 rcases cE inb r.2 with⟨_,e⟩|⟨y,e1,_⟩;·unfold Ki;rw[e];rfl
 ·exact absurd e1 (by rw[Classical.not_not.mp (of_decide_eq_false h)];simp)
theorem Ct{inb:Str->Bool}:∀{l:List Rp},(l.filter λr=>decide (bG inb r.2≠ .aP))=[]->l.findSome? (Ki inb)=none|[],_=>rfl|a::l,h=>by cases c:decide (bG inb a.2≠ .aP)with|true=>rw[List.filter_cons,if_pos c]at h;cases h|false=>rw[List.filter_cons,if_neg (by rw[c];decide)]at h;rw[List.findSome?_cons,Dz c];exact Ct h
theorem wu{inb:Str->Bool}:∀{l:List Rp}{r:Rp}{rest:List Rp},(l.filter λr=>decide (bG inb r.2≠ .aP))=r::rest->∃y:Str,bG inb r.2= .str y/\l.findSome? (Ki inb)=some (r.1,y)|[],_,_,h=>by cases h|a::l,r,rest,h=>by cases c:decide (bG inb a.2≠ .aP)with|true=>rw[List.filter_cons,if_pos c]at h;cases h;obtain⟨y,e1,e2⟩:=Lv c;exact⟨y,e1,by rw[List.findSome?_cons,e2]⟩|false=>rw[List.filter_cons,if_neg (by rw[c];decide)]at h;obtain⟨y,e1,e2⟩:=wu h;exact⟨y,e1,by rw[List.findSome?_cons,Dz c];exact e2⟩
theorem HQ{inb:Str->Bool}{d:D}(h:FE inb d=[]):cq inb d=none:=by have e:=uJ inb [] d;rw[Ct h]at e;cases f:cq inb d with|none=>rfl|some r=>rw[f]at e;cases e
theorem Om{inb:Str->Bool}{d:D}{r:Rp}{rest:List Rp}(h:FE inb d=r::rest):∃y:Str,bG inb r.2= .str y/\cq inb d=some (r.1,y):=by obtain⟨y,e1,e2⟩:=wu h;have e:=uJ inb [] d;rw[e2]at e;refine⟨y,e1,?_⟩;cases f:cq inb d with|none=>rw[f]at e;cases e|some z=>rw[f]at e;have e:some (r.1,y)=some ([]++z.1,z.2):=e;rw[List.nil_append]at e;exact e.symm
noncomputable def RQ(inb:Str->Bool)(r:Rp):Option vz:=(dJ inb r.2).map λy=>(r.1,y)
noncomputable def uR(inb:Str->Bool)(d:D):List vz:=(aY [] d).filterMap (RQ inb)
noncomputable def shR(q:List Nat)(r:Rp):Rp:=(q++r.1,r.2)
mutual theorem Bn(q:List Nat):∀(pl:List Nat)(d:D),aY (q++pl) d=(aY pl d).map (shR q)
 |pl, .tup (.str x::ps)=>by
  rw[aY,aY,eF];congr 1;split;·rfl
  ·exact BK q pl 0 ps
 |pl, .tup []=>by simp[aY]
 |pl, .tup (.aP::_)=>by simp[aY]
 |pl, .tup (.bl _::_)=>by simp[aY]
 |pl, .tup (.int _::_)=>by simp[aY]
 |pl, .tup (.tup _::_)=>by simp[aY]
 |pl, .aP=>by simp[aY]
 |pl, .bl _=>by simp[aY]
 |pl, .int _=>by simp[aY]
 |pl, .str _=>by simp[aY]theorem BK(q:List Nat):∀(pl:List Nat)(j:Nat)(ds:List D),cx (q++pl) j ds=(cx pl j ds).map (shR q)|pl,j,[]=>by simp[cx]|pl,j,d::ds=>by rw[cx,cx,List.map_append,List.append_assoc,Bn q (pl++[j]) d,BK q pl (j+1) ds]end
theorem ud(pl:List Nat):∀(ds:List D)(j:Nat)(e:D),cx pl j (ds++[e])=cx pl j ds++aY (pl++[j+ds.length]) e|[],j,e=>by simp[cx]|d::ds,j,e=>by rw[List.cons_append,cx,cx,ud pl ds (j+1) e,List.append_assoc,hV,show j+1+ds.length=j+(ds.length+1)by omega]
noncomputable def FZ(i:Nat)(r:vz):vz:=(i::r.1,r.2)
theorem Iq(inb:Str->Bool)(i:Nat)(d:D):(aY [i] d).filterMap (RQ inb)=(uR inb d).map (FZ i):=by have h:=Bn [i] [] d;rw[nX]at h;rw[h,uR,List.filterMap_map,List.map_filterMap];congr 1;funext r;show(dJ inb r.2).map _=((dJ inb r.2).map _).map _;cases dJ inb r.2<;>rfl
noncomputable def vp(inb:Str->Bool)(ds:List D):List vz:=(cx [] 0 ds).filterMap (RQ inb)
theorem wG(inb:Str->Bool)(ds:List D)(e:D):vp inb (ds++[e])=vp inb ds++(uR inb e).map (FZ ds.length):=by unfold vp;rw[ud,List.filterMap_append,<-Iq];simp
theorem Tu(inb:Str->Bool)(x:Str)(ps:List D):uR inb (.tup (.str x::ps))=(match dJ inb (.tup (.str x::ps))with|some y=>[(([]:List Nat),y)]|none=>[])++vp inb (av x ps):=by unfold uR;rw[CJ,List.filterMap_cons];unfold RQ vp RQ;cases dJ inb (.tup (.str x::ps))<;>rfl
mutual theorem Bp:∀(d:D)(pl:List Nat),∀r∈aY pl d,r.1.length<=pl.length+depth d
 | .tup (.str x::ps),pl,r,hr=>by
  rw[aY]at hr;rcases List.mem_cons.mp hr with rfl|hr;·exact Nat.le_add_right _ _
  ·split at hr;·cases hr
   ·have :=C0 ps pl 0 r hr;simp only[depth,aB];omega
 | .tup [],pl,r,hr=>by simp[aY]at hr
 | .tup (.aP::_),pl,r,hr=>by simp[aY]at hr
 | .tup (.bl _::_),pl,r,hr=>by simp[aY]at hr
 | .tup (.int _::_),pl,r,hr=>by simp[aY]at hr
 | .tup (.tup _::_),pl,r,hr=>by simp[aY]at hr
 | .aP,pl,r,hr=>by simp[aY]at hr
 | .bl _,pl,r,hr=>by simp[aY]at hr
 | .int _,pl,r,hr=>by simp[aY]at hr
 | .str _,pl,r,hr=>by simp[aY]at hr theorem C0:∀(ds:List D)(pl:List Nat)(j:Nat),∀r∈cx pl j ds,r.1.length<=pl.length+1+aB ds
 |[],pl,j,r,hr=>by rw[cx]at hr;cases hr
 |d::ds,pl,j,r,hr=>by
  rw[cx]at hr;simp only[aB];rcases List.mem_append.mp hr with hr|hr;·have :=Bp d (pl++[j]) r hr;simp only[je,List.length_singleton]at this;omega
  ·have :=C0 ds pl (j+1) r hr;omega end
theorem Pu{inb:Str->Bool}{d:D}{r:vz}(h:r∈uR inb d):r.1.length<=depth d/\r.2.length<=1000/\uZ (.str r.2)=true:=by
 obtain⟨a,h1,h2⟩:=List.mem_filterMap.mp h;have h3:=Bp d [] a h1;unfold RQ at h2;rcases cE inb a.2 with⟨_,e⟩|⟨y,_,e,b,hc⟩;·rw[e]at h2;cases h2
 ·rw[e]at h2;cases h2;exact⟨by simpa using h3,b,hc⟩
theorem Kp(inb:Str->Bool)(ds:List D):(vp inb ds).length<=aK ds:=cS (List.length_filterMap_le _ _) (n5 [] 0 ds)
theorem HJ{H:Hp}{i:Nat}{pl:List Nat}{a:Addr}{vs:List V}(h:H a=some (.tup (V.int i::vs)))(r:bE H (pl.map λi=>D.int (i:Nat)) vs):Rep H (Uj (i::pl)) (.ref a):=⟨a,_,rfl,h,_,_,rfl,rfl,r⟩
theorem Ol:∀{l:List D}{i:Nat}{p:D},l[i]?=some p->aJ p<=(l.map aJ).sum|[],_,_,h=>by simp at h|q::l,0,p,h=>by simp at h;subst h;rw[eF,List.sum_cons];omega|q::l,i+1,p,h=>by have :=Ol (l:=l) (i:=i) (p:=p) (by simpa using h);rw[eF,List.sum_cons];omega
def qF(n:Nat):Sp:=λvs H Q _=>∃(d:D)(v:V)(b:Addr)(aF:List (Key×V)),vs=[v, .ref b]/\Rep H d v/\Rz d n/\aJ d<=8000000/\n<=100/\H b=some (.dK aF)/\∀(a:Addr)(us:List V)(H':Hp),H a=none->aL H H'->H' a=some (.lst us)->bE H' ((uR (eU aF) d).map Mh) us->Q (.ref a) H'
theorem fj:aN ["thing","book","own","steps","number","kid"] ["thing","book"] (ak eP):=⟨rfl,rfl,rfl,by decide+kernel,rfl,by decide+kernel,by decide+kernel⟩
theorem CK{n:Nat}(D:Df K mg "steps_of" eP ["thing","book"])(M:Mg mg t)(cL:bj P w K mg bA "rule_of" (1) ["thing","book"] nA)(bg:bj P w K mg bA "kids_of" (1) ["thing"] d6)(kJ:bj P w K mg bA "steps_of" (n+3) ["thing","book"] (qF n)):bj P w K mg bA "steps_of" (n+4) ["thing","book"] (qF (n+1)):=by
 refine D.ok fj (λvs H Q E h=>?_) (λbase f cF A outer s H vs Q E hr h=>?_);·obtain⟨d,v,b,aF,rfl,_⟩:=h;rfl
 obtain⟨d,v,b,aF,rfl,r,rz,hkn,hn,hb,q⟩:=h;obtain⟨x,ps,k,rfl,wf,qB⟩:=d7 rz.wf;have Xf:=oH wf;refine⟨_,(ag (aH (i:=2) fj.nd rfl (cI rfl) (ay cL hr.m rfl aC (aa (pv 0) (aa (pv 1) af)))) (ag (aH (i:=3) fj.nd rfl (cI rfl) (ig (aD OA (pv 2) jq (aG _)) (cA af) (cA (aa (aZ (aa (aZ af) (aa (pv 2) af))) af)))) (ag (gS PassesOwn.never rfl (Ck rfl M.oG (aa (ay bg hr.m rfl aC (aa (pv 0) af)) af)) (nV (n:=2) rfl (cP (bI (i:=4) fj.nd rfl (cI rfl)) (cP (bI (i:=5) fj.nd rfl (cI rfl)) jV))) (ai (xM (BR PySem.F.plainAttrs_list PySem.F.slot_list_extend PySem.F.type_list_extend vO (pv 3) (aa (gI (N':=["place","rule","number"]) (own:=2) (fr:=[4]) rfl (iI (N:=["thing","book","own","steps","number","kid"]) (sc:=ak eP) rfl rfl rfl (by decide+kernel)) (j5 (ay kJ hr.m rfl aC (aa (pv 5) (aa (pv 1) af)))) (uM (n:=2) (by decide) (by decide)) (λ_ _ _=>(nV (n:=2) rfl (cP (bI (i:=0) (show List.Nodup (["place","rule","number"]:List Str)by decide+kernel) rfl (Or.inl rfl)) (cP (bI (i:=1) (show List.Nodup (["place","rule","number"]:List Str)by decide+kernel) rfl (Or.inl rfl)) jV)))) (λ_ _ _=>gG) (λ_ _ _=>(aZ (aa (aQ (Nz (K:=K)) (aZ (aa (pv 2) af)) (pv 0)) (aa (pv 1) af))))) af))))) (ai (aw (pv 3)))))),?_⟩;try dsimp only[gL,cG]
 refine IW ?_;intro _ _ _ _;refine⟨_,rfl,_,rfl,_,v,b,aF,rfl,r,rz.wf,hb,λH1 s1=>?_⟩;have key:∀R:VK,(∀(g:Addr)(Y:List V)(J:Hp),H g=none->aL H J->J g=some (.lst Y)->bE J ((match dJ (eU aF) (KM.D.tup (.str x::ps))with|some y=>[(([]:List Nat),y)]|none=>[]).map Mh) Y->R (.ref g) J)->(tIf (Kv (Xa (λx y H Q=>y=V.aP/\Q (V.bl (decide (x=V.aP))) H) (Pk 2) (tC V.aP))) (UT IH) (UT (Bg (VY (Bg (VY IH) (Bg (Pk 2) IH))) IH))) [some v,some (V.ref b),some (bG (eU aF) (.tup (.str x::ps))),none,none,none] H1 R:=λR u=>by
  rcases cE (eU aF) (.tup (.str x::ps))with⟨e1,e2⟩|⟨y,e1,e2,B,_⟩;·rw[e1];rw[e2]at u;refine⟨_,rfl,rfl,_,rfl,aV (λ_=>⟨(dw rfl),λg o=>?_⟩) (λc=>absurd (decide_eq_true rfl) c)⟩;exact u g [] _ (s1.free o) (s1.trans (ar o _)) aq rfl
  ·rw[e1];rw[e2]at u;refine⟨_,rfl,rfl,_,rfl,aV (λc=>absurd (of_decide_eq_true c) (by simp)) (λ_=>⟨(dw rfl),λp0 P_=>⟨_,rfl,(dw rfl),λp1 Ed=>⟨(dw rfl),λg o=>?_⟩⟩⟩)⟩;have t0:=ar P_ (.tup []);have t1:=ar Ed (.tup [V.ref p0, .str y]);have t2:=ar o (.lst [V.ref p1]);refine u g [.ref p1] _ (s1.free (t0.free (t1.free o))) (s1.trans (t0.trans (t1.trans t2))) aq ?_;exact⟨_,_,rfl,⟨p1,_,rfl,t2 _ _ aq,⟨_,_,rfl,⟨p0,[],rfl,t2 _ _ (t1 _ _ aq),rfl⟩,⟨_,_,rfl,⟨rfl,B⟩,rfl⟩⟩⟩,rfl⟩
 refine key _ λg Y J o s2 h2 r2=>?_;clear key;refine⟨_,rfl,x,ps,v,rfl,r.mono s2,qB,λp3 us H3 J_ T h3 r3=>?_⟩;have l3:=r3.length;have hkk:=(iW wf).1;have n23:p3≠g:=λz=>by rw[z,h2]at J_;cases J_
 refine⟨p3,us,rfl,bN.of h3,?_⟩;generalize EC:(match dJ (eU aF) (KM.D.tup (.str x::ps))with|some y=>[(([]:List Nat),y)]|none=>[])=pre at r2;have acf:pre.length<=1:=by rw[<-EC];split<;>simp
 let FK:Nat->L2.St->Hp->Prop:=(λi bp H'=>∃(ws:List V)(nv kv:Option V),bp=[some v,some (.ref b),some (bG (eU aF) (.tup (.str x::ps))),some (.ref g),nv,kv]/\H' g=some (.lst ws)/\bE H' ((pre++vp (eU aF) ((av x ps).take i)).map Mh) ws/\bO g H3 H');refine jz us.length FK ?_ ?_ ?_
 ·refine⟨Y,none,none,rfl,T _ _ h2,?_,λ_ _ _ h=>h⟩;rw[List.take_zero];have :vp (eU aF) []=[]:=by simp[vp,cx]
  rw[this,nX];exact r2.mono T
 ·rintro i bp L hi⟨ws,nv,kv,rfl,h4,S,F⟩;have h34:L p3=some (.lst us):=F _ _ n23 h3;have ntl:=dD (T _ _ h2);obtain⟨p,G⟩:∃p,(av x ps)[i]?=some p:=⟨_,e8 (by omega)⟩;obtain⟨ui,GA,Jj⟩:=r3.get G;have Jj:=Jj.ja F ntl;have hb4:L b=some (.dK aF):=F _ _ (λz=>by rw[z,o]at hb;cases hb) (T _ _ (s2 _ _ hb));refine⟨⟨us,ui,bN.of h34,GA⟩,?_⟩;rintro x' H4'⟨p5,y,rfl,WT,rfl,B⟩;have B:=B us (bN.of h34);rw[GA]at B;cases B;have U:=ar WT (.tup [V.int (i:Nat),ui]);have rzi:=rz.kid G;have ace:(vp (eU aF) ((av x ps).take i)).length+(uR (eU aF) p).length<=8000000:=by
   have a1:=Kp (eU aF) ((av x ps).take (i+1));rw[take_snoc G,wG,je,c_,<-take_snoc G]at a1;have a2:∀(l:List KM.D)(m:Nat),aK (l.take m)<=(l.map aJ).sum:=λl=>by induction l with|nil=>intro m;simp[aK]|cons a l ih=>intro m;cases m with|zero=>simp[aK]|succ m=>have :=ih m;rw[List.take_succ_cons];simp only[aK,eF,List.sum_cons];omega
   have a3:=a2 (av x ps) (i+1);omega
  refine⟨p5,_,rfl,bS.of aq,rfl,_,_,rfl,_,_,rfl,rfl,?_⟩;refine⟨_,rfl, .inl ⟨rfl,_,bN.of (U _ _ h4)⟩,_,rfl,_,rfl,p,ui,b,aF,rfl,Jj.mono U,rzi,(by have :=Ol G;omega),(by omega),U _ _ hb4,λp6 ws6 H6 hp6 s6 h6 r6=>⟨p6,rfl,⟨ws6,bN.of h6⟩,λp7 hp7=>?_⟩⟩;have l6:=r6.length;rw[c_]at l6;refine vP (uR (eU aF) p).length (λj=>Mh (FZ i (((uR (eU aF) p)[j]?).getD ([],"")))) hp7 (by rw[sizeLine_eq];omega) (λj H7 hj I=>⟨?_,?_⟩) λacc H7 I h7 r7=>⟨?_,?_⟩;·obtain⟨X,hwj⟩:∃X,ws6[j]?=some X:=⟨_,e8 (by omega)⟩;exact⟨_,X,bN.of (I _ _ h6),hwj⟩
  ·rintro y H8⟨rfl,B⟩R u;obtain⟨O,W9⟩:∃O,(uR (eU aF) p)[j]?=some O:=⟨_,e8 hj⟩;obtain⟨X,hwj,rwj⟩:=r6.get (i:=j) (d:=Mh O) (by rw[nY,W9];rfl);have hx:=B ws6 (bN.of (I _ _ h6));rw[hwj]at hx;cases hx;have rwj:=rwj.mono I;obtain⟨bq,_,rfl,RL,⟨v1,_,rfl,r1,⟨v2,_,rfl,⟨rfl,OJ⟩,rn⟩⟩⟩:=rwj;cases(show _=[]from rn);obtain⟨bb,vs,rfl,hbb,rb⟩:=r1;have lb:=rb.length;rw[c_]at lb;have uU:=(Pu (nP W9)).1;have hdd:=rzi.dp;rw[W9]at u;refine⟨bq,_,rfl,bS.of RL,rfl,_,_,rfl,_,_,rfl,rfl,?_⟩;refine⟨_,rfl,(dw rfl),λp9 hp9=>?_⟩;have W:=ar hp9 (.tup [V.int (i:Nat)]);refine⟨_,rfl,p9,bb,_,_,rfl,rfl,bS.of aq,bS.of (W _ _ hbb),by simp,?_,λe=>?_,λe p8 hp8=>?_⟩;·rw[sizeLine_eq,List.length_singleton];omega
   ·subst e;refine⟨_,rfl,(dw rfl),λXM Z=>?_⟩;have C:=ar Z (.tup [V.ref p9, .str O.2]);exact u _ _ (W.trans C) ⟨XM,_,rfl,aq,⟨_,_,rfl,HJ (C _ _ aq) (rb.mono (W.trans C)),⟨_,_,rfl,⟨rfl,OJ⟩,rfl⟩⟩⟩
   ·have s8:=W.trans (ar hp8 (.tup ([V.int (i:Nat)]++vs)));refine⟨_,rfl,(dw rfl),λXM Z=>?_⟩;have C:=ar Z (.tup [V.ref p8, .str O.2]);exact u _ _ (s8.trans C) ⟨XM,_,rfl,aq,⟨_,_,rfl,HJ (C _ _ aq) (rb.mono (s8.trans C)),⟨_,_,rfl,⟨rfl,OJ⟩,rfl⟩⟩⟩
  ·exact⟨_,bN.of (I _ _ h6),by omega⟩
  ·rw[Jg (λl=>Mh (FZ i l)) ([],"") (uR (eU aF) p)]at r7;have l4:=S.length;have l7:=r7.length;rw[c_,je]at l4;rw[c_]at l7;have sh:aL L H7:=U.trans (s6.trans I);have h2':=sh _ _ h4;refine⟨g,p7,_,_,rfl,rfl,h2',h7,?_,ws++acc,_,_,rfl,aq,?_,F.trans (sh.x.trans (bO.upd _))⟩;·rw[sizeLine_eq];omega
   ·rw[take_snoc G,wG,List.length_take];have e1:min i (av x ps).length=i:=by omega
    rw[e1,<-List.append_assoc,List.map_append,List.map_map];exact((S.mono sh).append r7).um h2'
 ·rintro bp L⟨ws,nv,kv,rfl,h4,S,F⟩;refine⟨⟨us,bN.of (F _ _ n23 h3),rfl⟩,_,rfl,?_⟩;rw[l3,List.take_length,<-EC,<-Tu]at S;exact q g ws L o (λb' o' Iy=>F b' o' (aT Iy o) (T _ _ (s2 _ _ Iy))) h4 S
theorem uD(D:Df K mg "steps_of" eP ["thing","book"])(M:Mg mg t)(c:bj P w K mg bA "rule_of" (1) ["thing","book"] nA)(a:bj P w K mg bA "kids_of" (1) ["thing"] d6):∀n:Nat,bj P w K mg bA "steps_of" (n+3) ["thing","book"] (qF n)|0=>bj.never D λvs H Q E⟨d,v,b,aF,_,_,h,_⟩=>absurd h.dp (jf _)|n+1=>CK D M c a (uD D M c a n)
def tu:Sp:=λvs H Q _=>∃y:Str,vs=[.str y]/\Pn y/\∀H',aL H H'->Q (.bl true) H'
theorem Ee(x:Str):((List.range x.cps.size).map λi=>V.bl (Ah ((x.cps[i]?).getD 0)))=(x.cps.toList.map Ah).map V.bl:=by
 apply List.ext_getElem?;intro i;by_cases h:i<x.cps.size;·simp[h]
 ·simp[h]
theorem Fb:aN ["value"] ["value"] (ak g7):=⟨rfl,rfl,rfl,by decide+kernel,rfl,by decide+kernel,by decide+kernel⟩
theorem Ju(D:Df K mg "is_name" g7 ["value"])(M:Mg mg t){as:List Addr}(T:KD K t.gm b_ as):bj P w K mg bA "is_name" (1) ["value"] tu:=by
 refine D.ok Fb (λvs H Q E h=>?_) (λbase f cF A outer s H vs Q E o h=>?_);·obtain⟨d,rfl,_⟩:=h;rfl
 obtain⟨x,rfl,a,q⟩:=h;have hl:=OV a;have a:(decide ((1:Int)<=x.length)&&(decide ((x.length:Int)<=12)&&((b_.lookup x).isNone&&x.cps.toList.all Ah)))=true:=a;simp only[cf]at a;obtain⟨c1,c2,j,k⟩:=a;have hsz:x.length<=sizeLine:=cS hl (by decide);refine⟨_,(ag (bu (L2.PW.pt (lO (nE (jA (bw d9 rfl M.dG cW (aa (pv 0) (aa (vW M.Z3 UP rfl) af))))) (jj (nE (DF vK vK ah (bw AK rfl M.fB dP (aa (pv 0) af)) (mR M.g_MOST_LETTERS rfl)))))) (ai (aw oY)) aM) (ai (aw (kQ (cK mJ (pv 0) (gQ M.g_KIDS_DUE rfl) rfl) (jl (bw (mD rfl) rfl M.Ra N1 (aa (gI (N':=["sign"]) (own:=1) (fr:=[]) rfl (iI (N:=["value"]) (sc:=ak g7) rfl rfl rfl (by decide+kernel)) (TX (pv 0)) (ij (by decide)) (λ_ _ _=>(bI (i:=0) (show List.Nodup (["sign"]:List Str)by decide+kernel) rfl (Or.inl rfl))) (λ_ _ _=>gG) (λ_ _ _=>(cK JX (pv 0) (OU M.g_LETTERS rfl) rfl))) af))))))),?_⟩;try dsimp only[gL,n]
 refine nH ?_;intro _ _;refine⟨_,rfl,_,_,_,_,rfl,kb.str _,rfl,_,rfl,Dm ?_⟩;refine⟨_,rfl,x,rfl,hsz,_,_,rfl,rfl,_,rfl,?_⟩;refine aV (λ_=>?_) (λc=>absurd c1 c);refine⟨_,_,rfl,rfl,_,rfl,?_⟩;refine aV (λc=>absurd c (by rw[c2];decide)) (λ_=>?_);refine⟨_,rfl,x,_,_,rfl,rfl,T.tab,_,rfl,?_⟩;rw[T.Kj];refine aV (λ_=>?_) (λc=>absurd (by cases e:b_.lookup x<;>simp[e]at j⊢) c);refine⟨_,rfl,x,rfl,λp m=>j8 x.cps.size (λi=>V.bl (Ah ((x.cps[i]?).getD 0))) m hsz (λi b hi s2=>⟨hi,?_⟩) λb s2 h2=>⟨bJ _,p,x.cps.toList.map Ah,rfl,bN.of (by rw[<-Ee];exact h2),?_⟩⟩;·rintro r g⟨rfl,c,hc,rfl⟩R l;refine⟨_,rfl,_,_,rfl,rfl,?_⟩;have :=l g (aL.refl _);rw[hc]at this;exact this
 ·rw[show(x.cps.toList.map Ah).all id=true by rw[List.all_map];exact k];exact q b s2
noncomputable def EU(k:Bool):Str:=if k then"kind"else"term"
def sI:Sp:=λvs H Q _=>∃(d:D)(v:V)(k a:Bool),vs=[v, .str (EU a)]/\Rep H d v/\bh ao k d=true/\Q (.bl (k==a)) H
noncomputable def KWs:List V:=[.str "nat", .str "none", .str "all", .str "some", .str "same"]
theorem NJ(k:Bool):decide (V.str (EU k)=V.str "kind")=k:=by cases k<;>decide+kernel
theorem uY:aN ["value","due"] ["value","due"] (ak fQ):=⟨rfl,rfl,rfl,by decide+kernel,rfl,by decide+kernel,by decide+kernel⟩
theorem Ao(D:Df K mg "begins_due" fQ ["value","due"])(M:Mg mg t){as:List Addr}(T:KD K t.gm b_ as)(W:qC K t.kM KWs):bj P w K mg bA "begins_due" (1) ["value","due"] sI:=by
 refine D.ok uY (λvs H Q E h=>?_) (λbase f cF A outer s H vs Q E n h=>?_);·obtain⟨d,v,k,b,rfl,_⟩:=h;rfl
 obtain⟨d,v,k,b,rfl,r,wf,q⟩:=h;have o:=DH n;refine⟨_,(ag (bu (L2.PW.pt (lO (nE (jA (bw d9 rfl M.dG cW (aa (pv 0) (aa (vW M.qc lS rfl) af))))) (lO (aD bP (bw bx rfl M.fB dP (aa (pv 0) af)) ah (aG _)) (jj (aD (yn o) (aS aR (pv 0) ah (λ_ _=>rfl)) (gQ M.g_KIDS_DUE rfl) rfl))))) (ai (aw oY)) aM) (ai (aw (cK bP (cK jS (aS aR (pv 0) ah (λ_ _=>rfl)) (gQ M.g_KIND_WORDS rfl) rfl) (cK bP (pv 1) aE (aG _)) (aG _))))),?_⟩;try dsimp only[gL,p]
 refine nH ?_;intro _ _;obtain⟨x,ps,z,rfl,G,u⟩:=d7 ⟨k,wf⟩;obtain⟨_,_,l,_,_,_,_,_,rr,m,_⟩:=bB wf;obtain⟨a,C,rfl,ha,F,us,rfl,⟨rfl,y⟩,B⟩:=id r;have g:bS K H a (.str x::us):=bS.of ha;have i:kZ (.str x::us) 0=some (.str x):=aO (j:=0) rfl;refine⟨_,rfl,_,_,_,_,rfl,r.ty,yh _ _,_,rfl,Dm ?_⟩;refine⟨_,rfl,a,_,rfl, .inr g,rfl,_,rfl,?_⟩;refine aV (λc=>absurd (of_decide_eq_true c) (by simp;omega)) (λc=>?_);refine⟨_,rfl,a,_,_,_,rfl,rfl,g,i, .inl ⟨x,_,_,rfl,rfl,T.tab,_,rfl,?_⟩⟩;rw[T.Kj,m];refine Dm ?_;refine⟨_,rfl,a,_,_,_,rfl,rfl,g,i,_,_,rfl, .inr (.inr W),rfl,rfl,_,rfl,rfl,rfl,?_⟩;have e:decide (V.bl (QV (.str x) KWs)=V.bl (decide (V.str (EU b)=V.str "kind")))=(k==b):=by rw[NJ];show decide (V.bl (fC x)=V.bl b)=_;rw[l];cases k<;>cases b<;>decide
 show Q (.bl (decide (V.bl (QV (.str x) KWs)=V.bl (decide (V.str (EU b)=V.str "kind"))))) H;rw[e];exact q
theorem Az:∀{ps:List D}{i:Nat}{p:D},eM ps=false->ps[i]?=some p->dv p=false|[],_,_,_,e=>by simp at e|q::ps,0,p,h,e=>by simp at e;subst e;rw[eM,Bool.or_eq_false_iff]at h;exact h.1|q::ps,i+1,p,h,e=>by rw[eM,Bool.or_eq_false_iff]at h;exact Az h.2 (by simpa using e)
def lR(n:Nat):Sp:=λvs H Q _=>∃(d:D)(v:V)(k a:Bool),vs=[v, .str (EU a)]/\Rep H d v/\bh ao k d=true/\dv d=false/\depth d<n/\∀H',aL H H'->Q (.bl (k==a)) H'
theorem lK:aN ["value","due","dues"] ["value","due"] (ak d8):=⟨rfl,rfl,rfl,by decide+kernel,rfl,by decide+kernel,by decide+kernel⟩
theorem zQ{n:Nat}(D:Df K mg "is_shaped" d8 ["value","due"])(M:Mg mg t){as:List Addr}(T:KD K t.gm b_ as)(fL:bj P w K mg bA "begins_due" (1) ["value","due"] sI)(eh:bj P w K mg bA "is_number" (1) ["value"] mT)(j_:bj P w K mg bA "is_name" (1) ["value"] tu)(jw:bj P w K mg bA "is_shaped" (n+2) ["value","due"] (lR n)):bj P w K mg bA "is_shaped" (n+3) ["value","due"] (lR (n+1)):=by
 refine D.ok lK (λvs H Q E h=>?_) (λbase f cF A outer s H vs Q E U h=>?_);·obtain⟨d,v,k,B,rfl,_⟩:=h;rfl
 obtain⟨d,v,k,B,rfl,r,wf,big,aci,q⟩:=h;refine⟨_,(ag (bu (nE (jA (ay fL U.m rfl aC (aa (pv 0) (aa (pv 1) af))))) (ai (aw oY)) aM) (ag (bu (aD bP (aS aR (pv 0) ah (λ_ _=>rfl)) aE (aG _)) (ai (aw (kQ (cK bP (bw bx rfl M.fB dP (aa (pv 0) af)) ah (aG _)) (kQ (ay eh U.m rfl aC (aa (aS aR (pv 0) ah (λ_ _=>rfl)) af)) (jl (LJ vK vK ah (aS aR (pv 0) ah (λ_ _=>rfl)) (mR M.g_MOST_VARIABLE rfl))))))) aM) (ag (bu (aD bP (aS aR (pv 0) ah (λ_ _=>rfl)) aE (aG _)) (ai (aw (kQ (cK bP (bw bx rfl M.fB dP (aa (pv 0) af)) ah (aG _)) (jl (ay j_ U.m rfl aC (aa (aS aR (pv 0) ah (λ_ _=>rfl)) af)))))) aM) (ag (aH (i:=2) lK.nd rfl (cI rfl) (Kr (gQ M.g_KIDS_DUE rfl) (aS aR (pv 0) ah (λ_ _=>rfl)) (λ_ _=>rfl))) (ag (bu (aD GN (bw bx rfl M.fB dP (aa (pv 0) af)) (aQ cy ah (bw bx rfl M.fB dP (aa (pv 2) af))) (aG _)) (ai (aw oY)) aM) (ai (aw (bw (mD rfl) rfl M.Ra N1 (aa (gI (N':=["kid","kid_due"]) (own:=2) (fr:=[]) rfl (iI (N:=["value","due","dues"]) (sc:=ak d8) rfl rfl rfl (by decide+kernel)) (Py rfl M.Rb (aa (ip qO (pv 0) (eL ah) cJ) (aa (pv 2) af))) (uM (n:=2) (by decide) (by decide)) (λ_ _ _=>(nV (n:=2) rfl (cP (bI (i:=0) (show List.Nodup (["kid","kid_due"]:List Str)by decide+kernel) rfl (Or.inl rfl)) (cP (bI (i:=1) (show List.Nodup (["kid","kid_due"]:List Str)by decide+kernel) rfl (Or.inl rfl)) jV)))) (λ_ _ _=>gG) (λ_ _ _=>(ay jw U.m rfl aC (aa (pv 0) (aa (pv 1) af))))) af))))))))),?_⟩;try dsimp only[gL,cG]
 refine Px ?_;intro _ _ _ _ _ _;refine⟨_,rfl,_,rfl,d,v,k,B,rfl,r,wf,_,rfl,?_⟩;refine aV (λc=>?_) (λc=>?_)
 ·have e:(k==B)=false:=by cases k<;>cases B<;>first|rfl|exact absurd c (by decide)
  rw[e]at q;exact q H (aL.refl H)
 have ekk:(k==B)=true:=by cases k<;>cases B<;>first|rfl|exact absurd (by decide) c
 rw[ekk]at q;obtain⟨x,ps,k0,rfl,wf0,qB⟩:=d7 ⟨k,wf⟩;obtain⟨C,e1,e2,O,e4,e5,e6,Z,rr,er,el⟩:=bB wf;obtain⟨a,JE,rfl,ha,v0,g,rfl,⟨rfl,hx⟩,W⟩:=id r;have lur:=W.length;have l:bS K H a (.str x::g):=bS.of ha;have Y:kZ (.str x::g) 0=some (.str x):=aO (j:=0) rfl;have I:eM (.str x::ps)=false:=big;rw[eM,Bool.or_eq_false_iff]at I;replace I:=I.2;refine⟨_,rfl,a,_,_,_,rfl,rfl,l,Y,rfl,_,rfl,?_⟩;refine aV (λcv=>?_) (λcv=>?_)
 ·have cv:V.str x=V.str "var":=of_decide_eq_true cv;cases cv;obtain⟨i,rfl,i0,_⟩:=jT wf;obtain⟨u,ur',rfl,ru,e⟩:=W;have e:ur'=[]:=e;subst e;cases(show u=V.int i from ru);have hb:dv (.int i)=false:=Az (i:=0) I rfl;have hi:i<=99:=by rw[dv]at hb;have :=of_decide_eq_false hb;omega
  have L:kZ [V.str "var", .int i] 1=some (.int i):=aO (j:=1) rfl;refine⟨_,rfl,a,_,rfl, .inr l,rfl,_,rfl,aV (λ_=>?_) (λc=>absurd (decide_eq_true rfl) c)⟩;refine⟨_,rfl,a,_,_,_,rfl,rfl,l,L, .int i,_,rfl,rfl,_,rfl,pR ?_⟩;refine⟨_,rfl,a,_,_,_,rfl,rfl,l,L,_,_,rfl,rfl,_,rfl,?_⟩;refine aV (λ_=>⟨_,_,rfl,rfl,?_⟩) (λc=>absurd (decide_eq_true i0) c);have :=q H (aL.refl H);rw[<-decide_eq_true hi]at this;exact this
 have nv:x≠"var":=λz=>cv (by rw[z];decide+kernel);refine⟨_,rfl,a,_,_,_,rfl,rfl,l,Y,rfl,_,rfl,?_⟩;refine aV (λcv=>?_) (λcv=>?_)
 ·have cv:V.str x=V.str "name":=of_decide_eq_true cv;cases cv;have hn:∃y,ps=[.str y]/\Pn y:=by rw[eY]at e1;cases e1;rw[C5]at O e5;obtain⟨y,rfl⟩:=fW wf;rw[az,cf]at O;exact⟨y,rfl,by show ao (.str y)=true;simpa[cO]using O.1⟩
  obtain⟨y,rfl,hy⟩:=hn;obtain⟨u,ur',rfl,ru,e⟩:=W;have e:ur'=[]:=e;subst e;obtain⟨rfl,_⟩:=ru;have L:kZ [V.str "name", .str y] 1=some (.str y):=aO (j:=1) rfl;refine⟨_,rfl,a,_,rfl, .inr l,rfl,_,rfl,aV (λ_=>?_) (λc=>absurd (decide_eq_true rfl) c)⟩;exact⟨_,rfl,a,_,_,_,rfl,rfl,l,L,y,rfl,hy,q⟩
 have nn:x≠"name":=λz=>cv (by rw[z];decide+kernel);have hl:bC x=false:=by unfold bC;rw[decide_eq_false nv,decide_eq_false nn];rfl
 have ek:av x ps=ps:=by unfold av;rw[if_neg (by rw[hl];decide)]
 obtain⟨sh',l1,l2⟩:∃s,b_.lookup x=some (s.cps.toList.map vG)/\cY x= .str s:=by cases shp x with|aP h1 h2=>rw[h1]at er;cases er|var h1 h2=>exact absurd h2 nv|name h1 h2=>exact absurd h2 nn|Ua s h1 h2 h3 h4 h5 h6=>exact⟨s,h1,h2⟩
 rw[e1]at l2;cases l2;obtain⟨b,ZZ,G⟩:=T.some l1;have Z:=Z hl;have k4:=oH wf;rw[ek]at k4;refine⟨_,rfl,a,_,_,_,rfl,rfl,l,Y,_,_,x,_,rfl,rfl,T.tab,ZZ,?_⟩;refine⟨_,rfl,a,_,rfl, .inr l,_,rfl,b,_,rfl, .inr (G H),_,_,rfl,rfl,rfl,_,rfl,?_⟩;have ls:(C.cps.toList.map vG).length=C.cps.toList.length:=c_ _;refine aV (λc3=>?_) (λ_=>?_);·refine absurd c3 ?_;show¬(!decide (V.int (((V.str x::g).length:Nat):Int)=V.int (1+(((C.cps.toList.map vG).length:Nat):Int))))=true;rw[decide_eq_true (by rw[ls,e5,hV,lur];congr 1;omega)];decide
 refine⟨_,rfl,_,rfl,a,_,rfl,l,λJ Ed=>?_,λz=>absurd (congrArg List.length z) (by rw[show(some (1:Int))=some ((1:Nat):Int)from rfl,hI];simp)⟩;rw[show(some (1:Int))=some ((1:Nat):Int)from rfl,hI];have h1:(upd H J (.tup g)) J=some (.tup g):=aq;have s1:aL H (upd H J (.tup g)):=ar Ed _;refine⟨_,rfl,J,b,g,_,rfl,bS.of h1,G _,λp2 jY=>j8 ps.length (λi=>V.bl true) jY ?_ (λi o hi s2=>?_) λo s2 h2=>?_⟩;·exact cS k4 (by decide)
 ·have u4:i<C.cps.toList.length:=by omega
  obtain⟨pi,S⟩:∃p,ps[i]?=some p:=⟨_,e8 hi⟩;obtain⟨F,hci⟩:∃c,C.cps.toList[i]?=some c:=⟨_,e8 u4⟩;obtain⟨X,GA,Jj⟩:=W.get S;have uT:(C.cps.toList.map vG)[i]?=some (vG F):=by rw[nY,hci];rfl
  have ou:bS K o J g:=bS.of (s2 _ _ h1);refine⟨⟨g,_,X,vG F,ou,G o,GA,uT⟩,?_⟩;rintro x' H3⟨p3,y1,y2,rfl,J_,rfl,hy⟩R hR;obtain⟨f1,f2⟩:=hy g _ ou (G o);rw[GA]at f1;rw[uT]at f2;cases f1;cases f2;refine⟨p3,_,rfl,bS.of aq,rfl,_,_,rfl,_,_,rfl,rfl,?_⟩;obtain⟨pj,W9,hdu⟩:=Ft O hci;rw[S]at W9;cases W9;obtain⟨m,ekk,edu⟩:∃m:Bool,vG F= .str (EU m)/\bh ao m pi=true:=by
   rcases Z F (nP hci)with rfl|rfl;·exact⟨true,rfl,hdu⟩
   ·exact⟨false,rfl,hdu⟩
  have s3:aL H (upd o p3 (.tup [X,vG F])):=(s1.trans s2).trans (ar J_ _);refine⟨_,rfl,_,rfl,pi,X,m,m,congrArg (λz=>[X,z]) ekk,Rep.mono s3 Jj,edu,Az I S,?_,λH' s'=>?_⟩;·have :=(eQ wf (i:=i) (p:=pi) (by rw[ek];exact S)).2;omega
  ·have :=hR H' ((ar J_ _).trans s');rw[show(m==m)=true by cases m<;>rfl];exact this
 ·refine⟨⟨g,_,bS.of (s2 _ _ h1),G o,by omega⟩,p2,(List.range ps.length).map (λ_=>true),rfl,bN.of (by rw[List.map_map];exact h2),?_⟩;rw[show((List.range ps.length).map (λ_=>true)).all id=true by simp];exact q o (s1.trans s2)
theorem pN(D:Df K mg "is_shaped" d8 ["value","due"])(M:Mg mg t){as:List Addr}(T:KD K t.gm b_ as)(a:bj P w K mg bA "begins_due" (1) ["value","due"] sI)(c:bj P w K mg bA "is_number" (1) ["value"] mT)(b:bj P w K mg bA "is_name" (1) ["value"] tu):∀n:Nat,bj P w K mg bA "is_shaped" (n+2) ["value","due"] (lR n)|0=>bj.never D λvs H Q E⟨d,v,k,e,_,_,_,_,h,_⟩=>absurd h (jf _)|n+1=>zQ D M T a c b (pN D M T a c b n)
def AJ:Sp:=λvs H Q _=>∃(d:D)(v:V)(k a:Bool),vs=[v, .str (EU a)]/\Rep H d v/\bh ao k d=true/\cR d=false/\depth d<60/\aJ d<=8000000/\∀H',aL H H'->Q (.bl (k==a)) H'
theorem BH:aN ["value","due"] ["value","due"] (ak iV):=⟨rfl,rfl,rfl,by decide+kernel,rfl,by decide+kernel,by decide+kernel⟩
theorem EK(D:Df K mg "is_thing" iV ["value","due"])(M:Mg mg t)(e:bj P w K mg bA "is_vast" (1) ["value"] Fp)(c:bj P w K mg bA "is_shaped" (62) ["value","due"] (lR 60)):bj P w K mg bA "is_thing" (63) ["value","due"] AJ:=by
 refine D.ok BH (λvs H Q E h=>?_) (λbase f cF A outer s H vs Q E a h=>?_);·obtain⟨d,v,k,b,rfl,_⟩:=h;rfl
 obtain⟨d,v,k,b,rfl,r,wf,gr,hd,l,q⟩:=h;have gr:(c7 d||dv d)=false:=gr;rw[Bool.or_eq_false_iff]at gr;refine⟨_,(ai (aw (kQ (bw d9 rfl M.dG cW (aa (pv 0) (aa (vW M.qc lS rfl) af))) (kQ (M3 (ay e a.m rfl aC (aa (pv 0) af))) (jl (ay c a.m rfl aC (aa (pv 0) (aa (pv 1) af)))))))),?_⟩;try dsimp only[gL,j]
 have ok:=Hs wf;obtain⟨x,ps,n,rfl,o,m⟩:=d7 ⟨k,wf⟩;refine⟨_,rfl,_,_,_,_,rfl,r.ty,yh _ _,_,rfl,pR ?_⟩;refine⟨_,rfl,_,v,rfl,r,ok,d4 _,λi s1=>⟨_,rfl,_,rfl,?_⟩⟩;rw[gr.1];exact pR ⟨_,rfl,_,rfl,_,v,k,b,rfl,r.mono s1,wf,gr.2,hd,λg s2=>q g (s1.trans s2)⟩
def FY(a:Bool):Sp:=λvs H Q _=>∃(d:D)(v:V)(k:Bool),vs=[v]/\Rep H d v/\bh ao k d=true/\cR d=false/\depth d<60/\aJ d<=8000000/\∀H',aL H H'->Q (.bl (k==a)) H'
theorem EE:aN ["thing"] ["thing"] (ak j7):=⟨rfl,rfl,rfl,by decide+kernel,rfl,by decide+kernel,by decide+kernel⟩
theorem JN(D:Df K mg "is_term" j7 ["thing"])(a:bj P w K mg bA "is_thing" (63) ["value","due"] AJ):bj P w K mg bA "is_term" (64) ["thing"] (FY false):=by
 refine D.ok EE (λvs H Q E h=>?_) (λbase f cF A outer s H vs Q E b h=>?_);·obtain⟨d,v,k,rfl,_⟩:=h;rfl
 obtain⟨d,v,k,rfl,h⟩:=h;exact⟨_,(ai (aw (ay a b.m rfl aC (aa (pv 0) (aa aE af))))),_,rfl,d,v,k,false,rfl,h⟩
theorem Fq:aN ["thing"] ["thing"] (ak jW):=⟨rfl,rfl,rfl,by decide+kernel,rfl,by decide+kernel,by decide+kernel⟩
theorem Jt(D:Df K mg "is_kind" jW ["thing"])(a:bj P w K mg bA "is_thing" (63) ["value","due"] AJ):bj P w K mg bA "is_kind" (64) ["thing"] (FY true):=by
 refine D.ok Fq (λvs H Q E h=>?_) (λbase f cF A outer s H vs Q E b h=>?_);·obtain⟨d,v,k,rfl,_⟩:=h;rfl
 obtain⟨d,v,k,rfl,h⟩:=h;exact⟨_,(ai (aw (ay a b.m rfl aC (aa (pv 0) (aa aE af))))),_,rfl,d,v,k,true,rfl,h⟩
end K25
end
section
namespace L3
open PySem PySem.Spec PyProof.Rows L2
noncomputable abbrev ab6(h:Heap)(z TI TO:Addr)(a f1:Value):Prop:=h.get? z=some {cls:= .type "zip",dict:=none,data:= .fields #[a,f1, .bool false, .ref TI, .ref TO],slots:=#[]}
def ZG(h:Heap)(z TI TO:Addr):Prop:=∃b f1,ab6 h z TI TO b f1/\(b= .none\/∃a t,b= .int a t)
section
variable{prog:Program}{w:World}{A:Around}{E:Value->Shared->Prop}{s:Shared}
variable{z TI TO i1 i2:Addr}{f1 f2:List Addr}{n1 n2:Nat}{P1 P2:Nat->Value->Prop}{S1 S2:Nat->Heap->Prop}
end
structure acb(a b e z TI TO i1 i2:Addr)(i:Nat)(h:Heap):Prop where
 e:∃old,IsEnum h e z i old
 z:ZG h z TI TO
 TI:IsPair h TI (.ref i1) (.ref i2)
 TO:∃u v,IsPair h TO u v
 i1:h.IsListIter i1 a i
 i2:h.IsListIter i2 b i
end L3
end
section
namespace L3
theorem UG{k:Nat}{A:PySem.Around}(r:L2.cZ k A):A.units+84<PySem.cLine:=by have :=r.un;lia
end L3
end
section
namespace K25
open PySem L2 L3 KM PyProof.Rows
seal L2.PE L2.PS L2.gT L2.PT L2.PW L2.PA L2.PG L2.uX L2.PI L2.PC L2.PO L2.DC L2.PK L3.vF L3.PH L3.PB
variable{P:Program}{w:World}{K:PySem.W.Frag}{mg:Str->Option Value}{base:Heap}{t:ve}
theorem Lq{H:Hp}{a p:Addr}{ns:List Int}(c:bN K H a (ns.map V.int))(hl:ns.length<=63)(b:H p=none):Tp K a p ns (upd H p (.lst [V.int 0])) 0:=by
 refine⟨?_,hl,aq,Int.le_refl _⟩;rcases c with(h|⟨o,h⟩)|h;·have n:a≠p:=aT h b;exact .inl ⟨n, .inl (by rw[bf n];exact h)⟩
 ·have n:a≠p:=aT h b;exact .inl ⟨n, .inr ⟨o,by rw[bf n];exact h⟩⟩
 ·exact .inr λH'=> .inr h
mutual theorem NN:∀{k:Bool}{d:D},bh ao k d=true->QK d=true|k, .tup (.str x::ps),h=>by obtain⟨s,e1,e2,e3,e4,e5,_⟩:=bB h;show(true&&Qp ps)=true;rw[Ov e3];rfl|k, .tup [],h=>by simp[bh]at h|k, .tup (.aP::_),h=>by simp[bh]at h|k, .tup (.bl _::_),h=>by simp[bh]at h|k, .tup (.int _::_),h=>by simp[bh]at h|k, .tup (.tup _::_),h=>by simp[bh]at h|k, .aP,h=>by simp[bh]at h|k, .bl _,h=>by simp[bh]at h|k, .int _,h=>by simp[bh]at h|k, .str _,h=>by simp[bh]at h theorem Ov:∀{cs:List Nat}{ps:List D},dQ ao cs ps=true->Qp ps=true
 |[],[],_=>rfl
 |[],_::_,h=>by simp[dQ]at h
 |_::_,[],h=>by simp[dQ]at h
 |c::cs,p::ps,h=>by
  rw[az,cf]at h;show(QK p&&Qp ps)=true;rw[Ov h.2,Bool.and_true];have h:=h.1;unfold cO at h;by_cases c1:c=107;·rw[if_pos c1]at h;exact NN h
  ·rw[if_neg c1]at h;by_cases c2:c=116;·rw[if_pos c2]at h;exact NN h
   ·rw[if_neg c2]at h;cases p<;>first|rfl|(simp[iq,ao]at h;done)end
end K25
end
section
namespace L3
open PySem PySem.Spec PyProof.Rows L2 KM
noncomputable def MQ:R2:=λx y H Q=>∃xs:List DX,Lz H (.lst xs) x/\Lz H (.lst xs) y/\JS xs=true/\lX xs<=80/\Q (.bl true) H
theorem Hr{X:Cx}(m:X.A.units+84<cLine):ji X (compareOp .Eq) MQ:=by
 intro pins s σ H x y v u Q I k l h;obtain⟨xs,⟨q,vs,rfl,hq,rd⟩,⟨p,us,rfl,d,a⟩,n,hd,h⟩:=h;cases k;cases l;obtain⟨f,b,pt,_⟩:=I.list (bN.of (K:=X.K) hq);obtain⟨g,c,i,_⟩:=I.list (bN.of (K:=X.K) d);have o:=b.length;have r:=c.length;have t:=gH.length rd;have w:=gH.length a;refine SeqAt.eq_listAt pt.isList i.isList (e:=λ_=>true) (by simp only[cM];lia) (by lia) (λj h1 h2=>?_) ⟨.bl true,H,I,?_,h⟩;·have :=O_ I xs X.A.in1 vs us f g rd a b c n (by show X.A.units+1+lX xs<cLine;lia) j (by simpa using h1) (by simpa using h2);simpa using this
 ·show Value.bool _=Value.bool true;congr 1;simp
end L3
end
section
namespace SR
open PySem PySem.Spec PyProof.Rows
noncomputable abbrev kv(x:Keyed):Int:=numOf x.1
section
variable{prog:Program}{w:World}{A:Around}{E:Value->Shared->Prop}{s:Shared}
end
structure SB(tP:Array Keyed)(p:Array (Nat×Nat×Nat))(st:SortSt):Prop where
 perm:(arrOf st).Perm tP
 kind:kindOf st=oneType'
 failed:failedOf st=none
 pend:pendingOf st=p
variable{tP:Array Keyed}{p:Array (Nat×Nat×Nat)}
def Srt(xs:Array Keyed)(lo hi:Nat):Prop:=∀i j,lo<=i->i<=j->j<hi->K xs i<=K xs j
section
variable{prog:Program}{w:World}{A:Around}{E:Value->Shared->Prop}{s:Shared}
end
end SR
end
section
namespace SR
open PySem PySem.Spec PyProof.Rows
structure IL(R:Keyed->Keyed->Prop)(out ca ra cb rb:List Keyed):Prop where
 perm:out.Perm (ca++cb)
 srt:out.Pairwise R
 low:∀x,x∈out->∀y,y∈ra\/y∈rb->R x y
variable{R:Keyed->Keyed->Prop}{out ca ra cb rb:List Keyed}
noncomputable abbrev Le(x y:Keyed):Prop:=kv x<=kv y
variable{a b o:Array Keyed}{ia ib na nb:Nat}
def Mg(a b r:Array Keyed):Prop:=r.toList.Perm (a.toList++b.toList)/\r.toList.Pairwise Le
end SR
end
section
namespace SR
open PySem PySem.Spec PyProof.Rows
structure Sam(st DN:SortSt):Prop where
 kind:kindOf DN=kindOf st
 arr:arrOf DN=arrOf st
 pend:pendingOf DN=pendingOf st
 failed:failedOf DN=failedOf st
variable{a b o:Array Keyed}{ia ib na nb:Nat}
section
variable{prog:Program}{w:World}{A:Around}{E:Value->Shared->Prop}{s:Shared}
end
end SR
end
section
namespace SR
open PySem PySem.Spec PyProof.Rows
variable{a b o:Array Keyed}{ia ib na nb:Nat}
section
variable{prog:Program}{w:World}{A:Around}{E:Value->Shared->Prop}{s:Shared}
end
end SR
end
section
namespace SR
open PySem PySem.Spec PyProof.Rows
section
variable{prog:Program}{w:World}{A:Around}{E:Value->Shared->Prop}{s:Shared}{tP:Array Keyed}
end
section
variable{prog:Program}{w:World}{A:Around}{E:Value->Shared->Prop}{s:Shared}{tP:Array Keyed}
noncomputable def kW(tP:Array Keyed)(st:SortSt):Prop:=(SB tP #[(0,tP.size,0)] st/\Srt (arrOf st) 0 tP.size)\/∃a b pw,SB tP #[(0,a,pw),(a,b,0)] st/\a+b=tP.size/\1<=a/\1<=b/\Srt (arrOf st) 0 a/\Srt (arrOf st) a tP.size
end
section
variable{prog:Program}{w:World}{A:Around}{E:Value->Shared->Prop}{s:Shared}{a:Addr}{ks:List Int}
end
section
variable{prog:Program}{w:World}{A:Around}{E:Value->Shared->Prop}{s:Shared}
end
section
variable{prog:Program}{w:World}{A:Around}{E:Value->Shared->Prop}{s:Shared}
end
section
variable{prog:Program}{w:World}{A:Around}{E:Value->Shared->Prop}{s:Shared}
end
section
variable{prog:Program}{w:World}{A:Around}{E:Value->Shared->Prop}{s:Shared}
end
section
variable{prog:Program}{w:World}{A:Around}{E:Value->Shared->Prop}{s:Shared}
end
section
variable{prog:Program}{w:World}{A:Around}{E:Value->Shared->Prop}{s:Shared}
end
section
variable{prog:Program}{w:World}{A:Around}{E:Value->Shared->Prop}{s:Shared}
end
end SR
end
section
namespace L3
open PySem PySem.Spec PyProof.Rows L2 KM
end L3
end
section
namespace L3
open PySem PySem.Spec PyProof.Rows L2
theorem jX:∀{ns:List Int}{us:List Value},Vals (ns.map V.int) us->IntsAre us ns|[],_, .nil=> .nil|n::ns,_, .cons r t=>by obtain⟨k,rfl⟩:=r;exact .cons n k (jX t)
end L3
end
section
namespace L3
open PySem PySem.Spec PyProof.Rows L2 KM
noncomputable abbrev X4(X:Cx)(pins:List (Addr×Obj))(g:Addr->Hp->Prop):Cx:={X with pn:=X.pn++pins,xe:=λe s'=>X.Ok->BX X pins (λC _ H'=>g C H') e s'}
section
variable{X:Cx}{pins oF:List (Addr×Obj)}{g:Addr->Hp->Prop}{σ:L2.St}{H:Hp}{s:Shared}
theorem aax(ok:X.Ok):(X4 X pins g).Ok:=⟨ok.mod,ok.kind,ok.glob,ok.blt,ok.above,ok.inj,ok.has,ok.OQ,λz=>Dd (ok.hd z) λq hq=>p_ _ hq,ok.frames,ok.Q_,ok.RO,ok.bs,ok.Ba,ok.pS,ok.vx,ok.gZ,ok.Oq⟩
theorem UY(I:Inv X pins σ H s):Inv (X4 X pins g) [] σ H s:=⟨aax I.ok,I.os,I.bare,I.base,I.loc,I.cell,I.free,I.eE,λp a=>I.pin p (by simpa using a),I.bX,I.len⟩
theorem sF(ok:X.Ok)(I:Inv (X4 X pins g) oF σ H s):Inv X pins σ H s:=⟨ok,I.os,I.bare,I.base,I.loc,I.cell,I.free,I.eE,λp a=>I.pin p (p_ _ a),I.bX,I.len⟩
theorem Mr(f:X.ex=[]):Passes (fG X.prog X.w) (X4 X pins g) (λb _ H'=>∃C,b= .ref C/\g C H'):=λoF σ H s e s' I h ok=>by obtain⟨a,C,T,c,H',rfl,J,F,hc,i,d,q⟩:=E4 (sF ok I) f h;cases d;exact⟨a,C,T,c,σ,H',rfl,J,F,hc,q⟩
theorem U5{body:List Stmt}{t:List (Addr×Obj)->(Addr->Hp->Prop)->TS}(h:∀pins g,gT (X4 X pins g) body (t pins g)):PB X body (λD G σ H=>∀pins,t pins (λC H'=>∀b,G C b H') D σ H):=by
 intro pins s σ H D G I q;refine fE (h pins _ [] s σ H D (UY I) (q pins)) (λf s1 z=>?_) λe s1 z=>?_;·cases f with|next=>obtain⟨b,H',J,q⟩:=z;exact⟨b,H',sF I.ok J,q⟩|brk=>obtain⟨b,H',J,q⟩:=z;exact⟨b,H',sF I.ok J,q⟩|cont=>obtain⟨b,H',J,q⟩:=z;exact⟨b,H',sF I.ok J,q⟩|ret u=>obtain⟨v,b,H',J,r,q⟩:=z;exact⟨v,b,H',sF I.ok J,r,q⟩
 ·obtain⟨a,C,T,c,b,H',e1,J,F,hc,q⟩:=z I.ok;exact⟨a,C,T,c,b,H',e1,J,F,hc,q b⟩
end
end L3
end
section
namespace K25
open PySem L2 L3 KM PyProof.Rows
open CF(T fZ rK Way Bb Cl)
seal L2.PE L2.PS L2.gT L2.PT L2.PW L2.PA L2.PG L2.uX L2.PI L2.PC L2.PO L2.DC L2.PK L3.vF L3.PH L3.PB
variable{P:Program}{w:World}{K:PySem.W.Frag}{mg:Str->Option Value}{base:Heap}{t:ve}
theorem BY:∀{aF:List (Key×V)}{k:Key}{v:V},fD aF k=some v->(k,v)∈aF
 |[],k,v,h=>by simp[fD]at h
 |(a,b)::aF,k,v,h=>by
  by_cases e:a=k;·subst e;rw[lp rfl]at h;cases h;exact eC
  ·rw[lU e]at h;exact dX _ (BY h)
def BkC(inb:Str->Bool)(B:Str->D):Prop:=∀y,inb y=true->Cl 0 (tr (B y))
theorem MM{H:Hp}{aF:List (Key×V)}(h:Bk H aF):∃B,Kh H aF B/\Ur (eU aF) B/\BkC (eU aF) B:=by
 have b:∀y:Str,∃d:D,eU aF y=true->(∃(q:Addr)(kv e:V),fD aF (Sum.inr y:Key)=some (.ref q)/\H q=some (.tup [kv,e])/\Rep H d e)/\(bh ao false d=true/\depth d<=16)/\Cl 0 (tr d):=λy=>by
  by_cases a:eU aF y=true;·obtain⟨v,c⟩:=Option.isSome_iff_exists.mp (show(fD aF (Sum.inr y:Key)).isSome=true from a);obtain⟨q,m,g,j,k,rfl,hq,_,_,i,l,_,f,_,_,c2⟩:=h.each _ _ (BY c);exact⟨g,λ_=>⟨⟨q,j,k,c,hq,i⟩,⟨l,f⟩,c2⟩⟩
  ·exact⟨.aP,λz=>absurd z a⟩
 exact⟨λy=>(b y).choose,λy a=>((b y).choose_spec a).1,λy a=>((b y).choose_spec a).2.1,λy a=>((b y).choose_spec a).2.2⟩
theorem CD{inb:Str->Bool}{B:Str->D}{d:D}{pl:List Int}{r:Str}{e':D}{g:Bool}(h:J8 inb B d pl r e' g):fZ inb (λy=>tr (B y)) (tr d) (tr (putD d pl e')):=by obtain⟨⟨e,a,⟨i,f⟩,b,ha⟩,⟨k,c⟩,_,_⟩:=h;exact Gs (O3 ha f b) pl d k c a
theorem Ig{inb:Str->Bool}{B:Str->D}{d':D}:∀(rs:List vz)(f:Nat)(d:D),Wf d->Run inb B (.ok d') f rs d->Way inb (λy=>tr (B y)) (tr d) (tr d')/\cq inb d'=none/\Wf d'
 |[],f,d,wf,h=>by
  rcases h with⟨h1,h2⟩|⟨r,_,⟨_,h⟩|⟨_,h,_⟩⟩;·cases h2;exact⟨.nil,h1,wf⟩
  ·cases h
  ·cases h
 |r::rs,f,d,wf,h=>by obtain⟨_,e',g,h1,h2,_,h4⟩:=h;obtain⟨a,b,c⟩:=Ig rs (f-1) _ h2.rz.wf h4;exact⟨.cons (CD h2) a,b,c⟩
theorem HH{inb:Str->Bool}{B:Str->D}(a:BkC inb B){d e1 e2:D}(g:Way inb (λy=>tr (B y)) (tr d) (tr e1))(h:Way inb (λy=>tr (B y)) (tr d) (tr e2))(e:cq inb e1=none)(f:cq inb e2=none)(f1:Wf e1)(f2:Wf e2):e1=e2:=by obtain⟨b,f1⟩:=f1;obtain⟨c,f2⟩:=f2;exact Wa f1 f2 (CF.Kq a g h (FD (depth e1+1) e1 b f1 (Nat.lt_succ_self _) e) (FD (depth e2+1) e2 c f2 (Nat.lt_succ_self _) f))
theorem TZ{inb:Str->Bool}{B:Str->D}(g:Ur inb B):∀(f:Nat)(d:D),Td d->∃(b:Out)(rs:List vz),Run inb B b f rs d/\rs.length<=f/\∀d',b= .ok d'->Td d':=λf=>by
 induction f with
  |zero=>intro d td;cases a:cq inb d with|none=>exact⟨.ok d,[], .inl ⟨a,rfl⟩,d4 _,λd' e=>by cases e;exact td⟩|some r=>exact⟨.dry,[], .inr ⟨r,a, .inl ⟨rfl,rfl⟩⟩,d4 _,λd' e=>by cases e⟩
  |succ f j=>intro d td;cases c:FE inb d with|nil=>exact⟨.ok d,[], .inl ⟨HQ c,rfl⟩,d4 _,λd' e=>by cases e;exact td⟩|cons r0 rest=>obtain⟨y,i,a⟩:=Om c;obtain⟨l,k,h⟩:=LV td.wf (show r0∈FE inb d by rw[c];exact eC);obtain⟨ok,nx⟩:=stC g td h i;cases hb:TQ B d (uS r0.1) r0.2 y with|true=>exact⟨.great,[], .inr ⟨(r0.1,y),a, .inr ⟨Nat.succ_pos f,rfl,_,_,ok,hb⟩⟩,d4 _,λd' e=>by cases e⟩|false=>obtain⟨b,rs,h1,h2,h3⟩:=j _ (nx hb);exact⟨b,(r0.1,y)::rs,⟨Nat.succ_pos f,_,_,a,ok,hb,h1⟩,Nat.succ_le_succ h2,h3⟩
structure Sh(inb:Str->Bool)(B:Str->D)(k:Bool)(d d':D):Prop where
 way:Way inb (λy=>tr (B y)) (tr d) (tr d')
 wf:bh ao k d'=true
 ng:cR d'=false
 hd:k=true->jg d'=jg d
theorem Sh.td{inb:Str->Bool}{B:Str->D}{k:Bool}{d d':D}(h:Sh inb B k d d'):Td d':=by obtain⟨a,b⟩:=m8 h.ng;exact⟨⟨k,h.wf⟩,a,by omega⟩
theorem IZ:(b_.all λr=>if fC r.1=true then decide (r.1∉(["name","app","carry","first","second","rec"]:List Str))else true)=true:=by decide+kernel
theorem O4{inb:Str->Bool}{d:D}(wf:bh ao true d=true):bG inb d= .aP:=by obtain⟨x,ps,e,rfl,f,c⟩:=d7 ⟨true,wf⟩;obtain⟨_,_,a,_,_,_,_,_,rr,b,_⟩:=bB wf;have :=List.all_eq_true.mp IZ _ (lookup_mem b);rw[if_pos a]at this;have hn:=of_decide_eq_true this;simp only[eB,fH,or_false,not_or]at hn;obtain⟨h1,h2,h3,h4,h5,h6⟩:=hn;show bZ inb x ps= .aP;unfold bZ;rw[if_neg h1,if_neg h2,if_neg h3,if_neg h4,if_neg h5,if_neg h6]
theorem Sh.step{inb:Str->Bool}{B:Str->D}{k:Bool}{d d' e:D}{pl:List Int}{r:Str}(f:Ur inb B)(h:Sh inb B k d d')(a:goto d' pl=some e)(b:bG inb e= .str r):J8 inb B d' pl r (pT B e r).1 (pT B e r).2/\(TQ B d' pl e r=false->Sh inb B k d (M4 B d' pl e r)):=by
 obtain⟨ok,nx⟩:=stC f h.td a b;refine⟨ok,λhb=>⟨h.way.app (.cons (CD ok) .nil),?_,(Bool.or_eq_false_iff.mp hb).2,λg=>?_⟩⟩;·obtain⟨⟨l,c⟩,j⟩:=qX pl d' e ⟨k,h.wf⟩ a;have ha:=GW (N7 (B:=B) c (by have :=h.td.dp;omega) b);exact yo c (wA f ha c b).1 pl d' k h.wf a
 ·rw[<-h.hd g];cases pl with|nil=>rw[goto]at a;cases a;have wf:=h.wf;rw[g]at wf;rw[O4 wf]at b;cases b|cons i is=>obtain⟨x,ps,m,rfl,_,_⟩:=d7 ⟨k,h.wf⟩;show jg (putD _ _ _)=_;rw[putD];rfl
structure Ek(K:PySem.W.Frag)(t:ve):Prop where
 e0:pP K t.dM
 e1:pP K t.cD
 e2:pP K t.yF
 e4:pP K t.OL
 x0:PySem.W.subIn K (.ref t.dM) (.ref t.dM)=some true
 x1:PySem.W.subIn K (.ref t.dM) (.ref t.OL)=some false
 x2:PySem.W.subIn K (.ref t.OL) (.ref t.OL)=some true
def CC(H:Hp)(inb:Str->Bool)(B:Str->D)(d:D)(p:Addr)(o:Option D):Prop:=(∃us,H p=some (.lst us)/\bE H o.toList us)/\∀d',o=some d'->Way inb (λy=>tr (B y)) (tr d) (tr d')/\cq inb d'=none/\Td d'
def RT(T1 T2:Addr):Sp:=λvs H Q _=>∃(B:Str->D)(d:D)(v:V)(b:Addr)(aF:List (Key×V)),vs=[v, .ref b]/\Rep H d v/\Td d/\Bs H B b aF T1 T2/\∀(p:Addr)(o:Option D)(H':Hp),aL H H'->H p=none->CC H' (eU aF) B d p o->Q (.ref p) H'
theorem Fo:aN ["_law_thing_here","_law_book_here"] ["_law_thing_here","_law_book_here"] (ak jU):=⟨rfl,rfl,rfl,by decide+kernel,rfl,by decide+kernel,by decide+kernel⟩
theorem Ir{T1 T2:Addr}(D:Df K mg "_law_end" jU ["_law_thing_here","_law_book_here"])(M:Mg mg t)(X:Ek K t)(n:bj P w K mg (fG P w) "normal" (129) ["thing","fuel","book"] (Bh t.dM t.OL T1 T2)):bj P w K mg bA "_law_end" (135) ["_law_thing_here","_law_book_here"] (RT T1 T2):=by
 refine D.ok Fo (λvs H Q E h=>?_) (λbase f cF A outer s H vs Q E k h=>?_);·obtain⟨B,d,v,b,aF,rfl,_⟩:=h;rfl
 obtain⟨B,d,v,b,aF,rfl,r,td,bs,q⟩:=h;have l:=X.e4;have m:=X.e0;have hh:=k.hd (by decide);refine⟨_,(ai (L5 rfl rfl rfl (U5 λpins g=>(ai (aw (cA (aa (aS aR (ay n k.m rfl (Mr rfl) (aa (pv 0) (aa ah (aa (pv 1) af)))) ah (λ_ _=>rfl)) af))))) (yA false l M.g_Dry rfl (λz=>nomatch z) (λa C oe o=>(ai (aw (cA af)))) (yA false m M.g_Great rfl (λz=>nomatch z) (λa C oe o=>(ai (aw (cA af)))) Ma)))),?_⟩;try dsimp only[gL,N]
 obtain⟨F,rs,run,hl,y⟩:=TZ bs.bb 40 d td;have none_:∀i:Hp,aL H i->∀c,i c=none->Q (.ref c) (upd i c (.lst [])):=λi s1 c j=>q c none _ (s1.trans (ar j _)) (s1.free j) ⟨⟨[],aq,rfl⟩,λ_ e=>by cases e⟩;refineλpins=>⟨_,rfl,_,rfl,B,d,v,40,b,aF,rs,F,rfl,r,⟨td.wf,by have :=td.dp;omega,d4 _⟩,bs.hb,bs.br,run,by omega,bs.tb,λd' p S us u i e s1 x R rr G hn=>?_,λe i s1=>?_,λe i s1=>?_⟩;·subst e;refine⟨p,_,_,u,rfl,rfl,bS.of x,rfl,(dw rfl),λc j=>?_⟩;have t2:=ar j (.lst [u]);obtain⟨I,J,T⟩:=Ig rs 40 d td.wf run;exact q c (some d') _ (s1.trans t2) (s1.free j) ⟨⟨[u],aq,⟨u,[],rfl,G.mono t2,rfl⟩⟩,λO e2=>by cases e2;exact⟨I,J,y d' rfl⟩⟩
 ·exact⟨t.dM,rfl,λL a ha=>⟨false,X.x1,Dm ⟨true,X.x0,pR ⟨(dw rfl),λc j=>none_ i s1 c j⟩⟩⟩⟩
 ·exact⟨t.OL,rfl,λL a ha=>⟨true,X.x2,pR ⟨(dw rfl),λc j=>none_ i s1 c j⟩⟩⟩
end K25
end
section
namespace K25
open PySem L2 L3 KM PyProof.Rows
open CF(T fZ rK Way Bb Cl)
seal L2.PE L2.PS L2.gT L2.PT L2.PW L2.PA L2.PG L2.uX L2.PI L2.PC L2.PO L2.DC L2.PK L3.vF L3.PH L3.PB
variable{P:Program}{w:World}{K:PySem.W.Frag}{mg:Str->Option Value}{base:Heap}{t:ve}
def Gg(K:PySem.W.Frag)(T1 T2:Addr):Sp:=λvs H Q _=>∃(a:Addr)(ns:List Int),vs=[.ref a]/\bN K H a (ns.map V.int)/\ns.length<=63/\Kd H T1 T2/\∀H',Q (.bl true) H'
theorem PZ{inb:Str->Bool}{d:D}(h:uR inb d=[]):cq inb d=none:=by
 refine HQ ?_;unfold FE;rw[List.filter_eq_nil_iff];intro r a z;unfold uR at h;rw[List.filterMap_eq_nil_iff]at h;have :=h r a;unfold RQ at this;rcases cE inb r.2 with⟨e,_⟩|⟨y,_,e,_⟩;·exact absurd e (of_decide_eq_true z)
 ·rw[e]at this;cases this
theorem LZ{inb:Str->Bool}{d:D}{r:vz}(h:r∈uR inb d):∃e,goto d (uS r.1)=some e/\bG inb e= .str r.2:=by
 obtain⟨a,h1,h2⟩:=List.mem_filterMap.mp h;obtain⟨q,e1,e2⟩:=ny [] d a h1;rw[List.nil_append]at e1;unfold RQ at h2;rcases cE inb a.2 with⟨_,e⟩|⟨y,b,e,_⟩;·rw[e]at h2;cases h2
 ·rw[e]at h2;cases h2;exact⟨a.2,by show goto d (uS a.1)=_;rw[e1];exact e2,b⟩
theorem CC.sx{H H':Hp}{p en:Addr}{xs:List V}{inb:Str->Bool}{B:Str->D}{d:D}{o:Option D}(h:CC H inb B d en o)(s:bO p H H')(a:H p=some (.lst xs))(n:en≠p):CC H' inb B d en o:=by obtain⟨⟨us,h1,h2⟩,h3⟩:=h;exact⟨⟨us,s _ _ n h1,h2.ja s (dD a)⟩,h3⟩
theorem CC.mono{H H':Hp}{en:Addr}{inb:Str->Bool}{B:Str->D}{d:D}{o:Option D}(h:CC H inb B d en o)(s:aL H H'):CC H' inb B d en o:=by obtain⟨⟨us,h1,h2⟩,h3⟩:=h;exact⟨⟨us,s _ _ h1,h2.mono s⟩,h3⟩
theorem BA{H:Hp}{d:D}{p q:Addr}{us ws:List V}{Q:VK}(td:Td d)(h1:H p=some (.lst us))(a:bE H [d] us)(h2:H q=some (.lst ws))(b:bE H [d] ws)(k:Q (.bl true) H):MQ (.ref p) (.ref q) H Q:=by
 obtain⟨⟨f,wf⟩,dp,_⟩:=td;obtain⟨c,_,rfl,a1,e1⟩:=a;obtain⟨e,_,rfl,a2,e2⟩:=b;cases(show _=[]from e1);cases(show _=[]from e2);refine⟨[.d d],⟨p,_,rfl,h1,⟨c,_,rfl,a1,rfl⟩⟩,⟨q,_,rfl,h2,⟨e,_,rfl,a2,rfl⟩⟩,?_,?_,k⟩;·show(QK d&&true)=true;rw[NN wf];rfl
 ·simp only[lX,Q0];omega
structure Go(K:PySem.W.Frag)(a p c b en T1 T2:Addr)(ns:List Int)(H:Hp)(B:Str->D)(aF:List (Key×V))(k:Bool)(d dn:D)(v vn:V)(o:Option D)(i:Int):Prop where
 rd:Rep H d v
 rn:Rep H dn vn
 r0:Sh (eU aF) B k d d
 rc:Sh (eU aF) B k d dn
 el:CC H (eU aF) B d en o
 np:en≠p
 bs:Bs H B b aF T1 T2
 bc:BkC (eU aF) B
 g:Sg K a p c ns H i
theorem Go.mono{a p c b en T1 T2:Addr}{ns:List Int}{H H':Hp}{B:Str->D}{aF:List (Key×V)}{k:Bool}{d dn:D}{v vn:V}{o:Option D}{i:Int}(h:Go K a p c b en T1 T2 ns H B aF k d dn v vn o i)(s:aL H H'):Go K a p c b en T1 T2 ns H' B aF k d dn v vn o i:=⟨h.rd.mono s,h.rn.mono s,h.r0,h.rc,h.el.mono s,h.np,h.bs.mono s,h.bc,h.g.mono s⟩
theorem Go.next{a p c b en T1 T2:Addr}{ns:List Int}{H H':Hp}{B:Str->D}{aF:List (Key×V)}{k:Bool}{d dn:D}{v vn:V}{o:Option D}{i j:Int}(h:Go K a p c b en T1 T2 ns H B aF k d dn v vn o i)(s:bO p H H')(f:H' p=some (.lst [.int j]))(e:0<=j):Go K a p c b en T1 T2 ns H' B aF k d dn v vn o j:=⟨h.g.rep s h.rd,h.g.rep s h.rn,h.r0,h.rc,h.el.sx s h.g.T.fK h.np,h.np,h.bs.sx s h.g.T.fK,h.bc,h.g.next s f e⟩
theorem fz:aN ["_law_script","_law_tape","_law_pool_here","_law_book_here","_law_thing_here","_law_end_here","_law_now","_law_turn","_law_rows_here","_law_other","_law_last"] ["_law_script"] (ak Gi):=⟨rfl,rfl,rfl,by decide+kernel,rfl,by decide+kernel,by decide+kernel⟩
theorem Xs{f T1 T2:Addr}{fd:FuncData}(F:Q2 K "law" "law" Gi f fd)(M:Mg mg t)(X:Ek K t)(aI:bj P w K mg bA "_law_draw" (1) FC (ft K))(Em:bj P w K mg bA "_law_pool" (2) ["_law_script","_law_tape"] (La K))(Fs:bj P w K mg bA "_law_book" (154) ["_law_script","_law_tape","_law_pool_here"] (MV K))(DD:bj P w K mg bA "_law_thing" (154) eA (GX K))(wH:bj P w K mg bA "_law_end" (135) ["_law_thing_here","_law_book_here"] (RT T1 T2))(kJ:bj P w K mg bA "steps_of" (63) ["thing","book"] (qF 60))(nN:bj P w K mg (fG P w) "stepped" (128) ["thing","place","book"] (Ei t.dM T1 T2))(wF:bj P w K mg bA "is_term" (64) ["thing"] (FY false))(nM:bj P w K mg bA "is_kind" (64) ["thing"] (FY true)):m9 P w K mg base bA 193 f fd ["_law_script"] (Gg K T1 T2):=by
 refine F.ok fz (λvs H Q E h=>?_) (λcF A outer s H vs Q E g h=>?_);·obtain⟨a,ns,rfl,_⟩:=h;rfl
 obtain⟨a,ns,rfl,hS,hlen,hT,q⟩:=h;have hu:=DH g;have h84:=UG g;have lZ:=X.e0;have hh:=g.hd (by decide);refine⟨_,(ag (aH (i:=1) fz.nd rfl (cI rfl) (cA (aa ah af))) (ag (aH (i:=2) fz.nd rfl (cI rfl) (ay Em g.m rfl aC (aa (pv 0) (aa (pv 1) af)))) (ag (aH (i:=3) fz.nd rfl (cI rfl) (ay Fs g.m rfl aC (aa (pv 0) (aa (pv 1) (aa (pv 2) af))))) (ag (aH (i:=4) fz.nd rfl (cI rfl) (ay DD g.m rfl aC (aa (pv 0) (aa (pv 1) (aa (aQ cy ah (ay aI g.m rfl aC (aa (pv 0) (aa (pv 1) (aa ah af))))) (aa (aS cT (cA (aa ah (aa ah (aa ah af)))) (ay aI g.m rfl aC (aa (pv 0) (aa (pv 1) (aa ah af)))) (λ_ _=>rfl)) (aa (pv 2) af))))))) (ag (aH (i:=5) fz.nd rfl (cI rfl) (ay wH g.m rfl aC (aa (pv 4) (aa (pv 3) af)))) (ag (aH (i:=6) fz.nd rfl (cI rfl) (pv 4)) (ag (gS PassesOwn.never rfl (gX rfl M.mX (aa (ay aI g.m rfl aC (aa (pv 0) (aa (pv 1) (aa ah af)))) af)) (bI (i:=7) fz.nd rfl (cI rfl)) (ag (aH (i:=8) fz.nd rfl (cI rfl) (ay kJ g.m rfl aC (aa (pv 6) (aa (pv 3) af)))) (ag (bu (aD (lW hu) (pv 8) (cA af) (aG _)) (ai (aw (C9 (cK (lW hu) (pv 5) (cA af) (aG _)) (jl (cK (Hr h84) (pv 5) (cA (aa (pv 6) af)) (aG _)))))) aM) (ag (L5 rfl rfl rfl (Ut (i:=9) fz.nd rfl (cI rfl) nN g.m rfl rfl (aa (pv 6) (aa (aS aR (aS cT (pv 8) (aQ jx (ay aI g.m rfl aC (aa (pv 0) (aa (pv 1) (aa ah af)))) (bw bx rfl M.fB dP (aa (pv 8) af))) (λ_ _=>rfl)) ah (λ_ _=>rfl)) (aa (pv 3) af)))) (yA false lZ M.g_Great rfl (λz=>nomatch z) (λa C oe hoe=>(ai (aw oY))) Ma)) (ag (bu (L2.PW.pt (lO (aD GN (ay wF g.m rfl aC (aa (pv 4) af)) (ay wF g.m rfl aC (aa (pv 9) af)) (aG _)) (jj (aD GN (ay nM g.m rfl aC (aa (pv 4) af)) (ay nM g.m rfl aC (aa (pv 9) af)) (aG _))))) (ai (aw oY)) aM) (ag (bu (L2.PW.pt (U9 (jA (ay nM g.m rfl aC (aa (pv 4) af))) (PJ (aD GN (aS aR (pv 9) ah (λ_ _=>rfl)) (aS aR (pv 4) ah (λ_ _=>rfl)) (aG _))))) (ai (aw oY)) aM) (ai (aH (i:=6) fz.nd rfl (cI rfl) (pv 9))))))))) (ag (aH (i:=10) fz.nd rfl (cI rfl) (ay wH g.m rfl aC (aa (pv 6) (aa (pv 3) af)))) (ai (aw (C9 (cK (lW hu) (pv 5) (cA af) (aG _)) (C9 (cK (lW hu) (pv 10) (cA af) (aG _)) (jl (cK (Hr h84) (pv 5) (pv 10) (aG _))))))))))))))),?_⟩;try dsimp only[gL,cG]
 refine aa5 ?_;intro _ _ _ _ _ _ _ _ _;rename_i D0 v9 v8 v7 v6 v5 v4 v3 v2;refine⟨(dw rfl),λp hp=>?_⟩;have T0:=Lq hS hlen hp;have hT0:=hT.mono (ar hp (.lst [V.int 0]));generalize upd H p (.lst [V.int 0])=H0 at T0 hT0⊢;refine⟨_,rfl,_,rfl,a,p,ns,0,rfl,T0,(by decide),λc x y z H1 l1 l2 l3 hc x1 h1=>?_⟩;have g1:Sg K a p c ns H1 (0+4):=⟨T0.next x1 h1 (by decide),x,y,z,l1,l2,l3,hc⟩;have hT1:=hT0.sx x1 T0.fK;refine⟨_,rfl,_,rfl,_,rfl,a,p,c,ns,0+4,rfl,g1,(by decide),λb aF H2 i2 hb0 hb lk B2 x2 W lo2 hi2=>?_⟩;have hT2:=hT1.sx x2 g1.T.fK;have nb:b≠p:=λz=>by rw[z,W.T.fK]at hb;cases hb
 refine⟨_,rfl,_,rfl,_,rfl,_,rfl,a,p,ns,i2,5,rfl,W.T,(by omega),(by decide),λwd H3 w0 w1 x3 h3=>?_⟩;have g3:=W.next x3 h3 (by omega);refine⟨_,_,rfl,rfl,(dw rfl),λp4 e4=>?_⟩;have t4:=ar e4 (.lst [V.int 0, .int 3, .int 90]);have g4:=g3.mono t4;have h4:(upd H3 p4 (.lst [V.int 0, .int 3, .int 90])) p4=some (.lst [V.int 0, .int 3, .int 90]):=aq;have np4:p4≠p:=λz=>by rw[z,g3.T.fK]at e4;cases e4
 have x4:=x3.trans t4.x;generalize upd H3 p4 (.lst [V.int 0, .int 3, .int 90])=H4 at t4 g4 h4 x4⊢;refine⟨_,rfl,_,rfl,a,p,ns,i2+1,3,rfl,g4.T,(by omega),(by decide),λwz H5 z0 z1 x5 h5=>?_⟩;have g5:=g4.next x5 h5 (by omega);obtain⟨near,aad,n0,n1⟩:∃near:Int,kZ [V.int 0, .int 3, .int 90] wz=some (.int near)/\0<=near/\near<=90:=by
  have :wz=0\/wz=1\/wz=2:=by omega
  rcases this with rfl|rfl|rfl;·exact⟨0,rfl,by decide,by decide⟩
  ·exact⟨3,rfl,by decide,by decide⟩
  ·exact⟨90,rfl,by decide,by decide⟩
 refine⟨p4,_,_,_,rfl,rfl,bN.of (x5 _ _ np4 h4),aad,?_⟩;refine⟨_,rfl,a,p,c,ns,i2+1+1,1+wd,near,rfl,g5,(by omega),(by omega),(by omega),n0,n1,λk d v H6 Z o gr=>?_⟩;have o1:=o.lo;have o2:=o.hi;have x26:=x4.trans (x5.trans o.sx);have B6:=B2.sx x26 (dD W.T.fK);have hT6:=hT2.sx x26 W.T.fK;have hb6:=x26 _ _ nb hb;obtain⟨B,br,bb,bc⟩:=MM B6;have r0:Sh (eU aF) B k d d:=⟨.nil,o.wf,gr,λ_=>rfl⟩;have bs6:Bs H6 B b aF T1 T2:=⟨hb6,br,bb,hT6⟩;refine⟨_,rfl,_,rfl,B,d,v,b,aF,rfl,o.r,r0.td,bs6,λen oe H7 s7 hen he7=>?_⟩;have nen:en≠p:=λz=>by have :=o.g.T.fK;rw[<-z,hen]at this;cases this
 have G7:Go K a p c b en T1 T2 ns H7 B aF k d d v v oe Z:=⟨o.r.mono s7,o.r.mono s7,r0,r0,he7,nen,bs6.mono s7,bc,o.g.mono s7⟩;clear bs6 r0 B6 hT6 hb6 br he7 x26 hT2 hT1 hT0;refine⟨_,rfl,?_⟩;refine⟨_,rfl,_,rfl,a,p,ns,Z,9,rfl,G7.g.T,(by omega),(by decide),λm H8 m0 m1 x8 h8=>⟨m,rfl,(by omega),(by omega),?_⟩⟩;have G8:=G7.next x8 h8 (by omega);have both:∀(H9:Hp)(dn:KM.D)(vn:V)(i:Int),Go K a p c b en T1 T2 ns H9 B aF k d dn v vn oe i->cq (eU aF) dn=none->∀d',oe=some d'->d'=dn:=λH9 dn vn i G nf d' e=>by obtain⟨w1,w2,w3⟩:=G.el.2 d' e;exact HH bc w1 G.rc.way w2 nf w3.wf G.rc.td.wf
 let FK:Nat->L2.St->Hp->Prop:=(λj bp H'=>∃(dn:KM.D)(vn:V)(tv rv ov:Option V)(i:Int),bp=[some (.ref a),some (.ref p),some (.ref c),some (.ref b),some v,some (.ref en),some vn,tv,rv,ov,none]/\Go K a p c b en T1 T2 ns H' B aF k d dn v vn oe i/\i<=Z+1+j);refine jz m.toNat FK ?_ ?_ ?_;·exact⟨d,v,none,none,none,Z+1,rfl,G8,by omega⟩
 ·rintro j bp H9 hj⟨dn,vn,tv,rv,ov,i,rfl,G,hi⟩;refine⟨hj,?_⟩;rintro x' H9'⟨rfl,rfl⟩;have tdn:=G.rc.td;have dpn:=tdn.dp;have knn:=tdn.kn;have i0:=G.g.T.i0;refine⟨_,rfl,_,rfl,dn,vn,b,aF,rfl,G.rn,⟨tdn.wf,by omega,d4 _⟩,by omega,by decide,G.bs.hb,λpr us Pd hpr uV h10 rr=>?_⟩;have G10:=G.mono uV;have npr:pr≠p:=λz=>by have :=G.g.T.fK;rw[<-z,hpr]at this;cases this
  have X3:=rr.length;rw[c_]at X3;refine⟨_,rfl,(dw rfl),λq0 e0=>⟨pr,q0,us,rfl,rfl,bN.of (ar e0 (.lst []) _ _ h10),bN.of aq,_,rfl,?_⟩⟩;have D:=ar e0 (.lst []);have h11:=D _ _ h10;have aaw:=rr.mono D;have R:=G10.mono D;generalize upd Pd q0 (.lst [])=H11 at D h11 aaw R⊢;refine aV (λL=>?_) (λL=>?_);·have L:us=[]:=of_decide_eq_true L;have nf:cq (eU aF) dn=none:=PZ (List.length_eq_zero_iff.mp (by rw[<-X3,L];rfl));obtain⟨⟨ue,Y,re⟩,_⟩:=R.el;refine⟨_,rfl,(dw rfl),λq1 e1=>⟨en,q1,ue,rfl,rfl,bN.of (ar e1 (.lst []) _ _ Y),bN.of aq,_,rfl,aV (λ_=>q _) (λc2=>?_)⟩⟩;have I:=ar e1 (.lst []);have aan:=I _ _ Y;have VC:=re.mono I;have l:=R.mono I;generalize upd H11 q1 (.lst [])=H12 at aan VC l⊢;cases oe with|none=>refine absurd (decide_eq_true ?_) c2;exact(show ue=[]from VC)|some d'=>obtain rfl:=both H12 dn vn i l nf d' rfl;refine⟨_,rfl,_,rfl,(dw rfl),λq2 e2=>?_⟩;have t13:=ar e2 (.lst [vn]);exact BA tdn (t13 _ _ aan) (VC.mono t13) aq ⟨vn,[],rfl,l.rn.mono t13,rfl⟩ (q _)
  ·have L:us≠[]:=of_decide_eq_false (Bool.eq_false_iff.mpr L);have acj:0<us.length:=List.length_pos_iff.mpr L;refine⟨_,rfl,_,rfl,_,rfl,_,rfl,a,p,ns,i,1000,rfl,R.g.T,(by omega),(by decide),λz H12 bR zz1 x12 h12=>?_⟩;have l:=R.next x12 h12 (by omega);have Zd:=x12 _ _ npr h11;have abP:=aaw.ja x12 (dD R.g.T.fK);have lI:(0:Int)<((us.length:Nat):Int):=by omega
   have em0:=Int.emod_nonneg z (show((us.length:Nat):Int)≠0 by omega);have em1:=Int.emod_lt_of_pos z lI;obtain⟨n,hn⟩:∃n:Nat,z%((us.length:Nat):Int)=(n:Int):=⟨(z%((us.length:Nat):Int)).toNat,by omega⟩;have hnl:n<(uR (eU aF) dn).length:=by omega
   obtain⟨rw,hrw⟩:∃rw,(uR (eU aF) dn)[n]?=some rw:=⟨_,e8 hnl⟩;obtain⟨u,hu',ru⟩:=abP.get (i:=n) (d:=Mh rw) (by rw[nY,hrw];rfl);obtain⟨bq,_,rfl,RL,⟨pw,_,rfl,rpw,⟨yw,_,rfl,⟨rfl,OJ⟩,rnn⟩⟩⟩:=ru;cases(show _=[]from rnn);obtain⟨e,hg,hre⟩:=LZ (nP hrw);obtain⟨ok,nx⟩:=G.rc.step G.bs.bb hg hre;refine⟨_,rfl,pr,us,rfl, .inl (bN.of Zd),_,_,rfl,rfl,lI,pr,us,_, .ref bq,rfl,rfl,bN.of Zd,by rw[hn];exact aO hu',bq,_,_,pw,rfl,rfl,bS.of RL,rfl,_,rfl,?_⟩;refine⟨B,dn,(pT B e rw.2).1,vn,pw,uS rw.1,b,aF,rw.2,(pT B e rw.2).2,rfl,l.rn,by rw[Ga];exact rpw,l.bs.hb,l.bs.br,ok,l.bs.tb,λT H13 DO aaZ ro=>?_,λH13 DO _=>⟨_,rfl,λa1 DQ=>⟨true,X.x0,pR (q H13)⟩⟩⟩;have r:=nx aaZ;have ro:Rep H13 (M4 B dn (uS rw.1) e rw.2) T:=ro;generalize M4 B dn (uS rw.1) e rw.2=dq at r ro;have tdo:=r.td;have dpo:=tdo.dp;have kno:=tdo.kn;have U:=l.mono DO;have wd:=G.r0.td;have dpd:=wd.dp;have knd:=wd.kn;have no_:∀b:Bool,(!decide (V.bl b=V.bl b))=false:=λb=>by rw[decide_eq_true rfl];rfl
   refine⟨_,rfl,d,v,k,rfl,U.rd,G.r0.wf,G.r0.ng,by omega,by omega,λH14 So=>⟨_,rfl,_,T,k,rfl,ro.mono So,r.wf,r.ng,by omega,by omega,λH15 Zy=>⟨rfl,_,rfl,?_⟩⟩⟩;rw[no_];refine Dm ?_;have Zy:=So.trans Zy;refine⟨_,rfl,d,v,k,rfl,U.rd.mono Zy,G.r0.wf,G.r0.ng,by omega,by omega,λH16 s16=>⟨_,rfl,_,T,k,rfl,ro.mono (Zy.trans s16),r.wf,r.ng,by omega,by omega,λH17 N=>⟨rfl,_,rfl,?_⟩⟩⟩;rw[no_];refine Dm ?_;have N:=Zy.trans (s16.trans N);have fin:∀S:Hp,aL H17 S->∃(dn:KM.D)(vn:V)(tv rv ov:Option V)(i:Int),[some (.ref a),some (.ref p),some (.ref c),some (.ref b),some v,some (.ref en),some T,some (V.int (0+(j:Nat))),some (.ref pr),some T,none]=[some (.ref a),some (.ref p),some (.ref c),some (.ref b),some v,some (.ref en),some vn,tv,rv,ov,none]/\Go K a p c b en T1 T2 ns S B aF k d dn v vn oe i/\i<=Z+1+(j+1:Nat):=λS O=>by have J:=U.mono (N.trans O);exact⟨_,T,_,_,_,i+1,rfl,⟨J.rd,ro.mono (N.trans O),J.r0,r,J.el,J.np,J.bs,J.bc,J.g⟩,by omega⟩
   refine⟨_,rfl,d,v,k,rfl,U.rd.mono N,G.r0.wf,G.r0.ng,by omega,by omega,λS O=>⟨_,rfl,?_⟩⟩;refine aV (λck=>?_) (λ_=>?_)
   ·have hk:k=true:=by cases k<;>first|rfl|exact absurd ck (by decide)
    have hhd:=r.hd hk;have rdd:=(U.rd.mono N).mono O;have roo:=ro.mono (N.trans O);obtain⟨x1',ps1,k1,e1',_,_⟩:=d7 ⟨k,r.wf⟩;obtain⟨x2',ps2,k2,e2',_,_⟩:=d7 ⟨k,G.r0.wf⟩;rw[e1',e2']at hhd;cases(show x1'=x2' from hhd);rw[e1']at roo;rw[e2']at rdd;obtain⟨a1,_,rfl,DQ,w0,_,rfl,⟨rfl,_⟩,_⟩:=id roo;obtain⟨a2,_,rfl,ha2,w0',_,rfl,⟨rfl,_⟩,_⟩:=id rdd;refine⟨_,rfl,a1,_,_,_,rfl,rfl,bS.of DQ,aO (j:=0) rfl,_,rfl,a2,_,_,_,rfl,rfl,bS.of ha2,aO (j:=0) rfl,rfl,_,rfl,?_⟩;refine aV (λc9=>?_) (λ_=>⟨_,rfl,fin S O⟩);refine absurd c9 ?_;show¬(!decide (V.str x1'=V.str x1'))=true;rw[decide_eq_true rfl];decide
   ·exact⟨_,rfl,fin S O⟩
 ·rintro bp H9⟨dn,vn,tv,rv,ov,i,rfl,G,hi⟩;refine⟨bJ _,?_⟩;refine⟨_,rfl,_,rfl,B,dn,vn,b,aF,rfl,G.rn,G.rc.td,G.bs,λla ol Pd uV hla Li=>?_⟩;have G10:=G.mono uV;obtain⟨⟨ue,Y,re⟩,ee⟩:=G10.el;obtain⟨⟨ul,hl,rl⟩,el⟩:=Li;refine⟨_,rfl,(dw rfl),λq1 e1=>⟨en,q1,ue,rfl,rfl,bN.of (ar e1 (.lst []) _ _ Y),bN.of aq,_,rfl,aV (λ_=>q _) (λc2=>?_)⟩⟩;have D:=ar e1 (.lst []);have Yz:=D _ _ Y;have VQ:=re.mono D;have V3:=D _ _ hl;have UD:=rl.mono D;generalize upd Pd q1 (.lst [])=H11 at Yz VQ V3 UD⊢;refine⟨_,rfl,(dw rfl),λq2 e2=>⟨la,q2,ul,rfl,rfl,bN.of (ar e2 (.lst []) _ _ V3),bN.of aq,_,rfl,aV (λ_=>q _) (λc3=>?_)⟩⟩;have I:=ar e2 (.lst []);refine⟨_,rfl,_,rfl,?_⟩;cases oe with|none=>exact absurd (decide_eq_true (show ue=[]from VQ)) c2|some d1=>cases ol with|none=>exact absurd (decide_eq_true (show ul=[]from UD)) c3|some d2=>obtain⟨a1,a2,a3⟩:=ee d1 rfl;obtain⟨b1,b2,b3⟩:=el d2 rfl;obtain rfl:=HH bc a1 (G.rc.way.app b1) a2 b2 a3.wf b3.wf;exact BA a3 (I _ _ Yz) (VQ.mono I) (I _ _ V3) (UD.mono I) (q _)
end K25
end
section
namespace K25
open PySem L2 L3 KM
structure Txt(K:PySem.W.Frag)(mg:Str->Option Value)(t:ve):Prop where
 M:Mg mg t
 C8:Df K mg "is_number" gP ["value"]
 JO:Df K mg "is_name" g7 ["value"]
 yG:Df K mg "begins_due" fQ ["value","due"]
 CP:Df K mg "is_shaped" d8 ["value","due"]
 Jv:Df K mg "is_vast" g6 ["value"]
 ES:Df K mg "is_thing" iV ["value","due"]
 JQ:Df K mg "is_term" j7 ["thing"]
 J9:Df K mg "is_kind" jW ["thing"]
 Jr:Df K mg "kids_of" j3 ["thing"]
 Fe:Df K mg "binds_of" f9 ["thing"]
 sk:Df K mg "top_variable" cN ["thing"]
 Ji:Df K mg "bounded" jQ ["thing"]
 JL:Df K mg "rebuilt" jR ["thing","kids"]
 Lk:Df K mg "kid_at" lG ["thing","number"]
 Fm:Df K mg "at_place" iz ["thing","place"]
 yW:Df K mg "changed_at" eG ["thing","place","new"]
 IV:Df K mg "with_at" j6 ["thing","place","new"]
 ow:Df K mg "with_free" d_ ["thing","binders","change"]
 K0:Df K mg "raised" jM ["thing","by","low"]
 Oe:Df K mg "put_in" jm ["thing","other","at"]
 IB:Df K mg "rule_of" jZ ["thing","book"]
 AU:Df K mg "after_next" fJ ["thing"]
 zR:Df K mg "after_rule" fR ["thing","rule","book"]
 IX:Df K mg "stepped" j1 ["thing","place","book"]
 Fg:Df K mg "steps_of" eP ["thing","book"]
 Am:Df K mg "first_step" eI ["thing","book"]
 NS:Df K mg "normal" ma ["thing","fuel","book"]
 EA:Df K mg "_law_draw" iN FC
 Cd:Df K mg "_law_named" gB ["_law_word"]
 Fi:Df K mg "_law_pool" eT ["_law_script","_law_tape"]
 Ep:Df K mg "_law_leaf" iR ["_law_script","_law_tape","_law_near","_law_pool_here"]
 DT:Df K mg "_law_kind" gp eA
 JU:Df K mg "_law_fun" iu eA
 DW:Df K mg "_law_pair" gk eA
 Ey:Df K mg "_law_like" gs eA
 xS:Df K mg "_law_number" eK eA
 Ap:Df K mg "_law_parted" eJ IG
 BG:Df K mg "_law_still" fe IG
 FI:Df K mg "_law_term" gq eA
 Fy:Df K mg "_law_kids" iX ["_law_thing_here"]
 sR:Df K mg "_law_measured" du ["_law_thing_here"]
 Du:Df K mg "_law_great" gC ["_law_thing_here"]
 Bl:Df K mg "_law_thing" gF eA
 EM:Df K mg "_law_book" iE ["_law_script","_law_tape","_law_pool_here"]
 Jm:Df K mg "_law_end" jU ["_law_thing_here","_law_book_here"]
 aav:Df K mg "law" Gi ["_law_script"]
 AZ:qC K t.kM [.str "nat", .str "none", .str "all", .str "some", .str "same"]
 FG:∃as,KD K t.gm [("nat",[]),("none",[]),("all",[.str "kind", .str "kind"]),("some",[.str "kind", .str "kind"]),("same",[.str "kind", .str "term", .str "term"]),("var",[]),("fun",[.str "kind", .str "term"]),("app",[.str "term", .str "term"]),("zero",[]),("next",[.str "term"]),("rec",[.str "kind", .str "term", .str "term", .str "term"]),("like",[.str "kind", .str "term"]),("carry",[.str "kind", .str "term", .str "term"]),("never",[.str "kind", .str "term"]),("pair",[.str "kind", .str "term", .str "term"]),("first",[.str "term"]),("second",[.str "term"]),("name",[])] as
 vc:gV K t.jn [("all", .int 1),("some", .int 1),("fun", .int 1),("rec", .int 0),("carry", .int 0)]
 OT:Rul K t.H_
 X:Ek K t
theorem txt_mk{K:PySem.W.Frag}{h:Heap}{mg:Str->Option Value}(X:K.In h)(G:h.Ns mainGlobals mg){vj:Tok}{yN:Tok}{nj:Tok}{qa:Tok}{DV:Tok}{u:Addr}{vm:Option Addr}{kB:Array Value}{vh:Nat}{vy:Array (Option Value)}{p:Addr}{r:Array DictEntry}{CI:Nat}{x H I J L M N O P Q y z A B C D E F:Addr}{z3:Option Addr}{lu:Array Value}{zq:Nat}{xK:Array (Option Value)}{xo:Option Addr}{mK:Array Value}{xw:Nat}{Ai:Array (Option Value)}{AA:Option Addr}{lF:Array Value}{xD:Nat}{xf:Array (Option Value)}{zY:Option Addr}{mV:Array Value}{AN:Nat}{zz:Array (Option Value)}{xg:Option Addr}{Z:Array Value}{A1:Nat}{xk:Array (Option Value)}{xl:Option Addr}{Y:Array Value}{Ax:Nat}{xc:Array (Option Value)}{Ak:Option Addr}{W:Array Value}{zM:Nat}{xv:Array (Option Value)}{yP:Option Addr}{V:Array Value}{yK:Nat}{yr:Array (Option Value)}{Co:Option Addr}{oQ:Array Value}{Dx:Nat}{Dc:Array (Option Value)}{Ce:Option Addr}{om:Array Value}{BV:Nat}{B9:Array (Option Value)}{DE:Option Addr}{pq:Array Value}{Bj:Nat}{C7:Array (Option Value)}{B7:Option Addr}{o9:Array Value}{Cq:Nat}{BC:Array (Option Value)}{C6:Option Addr}{oW:Array Value}{Bz:Nat}{Bm:Array (Option Value)}{Cw:Option Addr}{pG:Array Value}{Dg:Nat}{B1:Array (Option Value)}{C3:Option Addr}{ox:Array Value}{Dq:Nat}{CG:Array (Option Value)}{BQ:Option Addr}{pJ:Array Value}{DG:Nat}{BU:Array (Option Value)}{Bd:Option Addr}{pM:Array Value}{Cc:Nat}{CY:Array (Option Value)}{Bo:Option Addr}{T:Array Value}{BS:Nat}{BD:Array (Option Value)}{o:Addr}{R:Array DictEntry}{uB:Nat}{q:Addr}{s:Array DictEntry}{Kt:Nat}{d g j l n:Addr}{c:Addr}{MO:Option Addr}{U:Array Value}{Ox:Nat}{LU:Array (Option Value)}{Er:Option Addr}{S:Array Value}{Eg:Nat}{FH:Array (Option Value)}{e f:Addr}{K7:Option Addr}{BB:Array Value}{Mp:Nat}{LC:Array (Option Value)}{Fn:Option Addr}{tI:Array Value}{EW:Nat}{Fz:Array (Option Value)}{Ef:Option Addr}{tQ:Array Value}{Ew:Nat}{En:Array (Option Value)}{i:Addr}{KQ:Option Addr}{CZ:Array Value}{Nv:Nat}{Ng:Array (Option Value)}{Eo:Option Addr}{tD:Array Value}{DZ:Nat}{E2:Array (Option Value)}{k:Addr}{NW:Option Addr}{BI:Array Value}{L_:Nat}{Np:Array (Option Value)}{ED:Option Addr}{sG:Array Value}{EX:Nat}{EF:Array (Option Value)}{m:Addr}{MK:Option Addr}{CT:Array Value}{L6:Nat}{Nr:Array (Option Value)}{EN:Option Addr}{tH:Array Value}{DS:Nat}{FA:Array (Option Value)}{b:Addr}{v:Addr}{w:Addr}{a:Addr}(a0:cg K "is_number" gP)(a1:cg K "is_name" g7)(a2:cg K "begins_due" fQ)(a3:cg K "is_shaped" d8)(a4:cg K "is_vast" g6)(a5:cg K "is_thing" iV)(a6:cg K "is_term" j7)(a7:cg K "is_kind" jW)(a8:cg K "kids_of" j3)(a9:cg K "binds_of" f9)(a10:cg K "top_variable" cN)(a11:cg K "bounded" jQ)(a12:cg K "rebuilt" jR)(a13:cg K "kid_at" lG)(a14:cg K "at_place" iz)(a15:cg K "changed_at" eG)(a16:cg K "with_at" j6)(a17:cg K "with_free" d_)(a18:cg K "raised" jM)(a19:cg K "put_in" jm)(a20:cg K "rule_of" jZ)(a21:cg K "after_next" fJ)(a22:cg K "after_rule" fR)(a23:cg K "stepped" j1)(a24:cg K "steps_of" eP)(a25:cg K "first_step" eI)(a26:cg K "normal" ma)(a27:cg K "_law_draw" iN)(a28:cg K "_law_named" gB)(a29:cg K "_law_pool" eT)(a30:cg K "_law_leaf" iR)(a31:cg K "_law_kind" gp)(a32:cg K "_law_fun" iu)(a33:cg K "_law_pair" gk)(a34:cg K "_law_like" gs)(a35:cg K "_law_number" eK)(a36:cg K "_law_parted" eJ)(a37:cg K "_law_still" fe)(a38:cg K "_law_term" gq)(a39:cg K "_law_kids" iX)(a40:cg K "_law_measured" du)(a41:cg K "_law_great" gC)(a42:cg K "_law_thing" gF)(a43:cg K "_law_book" iE)(a44:cg K "_law_end" jU)(a45:cg K "law" Gi)(z_all:PySem.W.nsIn K mainGlobals "all"=some none)(z_bool:PySem.W.nsIn K mainGlobals "bool"=some none)(z_enumerate:PySem.W.nsIn K mainGlobals "enumerate"=some none)(z_int:PySem.W.nsIn K mainGlobals "int"=some none)(z_isinstance:PySem.W.nsIn K mainGlobals "isinstance"=some none)(z_len:PySem.W.nsIn K mainGlobals "len"=some none)(z_list:PySem.W.nsIn K mainGlobals "list"=some none)(z_max:PySem.W.nsIn K mainGlobals "max"=some none)(z_min:PySem.W.nsIn K mainGlobals "min"=some none)(z_range:PySem.W.nsIn K mainGlobals "range"=some none)(z_str:PySem.W.nsIn K mainGlobals "str"=some none)(z_tuple:PySem.W.nsIn K mainGlobals "tuple"=some none)(z_zip:PySem.W.nsIn K mainGlobals "zip"=some none)(g_MOST_KNOTS:PySem.W.nsIn K mainGlobals "MOST_KNOTS"=some (some (.int 600 vj)))(g_MOST_DEEP:PySem.W.nsIn K mainGlobals "MOST_DEEP"=some (some (.int 40 yN)))(g_MOST_VARIABLE:PySem.W.nsIn K mainGlobals "MOST_VARIABLE"=some (some (.int 99 nj)))(g_MOST_LETTERS:PySem.W.nsIn K mainGlobals "MOST_LETTERS"=some (some (.int 12 qa)))(g_LETTERS:PySem.W.nsIn K mainGlobals "LETTERS"=some (some (.str "abcdefghijklmnopqrstuvwxyz" DV)))(g_KIND_WORDS:PySem.W.nsIn K mainGlobals "KIND_WORDS"=some (some (.ref u)))(lk_KIND_WORDS:K.lookup u=some ⟨.type "tuple",vm, .seq kB vh,vy⟩)(vs_KIND_WORDS:bW [.str "nat", .str "none", .str "all", .str "some", .str "same"] kB=true)(g_KIDS_DUE:PySem.W.nsIn K mainGlobals "KIDS_DUE"=some (some (.ref p)))(lk_KIDS_DUE:K.lookup p=some ⟨.type "dict",none, .dict r CI,#[]⟩)(sy_KIDS_DUE:(p==sysModules)=false)(ks_KIDS_DUE:fP r.toList ["nat","none","all","some","same","var","fun","app","zero","next","rec","like","carry","never","pair","first","second","name"]=true)(rf_KIDS_DUE:refsOf r.toList=[x,H,I,J,L,M,N,O,P,Q,y,z,A,B,C,D,E,F])(u0_KIDS_DUE:K.lookup x=some ⟨.type "tuple",Bo, .seq T BS,BD⟩)(v0_KIDS_DUE:bW [] T=true)(u1_KIDS_DUE:K.lookup H=some ⟨.type "tuple",Bd, .seq pM Cc,CY⟩)(v1_KIDS_DUE:bW [] pM=true)(u2_KIDS_DUE:K.lookup I=some ⟨.type "tuple",BQ, .seq pJ DG,BU⟩)(v2_KIDS_DUE:bW [.str "kind", .str "kind"] pJ=true)(u3_KIDS_DUE:K.lookup J=some ⟨.type "tuple",C3, .seq ox Dq,CG⟩)(v3_KIDS_DUE:bW [.str "kind", .str "kind"] ox=true)(u4_KIDS_DUE:K.lookup L=some ⟨.type "tuple",Cw, .seq pG Dg,B1⟩)(v4_KIDS_DUE:bW [.str "kind", .str "term", .str "term"] pG=true)(u5_KIDS_DUE:K.lookup M=some ⟨.type "tuple",C6, .seq oW Bz,Bm⟩)(v5_KIDS_DUE:bW [] oW=true)(u6_KIDS_DUE:K.lookup N=some ⟨.type "tuple",B7, .seq o9 Cq,BC⟩)(v6_KIDS_DUE:bW [.str "kind", .str "term"] o9=true)(u7_KIDS_DUE:K.lookup O=some ⟨.type "tuple",DE, .seq pq Bj,C7⟩)(v7_KIDS_DUE:bW [.str "term", .str "term"] pq=true)(u8_KIDS_DUE:K.lookup P=some ⟨.type "tuple",Ce, .seq om BV,B9⟩)(v8_KIDS_DUE:bW [] om=true)(u9_KIDS_DUE:K.lookup Q=some ⟨.type "tuple",Co, .seq oQ Dx,Dc⟩)(v9_KIDS_DUE:bW [.str "term"] oQ=true)(u10_KIDS_DUE:K.lookup y=some ⟨.type "tuple",yP, .seq V yK,yr⟩)(v10_KIDS_DUE:bW [.str "kind", .str "term", .str "term", .str "term"] V=true)(u11_KIDS_DUE:K.lookup z=some ⟨.type "tuple",Ak, .seq W zM,xv⟩)(v11_KIDS_DUE:bW [.str "kind", .str "term"] W=true)(u12_KIDS_DUE:K.lookup A=some ⟨.type "tuple",xl, .seq Y Ax,xc⟩)(v12_KIDS_DUE:bW [.str "kind", .str "term", .str "term"] Y=true)(u13_KIDS_DUE:K.lookup B=some ⟨.type "tuple",xg, .seq Z A1,xk⟩)(v13_KIDS_DUE:bW [.str "kind", .str "term"] Z=true)(u14_KIDS_DUE:K.lookup C=some ⟨.type "tuple",zY, .seq mV AN,zz⟩)(v14_KIDS_DUE:bW [.str "kind", .str "term", .str "term"] mV=true)(u15_KIDS_DUE:K.lookup D=some ⟨.type "tuple",AA, .seq lF xD,xf⟩)(v15_KIDS_DUE:bW [.str "term"] lF=true)(u16_KIDS_DUE:K.lookup E=some ⟨.type "tuple",xo, .seq mK xw,Ai⟩)(v16_KIDS_DUE:bW [.str "term"] mK=true)(u17_KIDS_DUE:K.lookup F=some ⟨.type "tuple",z3, .seq lu zq,xK⟩)(v17_KIDS_DUE:bW [] lu=true)(g_BINDER_OVER:PySem.W.nsIn K mainGlobals "BINDER_OVER"=some (some (.ref o)))(lk_BINDER_OVER:K.lookup o=some ⟨.type "dict",none, .dict R uB,#[]⟩)(sy_BINDER_OVER:(o==sysModules)=false)(vs_BINDER_OVER:iS R.toList [("all",1),("some",1),("fun",1),("rec",0),("carry",0)]=true)(g_RULES:PySem.W.nsIn K mainGlobals "RULES"=some (some (.ref q)))(lk_RULES:K.lookup q=some ⟨.type "dict",none, .dict s Kt,#[]⟩)(sy_RULES:(q==sysModules)=false)(ks_RULES:fP s.toList ["app","rec","carry","first","second"]=true)(rf_RULES:refsOf s.toList=[d,g,j,l,n])(u0_RULES:K.lookup d=some ⟨.type "tuple",MO, .seq U Ox,LU⟩)(v0_RULES:U.toList=[Value.ref c])(u0_0_RULES:K.lookup c=some ⟨.type "tuple",Er, .seq S Eg,FH⟩)(v0_0_RULES:bW [.int 1, .str "fun", .str "fun"] S=true)(u1_RULES:K.lookup g=some ⟨.type "tuple",K7, .seq BB Mp,LC⟩)(v1_RULES:BB.toList=[Value.ref e,Value.ref f])(u1_0_RULES:K.lookup e=some ⟨.type "tuple",Fn, .seq tI EW,Fz⟩)(v1_0_RULES:bW [.int 4, .str "zero", .str "zero"] tI=true)(u1_1_RULES:K.lookup f=some ⟨.type "tuple",Ef, .seq tQ Ew,En⟩)(v1_1_RULES:bW [.int 4, .str "next", .str "next"] tQ=true)(u2_RULES:K.lookup j=some ⟨.type "tuple",KQ, .seq CZ Nv,Ng⟩)(v2_RULES:CZ.toList=[Value.ref i])(u2_0_RULES:K.lookup i=some ⟨.type "tuple",Eo, .seq tD DZ,E2⟩)(v2_0_RULES:bW [.int 3, .str "like", .str "like"] tD=true)(u3_RULES:K.lookup l=some ⟨.type "tuple",NW, .seq BI L_,Np⟩)(v3_RULES:BI.toList=[Value.ref k])(u3_0_RULES:K.lookup k=some ⟨.type "tuple",ED, .seq sG EX,EF⟩)(v3_0_RULES:bW [.int 1, .str "pair", .str "first"] sG=true)(u4_RULES:K.lookup n=some ⟨.type "tuple",MK, .seq CT L6,Nr⟩)(v4_RULES:CT.toList=[Value.ref m])(u4_0_RULES:K.lookup m=some ⟨.type "tuple",EN, .seq tH DS,FA⟩)(v4_0_RULES:bW [.int 1, .str "pair", .str "second"] tH=true)(g_Great:PySem.W.nsIn K mainGlobals "Great"=some (some (.ref b)))(g_NoPlace:PySem.W.nsIn K mainGlobals "NoPlace"=some (some (.ref v)))(g_NoStep:PySem.W.nsIn K mainGlobals "NoStep"=some (some (.ref w)))(g_Dry:PySem.W.nsIn K mainGlobals "Dry"=some (some (.ref a)))(x_e0:PySem.W.excIn K b [.type "ValueError", .type "Exception", .type "BaseException", .type "object"] "ValueError.__new__"=true)(x_e1:PySem.W.excIn K v [.type "ValueError", .type "Exception", .type "BaseException", .type "object"] "ValueError.__new__"=true)(x_e2:PySem.W.excIn K w [.type "ValueError", .type "Exception", .type "BaseException", .type "object"] "ValueError.__new__"=true)(x_e4:PySem.W.excIn K a [.type "ValueError", .type "Exception", .type "BaseException", .type "object"] "ValueError.__new__"=true)(x_x0:PySem.W.subIn K (.ref b) (.ref b)=some true)(x_x1:PySem.W.subIn K (.ref b) (.ref a)=some false)(x_x2:PySem.W.subIn K (.ref a) (.ref a)=some true):∃t,Txt K mg t:=⟨⟨(),u,p,o,q,b,v,w,a⟩,⟨⟨PySem.W.mg_none_of X G z_all,PySem.W.mg_none_of X G z_bool,PySem.W.mg_none_of X G z_enumerate,PySem.W.mg_none_of X G z_int,PySem.W.mg_none_of X G z_isinstance,PySem.W.mg_none_of X G z_len,PySem.W.mg_none_of X G z_list,PySem.W.mg_none_of X G z_max,PySem.W.mg_none_of X G z_min,PySem.W.mg_none_of X G z_range,PySem.W.mg_none_of X G z_str,PySem.W.mg_none_of X G z_tuple,PySem.W.mg_none_of X G z_zip,⟨_,PySem.W.mg_of X G g_MOST_KNOTS⟩,⟨_,PySem.W.mg_of X G g_MOST_DEEP⟩,⟨_,PySem.W.mg_of X G g_MOST_VARIABLE⟩,⟨_,PySem.W.mg_of X G g_MOST_LETTERS⟩,⟨_,PySem.W.mg_of X G g_LETTERS⟩,PySem.W.mg_of X G g_KIND_WORDS,PySem.W.mg_of X G g_KIDS_DUE,PySem.W.mg_of X G g_BINDER_OVER,PySem.W.mg_of X G g_RULES,PySem.W.mg_of X G g_Great,PySem.W.mg_of X G g_NoPlace,PySem.W.mg_of X G g_NoStep,PySem.W.mg_of X G g_Dry⟩,a0.df X G λ_ _ _ _ _ _=>kh (λ_=>rfl),a1.df X G λ_ _ _ _ _ _=>kh (λ_=>rfl),a2.df X G λ_ _ _ _ _ _=>DM (λ_ _=>rfl),a3.df X G λ_ _ _ _ _ _=>DM (λ_ _=>rfl),a4.df X G λ_ _ _ _ _ _=>kh (λ_=>rfl),a5.df X G λ_ _ _ _ _ _=>DM (λ_ _=>rfl),a6.df X G λ_ _ _ _ _ _=>kh (λ_=>rfl),a7.df X G λ_ _ _ _ _ _=>kh (λ_=>rfl),a8.df X G λ_ _ _ _ _ _=>kh (λ_=>rfl),a9.df X G λ_ _ _ _ _ _=>kh (λ_=>rfl),a10.df X G λ_ _ _ _ _ _=>kh (λ_=>rfl),a11.df X G λ_ _ _ _ _ _=>kh (λ_=>rfl),a12.df X G λ_ _ _ _ _ _=>DM (λ_ _=>rfl),a13.df X G λ_ _ _ _ _ _=>DM (λ_ _=>rfl),a14.df X G λ_ _ _ _ _ _=>DM (λ_ _=>rfl),a15.df X G λ_ _ _ _ _ _=>Nn (λ_ _ _=>rfl),a16.df X G λ_ _ _ _ _ _=>Nn (λ_ _ _=>rfl),a17.df X G λ_ _ _ _ _ _=>Nn (λ_ _ _=>rfl),a18.df X G λ_ _ _ _ _ _=>Nn (λ_ _ _=>rfl),a19.df X G λ_ _ _ _ _ _=>Nn (λ_ _ _=>rfl),a20.df X G λ_ _ _ _ _ _=>DM (λ_ _=>rfl),a21.df X G λ_ _ _ _ _ _=>kh (λ_=>rfl),a22.df X G λ_ _ _ _ _ _=>Nn (λ_ _ _=>rfl),a23.df X G λ_ _ _ _ _ _=>Nn (λ_ _ _=>rfl),a24.df X G λ_ _ _ _ _ _=>DM (λ_ _=>rfl),a25.df X G λ_ _ _ _ _ _=>DM (λ_ _=>rfl),a26.df X G λ_ _ _ _ _ _=>Nn (λ_ _ _=>rfl),a27.df X G λ_ _ _ _ _ _=>Nn (λ_ _ _=>rfl),a28.df X G λ_ _ _ _ _ _=>kh (λ_=>rfl),a29.df X G λ_ _ _ _ _ _=>DM (λ_ _=>rfl),a30.df X G λ_ _ _ _ _ _=>by4 (λ_ _ _ _=>rfl),a31.df X G λ_ _ _ _ _ _=>Rn (λ_ _ _ _ _=>rfl),a32.df X G λ_ _ _ _ _ _=>Rn (λ_ _ _ _ _=>rfl),a33.df X G λ_ _ _ _ _ _=>Rn (λ_ _ _ _ _=>rfl),a34.df X G λ_ _ _ _ _ _=>Rn (λ_ _ _ _ _=>rfl),a35.df X G λ_ _ _ _ _ _=>Rn (λ_ _ _ _ _=>rfl),a36.df X G λ_ _ _ _ _ _=>by6 (λ_ _ _ _ _ _=>rfl),a37.df X G λ_ _ _ _ _ _=>by6 (λ_ _ _ _ _ _=>rfl),a38.df X G λ_ _ _ _ _ _=>Rn (λ_ _ _ _ _=>rfl),a39.df X G λ_ _ _ _ _ _=>kh (λ_=>rfl),a40.df X G λ_ _ _ _ _ _=>kh (λ_=>rfl),a41.df X G λ_ _ _ _ _ _=>kh (λ_=>rfl),a42.df X G λ_ _ _ _ _ _=>Rn (λ_ _ _ _ _=>rfl),a43.df X G λ_ _ _ _ _ _=>Nn (λ_ _ _=>rfl),a44.df X G λ_ _ _ _ _ _=>DM (λ_ _=>rfl),a45.df X G λ_ _ _ _ _ _=>kh (λ_=>rfl),b9 lk_KIND_WORDS vs_KIND_WORDS,⟨_,Z1 sy_KIDS_DUE lk_KIDS_DUE ks_KIDS_DUE rf_KIDS_DUE rfl (cz (b9 u0_KIDS_DUE v0_KIDS_DUE) (cz (b9 u1_KIDS_DUE v1_KIDS_DUE) (cz (b9 u2_KIDS_DUE v2_KIDS_DUE) (cz (b9 u3_KIDS_DUE v3_KIDS_DUE) (cz (b9 u4_KIDS_DUE v4_KIDS_DUE) (cz (b9 u5_KIDS_DUE v5_KIDS_DUE) (cz (b9 u6_KIDS_DUE v6_KIDS_DUE) (cz (b9 u7_KIDS_DUE v7_KIDS_DUE) (cz (b9 u8_KIDS_DUE v8_KIDS_DUE) (cz (b9 u9_KIDS_DUE v9_KIDS_DUE) (cz (b9 u10_KIDS_DUE v10_KIDS_DUE) (cz (b9 u11_KIDS_DUE v11_KIDS_DUE) (cz (b9 u12_KIDS_DUE v12_KIDS_DUE) (cz (b9 u13_KIDS_DUE v13_KIDS_DUE) (cz (b9 u14_KIDS_DUE v14_KIDS_DUE) (cz (b9 u15_KIDS_DUE v15_KIDS_DUE) (cz (b9 u16_KIDS_DUE v16_KIDS_DUE) (cz (b9 u17_KIDS_DUE v17_KIDS_DUE) VO))))))))))))))))))⟩,O7 sy_BINDER_OVER lk_BINDER_OVER vs_BINDER_OVER,⟨d,g,j,l,n,c,e,f,i,k,m,Qq ["app","rec","carry","first","second"] [d,g,j,l,n] sy_RULES lk_RULES ks_RULES rf_RULES,sC [c] u0_RULES v0_RULES (by simp),b9 u0_0_RULES v0_0_RULES,sC [e,f] u1_RULES v1_RULES (by simp),b9 u1_0_RULES v1_0_RULES,b9 u1_1_RULES v1_1_RULES,sC [i] u2_RULES v2_RULES (by simp),b9 u2_0_RULES v2_0_RULES,sC [k] u3_RULES v3_RULES (by simp),b9 u3_0_RULES v3_0_RULES,sC [m] u4_RULES v4_RULES (by simp),b9 u4_0_RULES v4_0_RULES⟩,⟨⟨_,_,_,PySem.F.excBase_ValueError,x_e0⟩,⟨_,_,_,PySem.F.excBase_ValueError,x_e1⟩,⟨_,_,_,PySem.F.excBase_ValueError,x_e2⟩,⟨_,_,_,PySem.F.excBase_ValueError,x_e4⟩,x_x0,x_x1,x_x2⟩⟩⟩
theorem fin{l:PySem.W.OpenLaw}{w:World}{K:PySem.W.Frag}{mg:Str->Option Value}{t:ve}{fa c1 T1 c2 T2:Addr}{h:Heap}(KX:K.In h)(G:h.Ns mainGlobals mg)(h1:PySem.W.tabIn K "raised"=some (c1,T1))(h2:PySem.W.codeHdIn K c1 T1=true)(h3:PySem.W.tabIn K "put_in"=some (c2,T2))(h4:PySem.W.codeHdIn K c2 T2=true)(T:Txt K mg t)(y:mg "law"=some (.ref fa)):∃fd:FuncData,(∀(s:Shared)(v:Value),BindsTo s fd ⟨[v],[]⟩ [("_law_script",v)])/\∀base:Heap,m9 l.prog w K mg base bA 193 fa fd ["_law_script"] (Gg K T1 T2):=by
 obtain⟨f,fd,F,m,b⟩:=T.aav;have e:=y.symm.trans m;cases e;refine⟨fd,?_,λbase=>?_⟩;·obtain⟨oc,od,kV,doc,pm,an,cF,ct,DL,rfl,Z,Y⟩:=F.ex;exactλs v=> .of_eq rfl
 obtain⟨as,c⟩:=T.FG;have c1:=FO (P:=l.prog) (w:=w) T.EA T.M;have c2:=CA (P:=l.prog) (w:=w) T.Cd T.M;have u:=FN T.Fi T.M c1 c2;have x:=Fd T.Ep T.M c1;obtain⟨g,ct⟩:=SD T.DT T.FI T.JU T.DW T.Ey T.xS T.Ap T.BG T.M c1 x 7;have z:=EY (P:=l.prog) (w:=w) T.Fy T.M;have A:=jK T.sR T.M z 20;have B:=CS T.Du T.M A;have C:=DA T.Bl T.M c1 g ct B;have D:=D8 T.EM T.M c1 g ct;have i:=Bc (P:=l.prog) (w:=w) T.C8 T.M;have a:=JW (P:=l.prog) (w:=w) T.Jr T.M;have j:=D3 (P:=l.prog) (w:=w) T.Fe T.M c T.vc;have k:=MB T.Lk T.M T.X.e1 a i;have p5:=ER T.Fm T.M k;have S:=jB T.sk T.M a 100;have q:=Jy (P:=l.prog) (w:=w) T.Jv T.M;have r:=JC T.Ji T.M T.X.e0 q S;have d:=JP (P:=l.prog) (w:=w) T.JL T.M;have H:=mM T.yW T.M k a d 100;have I:=JT (n:=100) T.IV T.M (by decide) H r;have U:=jC (kc:=1) T.ow T.M a j d 58;have V:=M8 (N2 T.K0 KX G h1 h2) T.M U;have W:=jC (kc:=64) T.ow T.M a j d 58;have X:=MU (N2 T.Oe KX G h3 h4) T.M V W r;have s1:=Jp (P:=l.prog) (w:=w) T.IB T.M T.OT;have J:=yZ (P:=l.prog) (w:=w) T.AU T.M;have s2:=xV T.zR T.M X J;have o:=JK T.IX T.M T.X.e2 p5 s1 I s2;have L:=k6 T.Am T.M s1 a 60;have M:=Ku T.NS T.M T.X.e4 L o;have N:=uD T.Fg T.M s1 a 60;have x1:=Ju (P:=l.prog) (w:=w) T.JO T.M c;have x2:=Ao (P:=l.prog) (w:=w) T.yG T.M c T.AZ;have O:=pN T.CP T.M c x2 i x1 60;have p:=EK T.ES T.M q O;have Q:=JN T.JQ p;have R:=Jt T.J9 p;have E:=Ir T.Jm T.M T.X M;exact Xs F T.M T.X c1 u D C E N o Q R
theorem walk{l:PySem.W.OpenLaw}{q:Program}{loose:List Str}{XP:(Str->Option Value)->Heap->Prop}{YP:World->Heap->Prop}{d:DefRec}{K:Params->PySem.W.Frag}{c1 T1 c2 T2:Addr}(hn:l.most=some 63)(i:d.params.defaults=[])(g:∀(w:World)(h:Heap),YP w h->(K w.params).In h)(h2:∀w:World,PySem.W.codeHdIn (K w.params) c1 T1=true)(h3:∀w:World,(K w.params).lookup T1=none)(h4:∀(w:World)(h:Heap),YP w h->h.get? T1=some (PySem.W.tabObj #[]))(h5:∀w:World,PySem.W.codeHdIn (K w.params) c2 T2=true)(h6:∀w:World,(K w.params).lookup T2=none)(c:∀(w:World)(h:Heap),YP w h->h.get? T2=some (PySem.W.tabObj #[]))(j:T1≠T2)(F:∀(w:World)(mg:Str->Option Value)(fa:Addr)(h:Heap),(K w.params).In h->h.Ns mainGlobals mg->mg d.name=some (.ref fa)->∃fd:FuncData,(∀(s:Shared)(u:Value),BindsTo s fd ⟨[u],[]⟩ [("_law_script",u)])/\∀base:Heap,m9 l.prog w (K w.params) mg base bA 193 fa fd ["_law_script"] (Gg (K w.params) T1 T2)):PySem.W.WalkO q loose XP YP l.row.toRowW d [] (λf vs=>PySem.call f vs):=by
 refine NZ (ts:=[(c1,T1, .tab De (rawInt B4.line) (rawInt B4.col)),(c2,T2, .tab wV (rawInt vN.line) (rawInt vN.col))]) (n:=63) (k:=193) (x:="_law_script") (sp:=λw=>Gg (K w.params) T1 T2) hn (by decide) i ⟨by decide,by decide,λ_=>rfl⟩ g (λw h Y=>⟨λq hq=>?_,λq hq=>?_,λq hq=>?_,λq hq=>?_⟩) F λw H a ns hl b e=>⟨a,ns,rfl,e,hl,⟨b (c1,T1, .tab De (rawInt B4.line) (rawInt B4.col)) (by simp) (by simp[List.lookup]),b (c2,T2, .tab wV (rawInt vN.line) (rawInt vN.col)) (by simp) ?_⟩,λ_=>rfl⟩
 ·rcases List.mem_cons.mp hq with rfl|hq;·exact h4 w h Y
  ·obtain rfl:=List.mem_singleton.mp hq;exact c w h Y
 ·rcases List.mem_cons.mp hq with rfl|hq;·exact h2 w
  ·obtain rfl:=List.mem_singleton.mp hq;exact h5 w
 ·rcases List.mem_cons.mp hq with rfl|hq;·exact h3 w
  ·obtain rfl:=List.mem_singleton.mp hq;exact h6 w
 ·rcases List.mem_cons.mp hq with rfl|hq;·exact⟨_,_,_,rfl⟩
  ·obtain rfl:=List.mem_singleton.mp hq;exact⟨_,_,_,rfl⟩
 ·have :(T2==T1)=false:=by simpa usingλz:T2=T1=>j z.symm
  simp[List.lookup,this]
end K25
end
section
namespace HD
open PySem PySem.W PySem.Calls PyProof.Rows
noncomputable def y0{a:Type}:List a->List a×List a|[]=>([],[])|x::r=>(x::(y0 r).2,(y0 r).1)
noncomputable def VW:Nat->List Obj->BT|0,_=> .nil|_+1,[]=> .nil|n+1,x::r=> .node x (VW n (y0 r).1) (VW n (y0 r).2)
noncomputable def mkT(l:List Obj):BT:=VW 14 l
noncomputable def i(n:Nat):Value:= .int (.ofNat n) 0
noncomputable def view(p:Program)(l:List Stmt):Program:={p with main:={p.main with body:=l}}
noncomputable abbrev kW(a:Type):Type:=World->(OsState->a)×(OsState->a)
def Ok{a:Type}(q:kW a):Prop:=∀w,(q w).1=(q w).2
theorem kh{b:Type}{q a:kW b}(e:q=a)(h:∀w,(a w).1=(a w).2):Ok q:=by subst e;exact h
theorem DM{e:Type}{q a b:kW e}(r:String)(c:(λw=>q (w.withFollow r false))=a)(d:(λw=>q (w.withFollow r true))=b)(hf:∀w,(a w).1=(a w).2)(ht:∀w,(b w).1=(b w).2):Ok q:=by subst c d;exactλw=>byRow2 r (P:=λw=>(q w).1=(q w).2) hf ht w
section
variable(p:Program)(m:Nat)(ann:Option Value)
noncomputable def pre(n:Nat)(S a:World->OsState->Shared)(t t':Thread):kW (Option (Shared×Thread)):=λw=>(λos=>topGo treeTable p w m ann n (S w os) t,λos=>some (a w os,t'))
noncomputable def blk(n:Nat)(S:World->OsState->Shared)(a:World->OsState->SharedT)(b:List Stmt)(env:Env)(c:Code)(d e:Pos)(B:List Frame):kW (Option (Flow×Shared×Code×Pos)):=λw=>(λos=>segRun treeTable p w m ann 1 n (S w os) (blockOf b env c d B),λos=>some (Flow.next,(a w os).abs,c,e))
noncomputable def seg(n:Nat)(S a:World->OsState->SharedT)(l:List Stmt)(env:Env)(c:Code)(b d:Pos)(B:List Frame):kW (Option (Flow×SharedT×Code×Pos)):=λw=>(λos=>segRunT treeTable p w m ann 1 n (S w os) (piecesOf l env c b B),λos=>some (Flow.next,a w os,c,d))
noncomputable def fin(n:Nat)(S:World->OsState->SharedT)(a:World->OsState->Shared)(t:Thread):kW (Option Shared):=λw=>(λos=>topRun treeTable p w m ann n (S w os).abs t,λos=>some (a w os))
variable{p:Program}{m:Nat}{ann:Option Value}
def Goes(p:Program)(m:Nat)(ann:Option Value)(R:World->OsState->Shared)(n:Nat)(S:World->OsState->Shared)(t:Thread):Prop:=∀w os,topRun treeTable p w m ann n (S w os) t=some (R w os)
noncomputable def P6(S:World->OsState->SharedT):World->OsState->Shared:=λw os=>(S w os).abs
theorem ZJ{n:Nat}{S:World->OsState->SharedT}{R:World->OsState->Shared}{env:Env}{c:Code}{a q:Pos}(h:Ok (fin p m ann n S R ⟨doneF .next,c,a,[topFrame q]⟩)):Goes p m ann R n (P6 S) (restOf [] env c a [topFrame q]):=λw os=>piece_nil (congrFun (h w) os)
theorem jo{n N:Nat}{S a:World->OsState->SharedT}{R:World->OsState->Shared}{l rest:List Stmt}{env:Env}{c:Code}{b d q:Pos}(h:Ok (seg p m ann n S a l env c b d [topFrame q]))(k:Goes p m ann R N (P6 a) (restOf rest env c d [topFrame q])):Goes p m ann R (n+N) (P6 S) (restOf (l++rest) env c b [topFrame q]):=λw os=>piece_app (segRun_of (congrFun (h w) os)) (k w os)
theorem aas{n N:Nat}{S:World->OsState->Shared}{a:World->OsState->SharedT}{R:World->OsState->Shared}{b b':List Stmt}{env:Env}{c d q:Pos}(e:b=b')(h:Ok (blk p m ann n S a b env (.body b env) c d [topFrame q]))(k:Goes p m ann R N (P6 a) (restOf b' env (.body b env) d [topFrame q])):Goes p m ann R (n+N) S ⟨denote treeTable (.body b env), .body b env,c,[topFrame q]⟩:=λw os=>by subst e;exact piece_block (congrFun (h w) os) (k w os)
theorem Zo{n N:Nat}{S a R:World->OsState->Shared}{t t':Thread}(h:Ok (pre p m ann n S a t t'))(k:Goes p m ann R N a t'):Goes p m ann R (n+N) S t:=λw os=>go_top (congrFun (h w) os) (k w os)
end
noncomputable def sz(m:Nat)(a:Option Value):kW (Bool×Nat×Option Value):=λw=>(λ_=>((boot_heap w.params).isNs mainGlobals&&(Array.mk []:Array GenState).size==0,(boot_heap w.params).objs.size,(boot_heap w.params).nsMap mainGlobals "__annotations__"),λ_=>(true,m,a))
noncomputable def ZL(H:Params->Heap)(d:Drawn)(k:Nat):World->OsState->Shared:=λw os=>⟨H w.params,Array.mk [],d,k,os⟩
noncomputable def la(p:Program)(H₁:Params->Heap)(d:Drawn)(k:Nat):kW Bool:=λw=>(λos=>(staticsOk (importedModules p.main.body) (boot_heap w.params) (H₁ w.params)&&namesBound p (H₁ w.params)&&gensDone ⟨H₁ w.params,Array.mk [],d,k,os⟩&&laidKept (boot_heap w.params) (H₁ w.params)),λ_=>true)
noncomputable def lb(p q:Program)(loose:List Str)(Xt:Shared->Bool)(H₁:Params->Heap)(d:Drawn)(k:Nat):=λ(w:World)=>((λ(os:OsState)=>openSeen q loose (importedModules p.main.body) Xt true ⟨H₁ w.params,Array.mk [],d,k,os⟩),(λ(_:OsState)=>openGood q loose))
noncomputable def lc(H:Hook)(H₁:Params->Heap)(d:Drawn)(k:Nat):kW H.α:=λw=>(λos=>H.obs ⟨H₁ w.params,Array.mk [],d,k,os⟩,λ_=>H.val w)
theorem left{p q:Program}{loose:List Str}{Xt:Shared->Bool}{H:Hook}{N m M:Nat}{a:Option Value}{H₁:Params->Heap}{d:Drawn}{k:Nat}(e:opening p=plainProg p.main.scope.names)(b:Nat.ble 600 N=true)(f:∀s,fenceModules? p s=some s)(size:Ok (sz m a))(run:Goes p m a (ZL H₁ d k) M (ZL boot_heap boot_drawn boot_toks) (topStub p))(le:Nat.ble M N=true)(ha:Ok (la p H₁ d k))(hb:Ok (lb p q loose Xt H₁ d k))(hc:Ok (lc H H₁ d k)):LeftO p q loose Xt H.obs H.val N:=LeftO.of_pieces (H₀:=boot_heap) (H₁:=H₁) (boot_open e b f) (λw=>congrFun (size w) default) run le λw=>funext λos=>looks_pair (congrFun (ha w) os) (looks_pair (congrFun (hb w) os) (congrFun (hc w) os))
noncomputable def tp(l:List Value):Obj:=⟨.type "tuple",none, .seq l.toArray 0,#[]⟩
noncomputable def fl(l:List Value):Obj:=⟨.none,none, .fields l.toArray,#[]⟩
noncomputable def e(P:Params)(x:Str)(n:Nat)(v:Value):DictEntry:=⟨PyData.keyHash P x, .str x n,v⟩
noncomputable def dc(l:List DictEntry)(n:Nat):Obj:=⟨.type "dict",none, .dict l.toArray n,#[]⟩
noncomputable def dm(o:Obj)(l:List DictEntry)(n:Nat):Obj:=match o.data with| .dict a _=>dc (a.toList++l) n|_=>o
noncomputable def fa(o:Obj)(l:List Value):Obj:=match o.data with| .fields a=>fl (a.toList++l)|_=>o
noncomputable abbrev F4:Type:=Option (Flow×SharedT×Code×Pos)
noncomputable def cd(n q f:Str)(a b c:Nat)(e g h j k r:Nat)(t:Bool)(m s:Nat)(l o p u:Value)(y z d:Nat):Obj:=⟨.type "code",none, .fields #[.str n a, .str q b, .str f c,i e,i g,i h,i j,i k, .ref r, .bool t,i m, .ref s,l,o,p,u,i y,i z, .str f d],#[]⟩
noncomputable def fs(n q:Str)(s:Stmt):Obj:=⟨.none,none, .func ⟨n,q,L2.fU s, .stmts (L2.cC s),L2.ak s,0,[], .none, .none, .none, .none,none, .none, .none,0⟩,#[]⟩
noncomputable def fu(n q:Str)(s:Stmt)(m:Str)(k c:Nat):Obj:=⟨.type "function",none, .func ⟨n,q,L2.fU s, .stmts (L2.cC s),L2.ak s,3,[], .none, .none, .none, .str m k,none, .ref c, .none,0⟩,#[]⟩
noncomputable def fm(a b c:Nat)(m:Str)(k:Nat):Obj:=⟨.type "frame",none, .plain,#[some (.ref a),some (.ref b),some (.ref c),none,some (.str m k),none,some (.ref 0)]⟩
noncomputable def bm(v w:Value):Obj:=⟨.type "builtin_function_or_method",none, .fields #[v,w],#[]⟩
noncomputable def su(a:Nat):Obj:=⟨.type "super",none, .fields #[.ref a, .ref a, .ref a],#[]⟩
noncomputable def cl(n:Str)(b m:List Value)(d:Nat)(s:List Value)(t k j:Nat)(v:Value):Obj:=⟨.type "type",none, .cls ⟨n,b,m,d,n,true,[],s,false,none,false⟩,#[some (.ref t),none,some (.str n k),some (.str n j),some v,some (.bool true)]⟩
noncomputable def sb(o:Obj)(l:List Value):Obj:=match o with|⟨c,d, .cls x,t⟩=>⟨c,d, .cls {x with subclasses:=x.subclasses++l},t⟩|_=>o
noncomputable def tV(l:List Obj):BT->Nat->BT:=@List.rec Obj (λ_=>BT->Nat->BT) (λt _=>t) (λo _ b t a=>b (t.ins a o) (Nat.succ a)) l
end HD
end
section
namespace K25
open PySem PySem.W PySem.Calls PyProof.Rows
noncomputable abbrev pw:Program:=PySem.Challenge.pw_keeper_k25_whole_ways_meet
noncomputable def ht(i:Nat):Stmt:=pw.main.body.getD i (.Pass ⟨0,0,0,0⟩)
noncomputable def Zx0:Str:= .ofString "__name__"
noncomputable def Po:Str:= .ofString "__doc__"
noncomputable def Zx3:Str:= .ofString "__package__"
noncomputable def Zx4:Str:= .ofString "__loader__"
noncomputable def Zx5:Str:= .ofString "__spec__"
noncomputable def Zx9:Str:= .ofString "all"
noncomputable def VU:Str:= .ofString "next"
noncomputable def R4:Str:= .ofString "__main__"
noncomputable def G5:Str:= .ofString "__annotations__"
noncomputable def Hy:Str:= .ofString "__builtins__"
noncomputable def GZ:Str:= .ofString "__file__"
noncomputable def a_:Str:= .ofString "/claim/cut.py"
noncomputable def GS:Str:= .ofString "__cached__"
noncomputable def RR:Str:= .ofString "<module>"
noncomputable def kq:Str:= .ofString "_wall"
noncomputable def X1:Str:= .ofString "k"
noncomputable def dW:Str:= .ofString "keeper.errors"
noncomputable def pe:Str:= .ofString "KeeperError"
noncomputable def kj:Str:= .ofString "__module__"
noncomputable def Ca:Str:= .ofString "__qualname__"
noncomputable def km:Str:= .ofString "__firstlineno__"
noncomputable def cV:Str:= .ofString "small_name"
noncomputable def kl:Str:= .ofString "__static_attributes__"
noncomputable def CB:Str:= .ofString "self"
noncomputable def OD:Str:= .ofString "KeeperError.small_name"
noncomputable def Sz:Str:= .ofString "__weakref__"
noncomputable def oV:Str:= .ofString "Great"
noncomputable def Mz:Str:= .ofString "Great.small_name"
noncomputable def oN:Str:= .ofString "NoPlace"
noncomputable def Mn:Str:= .ofString "NoPlace.small_name"
noncomputable def o7:Str:= .ofString "NoStep"
noncomputable def M7:Str:= .ofString "NoStep.small_name"
noncomputable def uv:Str:= .ofString "Dry"
noncomputable def N6:Str:= .ofString "Dry.small_name"
noncomputable def gE:Str:= .ofString "keeper.things"
noncomputable def LG:Str:= .ofString "MOST_KNOTS"
noncomputable def KH:Str:= .ofString "MOST_DEEP"
noncomputable def Nt:Str:= .ofString "MOST_VARIABLE"
noncomputable def Lp:Str:= .ofString "MOST_LETTERS"
noncomputable def Nb:Str:= .ofString "LETTERS"
noncomputable def NV:Str:= .ofString "abcdefghijklmnopqrstuvwxyz"
noncomputable def Ot:Str:= .ofString "KIND_WORDS"
noncomputable def S5:Str:= .ofString "nat"
noncomputable def Q9:Str:= .ofString "none"
noncomputable def Mu:Str:= .ofString "some"
noncomputable def Q8:Str:= .ofString "same"
noncomputable def N8:Str:= .ofString "KIDS_DUE"
noncomputable def Zk:Str:= .ofString "var"
noncomputable def Hl:Str:= .ofString "fun"
noncomputable def RD:Str:= .ofString "app"
noncomputable def Km:Str:= .ofString "zero"
noncomputable def M_:Str:= .ofString "rec"
noncomputable def Mv:Str:= .ofString "like"
noncomputable def OG:Str:= .ofString "carry"
noncomputable def Zi:Str:= .ofString "never"
noncomputable def ML:Str:= .ofString "pair"
noncomputable def KA:Str:= .ofString "first"
noncomputable def Mo:Str:= .ofString "second"
noncomputable def Q7:Str:= .ofString "name"
noncomputable def jG:Str:= .ofString "kind"
noncomputable def fb:Str:= .ofString "term"
noncomputable def L0:Str:= .ofString "BINDER_OVER"
noncomputable def kX:Str:= .ofString "is_number"
noncomputable def Ln:Str:= .ofString "value"
noncomputable def mj:Str:= .ofString "is_name"
noncomputable def lN:Str:= .ofString "begins_due"
noncomputable def RI:Str:= .ofString "due"
noncomputable def lQ:Str:= .ofString "is_shaped"
noncomputable def mv:Str:= .ofString "is_vast"
noncomputable def m5:Str:= .ofString "is_thing"
noncomputable def lT:Str:= .ofString "is_term"
noncomputable def ff:Str:= .ofString "thing"
noncomputable def mq:Str:= .ofString "is_kind"
noncomputable def mG:Str:= .ofString "kids_of"
noncomputable def mE:Str:= .ofString "binds_of"
noncomputable def mm:Str:= .ofString "top_variable"
noncomputable def oO:Str:= .ofString "bounded"
noncomputable def pd:Str:= .ofString "rebuilt"
noncomputable def K5:Str:= .ofString "kids"
noncomputable def F6:Str:= .ofString "keeper.places"
noncomputable def o_:Str:= .ofString "kid_at"
noncomputable def Gk:Str:= .ofString "number"
noncomputable def oK:Str:= .ofString "at_place"
noncomputable def Ho:Str:= .ofString "place"
noncomputable def Ob:Str:= .ofString "here"
noncomputable def pC:Str:= .ofString "changed_at"
noncomputable def RB:Str:= .ofString "new"
noncomputable def SJ:Str:= .ofString "kid"
noncomputable def pD:Str:= .ofString "with_at"
noncomputable def LQ:Str:= .ofString "keeper.putting"
noncomputable def o8:Str:= .ofString "with_free"
noncomputable def ph:Str:= .ofString "raised"
noncomputable def Rq:Str:= .ofString "by"
noncomputable def SM:Str:= .ofString "low"
noncomputable def Q3:Str:= .ofString "change"
noncomputable def oR:Str:= .ofString "put_in"
noncomputable def SX:Str:= .ofString "other"
noncomputable def Q6:Str:= .ofString "at"
noncomputable def uf:Str:= .ofString "keeper.steps"
noncomputable def Xw:Str:= .ofString "RULES"
noncomputable def sT:Str:= .ofString "rule_of"
noncomputable def Cp:Str:= .ofString "book"
noncomputable def ZC:Str:= .ofString "part"
noncomputable def YA:Str:= .ofString "word"
noncomputable def Ia:Str:= .ofString "rule"
noncomputable def sP:Str:= .ofString "after_next"
noncomputable def tX:Str:= .ofString "after_rule"
noncomputable def uo:Str:= .ofString "stepped"
noncomputable def tw:Str:= .ofString "steps_of"
noncomputable def t_:Str:= .ofString "first_step"
noncomputable def RJ:Str:= .ofString "step"
noncomputable def Ys:Str:= .ofString "keeper.normal"
noncomputable def sL:Str:= .ofString "normal"
noncomputable def Yq:Str:= .ofString "fuel"
noncomputable def XB:Str:= .ofString "log"
noncomputable def dI:Str:= .ofString "law_keeper_k25_whole_ways_meet"
noncomputable def s_:Str:= .ofString "_law_draw"
noncomputable def hU:Str:= .ofString "_law_script"
noncomputable def ie:Str:= .ofString "_law_tape"
noncomputable def Yt:Str:= .ofString "_law_many"
noncomputable def Zl:Str:= .ofString "_law_seed"
noncomputable def XG:Str:= .ofString "_law_cell"
noncomputable def sE:Str:= .ofString "_law_named"
noncomputable def MI:Str:= .ofString "_law_word"
noncomputable def sM:Str:= .ofString "_law_pool"
noncomputable def sD:Str:= .ofString "_law_leaf"
noncomputable def ku:Str:= .ofString "_law_near"
noncomputable def i_:Str:= .ofString "_law_pool_here"
noncomputable def BW:Str:= .ofString "_law_way"
noncomputable def sf:Str:= .ofString "_law_kind"
noncomputable def kA:Str:= .ofString "_law_deep"
noncomputable def N5:Str:= .ofString "_law_first"
noncomputable def wY:Str:= .ofString "_law_kind_here"
noncomputable def tm:Str:= .ofString "_law_fun"
noncomputable def uC:Str:= .ofString "_law_pair"
noncomputable def tW:Str:= .ofString "_law_like"
noncomputable def r_:Str:= .ofString "_law_number"
noncomputable def tM:Str:= .ofString "_law_parted"
noncomputable def YV:Str:= .ofString "_law_second"
noncomputable def tF:Str:= .ofString "_law_still"
noncomputable def Zb:Str:= .ofString "_law_one"
noncomputable def YC:Str:= .ofString "_law_two"
noncomputable def Xr:Str:= .ofString "_law_three"
noncomputable def tU:Str:= .ofString "_law_term"
noncomputable def uE:Str:= .ofString "_law_kids"
noncomputable def sN:Str:= .ofString "_law_thing_here"
noncomputable def sd:Str:= .ofString "_law_measured"
noncomputable def ZK:Str:= .ofString "_law_knots"
noncomputable def Yl:Str:= .ofString "_law_most"
noncomputable def Y6:Str:= .ofString "_law_kid"
noncomputable def QZ:Str:= .ofString "_law_told"
noncomputable def tT:Str:= .ofString "_law_great"
noncomputable def sA:Str:= .ofString "_law_thing"
noncomputable def Zz:Str:= .ofString "_law_made"
noncomputable def tL:Str:= .ofString "_law_book"
noncomputable def By:Str:= .ofString "_law_book_here"
noncomputable def ZY:Str:= .ofString "_law_k"
noncomputable def tO:Str:= .ofString "_law_rule"
noncomputable def Y1:Str:= .ofString "_law_heads"
noncomputable def tZ:Str:= .ofString "_law_rows"
noncomputable def YL:Str:= .ofString "_law_found"
noncomputable def aah:Str:= .ofString "_law_waiting"
noncomputable def Zq:Str:= .ofString "_law_place"
noncomputable def XC:Str:= .ofString "_law_here"
noncomputable def aaD:Str:= .ofString "_law_kids_here"
noncomputable def Yw:Str:= .ofString "_law_step"
noncomputable def aar:Str:= .ofString "_law_number_here"
noncomputable def uK:Str:= .ofString "_law_end"
noncomputable def sQ:Str:= .ofString "law"
noncomputable def ZR:Str:= .ofString "_law_end_here"
noncomputable def YT:Str:= .ofString "_law_now"
noncomputable def Xo:Str:= .ofString "_law_turn"
noncomputable def YU:Str:= .ofString "_law_rows_here"
noncomputable def Z5:Str:= .ofString "_law_other"
noncomputable def YX:Str:= .ofString "_law_last"
variable(P:Params)
noncomputable def gK:Env:={scope:=pw.main.scope,locals:=mainNs,globals:=mainNs,cells:=[],code:=(.ref 13),frame:=some (nat_lit 14)}
noncomputable def dR:Code:= .body (behindTheImports pw) gK
noncomputable def fY:List Frame:=[topFrame ⟨0,0,0,0⟩]
noncomputable abbrev ZS0:World->OsState->Shared:=HD.ZL boot_heap boot_drawn boot_toks
def ae:=HD.tp []
def aA:=HD.fl []
def L7:=HD.cd RR RR a_ 182 183 184 1 0 0 0 0 11 false 181 12 .none .none .none .none 185 1 186
def NB:=HD.fm 13 3 3 R4 164
noncomputable def Yh(r:List (Obj)):List (Obj):=PySem.W.boot_o_0 P::PySem.W.boot_o_1 P::PySem.W.boot_o_2 P::PySem.W.boot_o_3 P::PySem.W.boot_o_4 P::PySem.W.boot_o_5 P::PySem.W.boot_o_6 P::PySem.W.boot_o_7 P::PySem.W.boot_o_8 P::PySem.W.boot_o_9 P::PySem.W.boot_o_10 P::ae::r
noncomputable def Xy(r:List (Obj)):List (Obj):=aA::L7::NB::r
noncomputable def ZHa(P:Params):Heap:=⟨Array.mk (Yh P (Xy [])),⟨[],[],[],0,[],[],false,#[],[],0,false,false,false,(.ofNat 0),[(.ofNat 2000),(.ofNat 10),(.ofNat 10)],false,0,true,[],[],0,false⟩⟩
noncomputable def Zda:Drawn:=⟨0,0,0,0⟩
noncomputable def Zka:Nat:=nat_lit 187
noncomputable abbrev WX:World->OsState->Shared:=HD.ZL ZHa Zda Zka
noncomputable def Zqa:HD.kW (Option (Shared×Thread)):=λw=>(λos=>topGo treeTable pw w (nat_lit 11) (some (.ref 6)) (nat_lit 12) (ZS0 w os) (topStub pw),λos=>some (WX w os,Thread.mk (denote treeTable dR) dR ⟨0,0,0,0⟩ fY))
theorem Vq:HD.pre pw (nat_lit 11) (some (.ref 6)) (nat_lit 12) ZS0 WX (topStub pw) (Thread.mk (denote treeTable dR) dR ⟨0,0,0,0⟩ fY)=Zqa:=by kernel_rfl
name_quick R_ for Zqa by Vq
theorem Zia(w:World):(Fast.R_ w).1=(Fast.R_ w).2:=by kernel_rfl
theorem Zha:HD.Ok (HD.pre pw (nat_lit 11) (some (.ref 6)) (nat_lit 12) ZS0 WX (topStub pw) (Thread.mk (denote treeTable dR) dR ⟨0,0,0,0⟩ fY)):=HD.kh Fast.R__eq Zia
noncomputable def XW(r:List (Obj)):List (Obj):=PySem.W.boot_o_0 P::PySem.W.boot_o_1 P::PySem.W.boot_o_2 P::PySem.W.boot_o_3 P::PySem.W.boot_o_4 P::PySem.W.boot_o_5 P::PySem.W.boot_o_6 P::PySem.W.boot_o_7 P::PySem.W.boot_o_8 P::PySem.W.boot_o_9 P::PySem.W.boot_o_10 P::ae::r
noncomputable def aaz(r:List (Obj)):List (Obj):=aA::L7::NB::r
noncomputable def ZTb(P:Params):BT:=HD.mkT (XW P (aaz []))
noncomputable def pU:Life:=⟨[],[],[],0,[],[],false,#[],[],0,false,false,false,(.ofNat 0),[(.ofNat 2000),(.ofNat 10),(.ofNat 10)],false,0,true,[],[],0,false⟩
noncomputable abbrev Xd(w:World)(os:OsState):SharedT:=⟨ZTb w.params,nat_lit 15,pU,Array.mk [],⟨0,0,0,0⟩,nat_lit 187,os⟩
noncomputable def Zqb:HD.kW (Option (Flow×Shared×Code×Pos)):=λw=>(λos=>segRun treeTable pw w (nat_lit 11) (some (.ref 6)) (nat_lit 1) (nat_lit 1) (WX w os) (blockOf (behindTheImports pw) gK dR ⟨0,0,0,0⟩ fY),λos=>some (Flow.next,(Xd w os).abs,dR,⟨0,0,0,0⟩))
theorem Ug:HD.blk pw (nat_lit 11) (some (.ref 6)) (nat_lit 1) WX Xd (behindTheImports pw) gK dR ⟨0,0,0,0⟩ ⟨0,0,0,0⟩ fY=Zqb:=by kernel_rfl
name_quick RZ for Zqb by Ug
theorem Zib(w:World):(Fast.RZ w).1=(Fast.RZ w).2:=by kernel_rfl
theorem Zhb:HD.Ok (HD.blk pw (nat_lit 11) (some (.ref 6)) (nat_lit 1) WX Xd (behindTheImports pw) gK dR ⟨0,0,0,0⟩ ⟨0,0,0,0⟩ fY):=HD.kh Fast.RZ_eq Zib
def XR:=HD.dc [HD.e P Zx0 165 (.str dW 194),HD.e P Po 166 .none,HD.e P Zx3 167 .none,HD.e P Zx4 168 (.builtin "__main__.__loader__#opaque"),HD.e P Zx5 169 .none,HD.e P G5 170 (.ref 6),HD.e P Hy 171 (.ref 4),HD.e P GZ 173 (.str a_ 172),HD.e P GS 174 .none,HD.e P kq 193 (.ref 21),HD.e P pe 220 (.ref 38)] 11
def SA:=HD.fl [(HD.i 1),(HD.i 0),(.ref 20),(HD.i 5),(HD.i 0),(.ref 27)]
def F9:=HD.tp [(.str X1 190)]
def RG:=HD.fs kq kq (ht 0)
def Il:=HD.cd kq kq a_ 187 188 189 1 1 0 0 3 15 true 181 16 .none (.ref 17) (.ref 18) (.ref 19) 191 1 192
def HC:=HD.fu kq kq (ht 0) R4 164 20
def Gm:=HD.tp [(.type "ValueError")]
def kz:=HD.bm (.builtin "type.__prepare__") (.type "type")
def Rm:=HD.dc [HD.e P kj 203 (.str dW 194),HD.e P Ca 205 (.str pe 204),HD.e P km 207 (.int (.ofNat 5) 206),HD.e P cV 214 (.ref 35),HD.e P kl 215 (.ref 36)] 5
def S3:=HD.fl [(HD.i 7),(HD.i 4),(.ref 34)]
def R5:=HD.cd pe pe a_ 198 199 200 5 0 0 0 0 25 false 181 26 .none .none .none .none 201 5 202
def Su:=HD.fm 27 3 24 dW 194
def GV:=HD.tp [(.str CB 211)]
def Rh:=HD.fs cV OD (L2.inClass (ht 2) 0)
def GO:=HD.cd cV OD a_ 208 209 210 7 1 0 0 3 29 true 181 30 .none (.ref 31) (.ref 32) (.ref 33) 212 7 213
def GK:=HD.fu cV OD (L2.inClass (ht 2) 0) dW 194 34
def G_:=HD.dc [HD.e P kj 203 (.str dW 194),HD.e P km 207 (.int (.ofNat 5) 206),HD.e P cV 214 (.ref 35),HD.e P kl 215 (.ref 36),HD.e P Sz 217 (.ref 39),HD.e P Po 218 .none] 3
def Q5:=HD.cl pe [(.type "ValueError")] [(.ref 38),(.type "ValueError"),(.type "Exception"),(.type "BaseException"),(.type "object")] 37 [] 22 196 204 (.builtin "ValueError.__new__")
noncomputable def F7:Obj:=⟨(.type "getset_descriptor"),none,(.fields #[(.str Sz 216),(.ref 38),(.builtin "ExceptionGroup.__weakref__"), .none]),#[]⟩
def RS:=HD.su 38
def Rj:=HD.bm (.builtin "object.__init_subclass__") (.ref 38)
noncomputable def Zg1:List Stmt:=[ht 0,ht 1,ht 2]
noncomputable def ZT1(P:Params):BT:=(HD.tV [ae,aA,F9,ae,RG,Il,HC,Gm,kz,Rm P,ae,S3,R5,Su,ae,aA,GV,ae,Rh,GO,GK,ae,G_ P,Q5,F7,RS,Rj] (((ZTb P).ins (nat_lit 3) (XR P)).ins (nat_lit 12) (SA)) (nat_lit 15))
noncomputable abbrev Xi(w:World)(os:OsState):SharedT:=⟨ZT1 w.params,nat_lit 42,pU,Array.mk [],⟨0,0,0,0⟩,nat_lit 221,os⟩
noncomputable def Zq1:HD.kW (HD.F4):=λw=>(λos=>segRunT treeTable pw w (nat_lit 11) (some (.ref 6)) (nat_lit 1) (nat_lit 255) (Xd w os) (piecesOf Zg1 gK dR ⟨0,0,0,0⟩ fY),λos=>some (Flow.next,Xi w os,dR,⟨5,0,8,16⟩))
theorem VM:HD.seg pw (nat_lit 11) (some (.ref 6)) (nat_lit 255) Xd Xi Zg1 gK dR ⟨0,0,0,0⟩ ⟨5,0,8,16⟩ fY=Zq1:=by kernel_rfl
name_quick SY for Zq1 by VM
theorem Zi1(w:World):(Fast.SY w).1=(Fast.SY w).2:=by kernel_rfl
theorem Zh1:HD.Ok (HD.seg pw (nat_lit 11) (some (.ref 6)) (nat_lit 255) Xd Xi Zg1 gK dR ⟨0,0,0,0⟩ ⟨5,0,8,16⟩ fY):=HD.kh Fast.SY_eq Zi1
def YH:=HD.dm (XR P) [HD.e P oV 243 (.ref 58)] 12
def R6:=HD.fa (SA) [(HD.i 9),(HD.i 0),(.ref 47)]
def RV:=HD.sb (Q5) [(.ref 58)]
def fA:=HD.tp [(.ref 38)]
def Rl:=HD.dc [HD.e P kj 228 (.str dW 194),HD.e P Ca 230 (.str oV 229),HD.e P km 232 (.int (.ofNat 9) 231),HD.e P cV 239 (.ref 55),HD.e P kl 240 (.ref 56)] 5
def Sk:=HD.fl [(HD.i 11),(HD.i 4),(.ref 54)]
def R8:=HD.cd oV oV a_ 223 224 225 9 0 0 0 0 45 false 181 46 .none .none .none .none 226 9 227
def SW:=HD.fm 47 3 44 dW 194
def Ib:=HD.tp [(.str CB 236)]
def S_:=HD.fs cV Mz (L2.inClass (ht 3) 0)
def Gx:=HD.cd cV Mz a_ 233 234 235 11 1 0 0 3 49 true 181 50 .none (.ref 51) (.ref 52) (.ref 53) 237 11 238
def Hx:=HD.fu cV Mz (L2.inClass (ht 3) 0) dW 194 54
def Ha:=HD.dc [HD.e P kj 228 (.str dW 194),HD.e P km 232 (.int (.ofNat 9) 231),HD.e P cV 239 (.ref 55),HD.e P kl 240 (.ref 56),HD.e P Po 241 .none] 2
def F5:=HD.cl oV [(.ref 38)] [(.ref 58),(.ref 38),(.type "ValueError"),(.type "Exception"),(.type "BaseException"),(.type "object")] 57 [] 42 221 229 (.builtin "ValueError.__new__")
def SO:=HD.su 58
def RY:=HD.bm (.builtin "object.__init_subclass__") (.ref 58)
noncomputable def Zg2:List Stmt:=[ht 3]
noncomputable def ZT2(P:Params):BT:=(HD.tV [fA,kz,Rl P,ae,Sk,R8,SW,ae,aA,Ib,ae,S_,Gx,Hx,ae,Ha P,F5,SO,RY] ((((ZT1 P).ins (nat_lit 3) (YH P)).ins (nat_lit 12) (R6)).ins (nat_lit 38) (RV)) (nat_lit 42))
noncomputable abbrev W_(w:World)(os:OsState):SharedT:=⟨ZT2 w.params,nat_lit 61,pU,Array.mk [],⟨0,0,0,0⟩,nat_lit 244,os⟩
noncomputable def Zq2:HD.kW (HD.F4):=λw=>(λos=>segRunT treeTable pw w (nat_lit 11) (some (.ref 6)) (nat_lit 1) (nat_lit 244) (Xi w os) (piecesOf Zg2 gK dR ⟨5,0,8,16⟩ fY),λos=>some (Flow.next,W_ w os,dR,⟨9,0,12,16⟩))
theorem Wz:HD.seg pw (nat_lit 11) (some (.ref 6)) (nat_lit 244) Xi W_ Zg2 gK dR ⟨5,0,8,16⟩ ⟨9,0,12,16⟩ fY=Zq2:=by kernel_rfl
name_quick S6 for Zq2 by Wz
theorem Zi2(w:World):(Fast.S6 w).1=(Fast.S6 w).2:=by kernel_rfl
theorem Zh2:HD.Ok (HD.seg pw (nat_lit 11) (some (.ref 6)) (nat_lit 244) Xi W_ Zg2 gK dR ⟨5,0,8,16⟩ ⟨9,0,12,16⟩ fY):=HD.kh Fast.S6_eq Zi2
def Ze:=HD.dm (YH P) [HD.e P oN 266 (.ref 77)] 13
def Sr:=HD.fa (R6) [(HD.i 13),(HD.i 0),(.ref 66)]
def Sy:=HD.sb (RV) [(.ref 77)]
def Rg:=HD.dc [HD.e P kj 251 (.str dW 194),HD.e P Ca 253 (.str oN 252),HD.e P km 255 (.int (.ofNat 13) 254),HD.e P cV 262 (.ref 74),HD.e P kl 263 (.ref 75)] 5
def S8:=HD.fl [(HD.i 15),(HD.i 4),(.ref 73)]
def S9:=HD.cd oN oN a_ 246 247 248 13 0 0 0 0 64 false 181 65 .none .none .none .none 249 13 250
def Q1:=HD.fm 66 3 63 dW 194
def Hf:=HD.tp [(.str CB 259)]
def SH:=HD.fs cV Mn (L2.inClass (ht 4) 0)
def HL:=HD.cd cV Mn a_ 256 257 258 15 1 0 0 3 68 true 181 69 .none (.ref 70) (.ref 71) (.ref 72) 260 15 261
def HX:=HD.fu cV Mn (L2.inClass (ht 4) 0) dW 194 73
def GY:=HD.dc [HD.e P kj 251 (.str dW 194),HD.e P km 255 (.int (.ofNat 13) 254),HD.e P cV 262 (.ref 74),HD.e P kl 263 (.ref 75),HD.e P Po 264 .none] 2
def HA:=HD.cl oN [(.ref 38)] [(.ref 77),(.ref 38),(.type "ValueError"),(.type "Exception"),(.type "BaseException"),(.type "object")] 76 [] 61 244 252 (.builtin "ValueError.__new__")
def S4:=HD.su 77
def Sm:=HD.bm (.builtin "object.__init_subclass__") (.ref 77)
noncomputable def Zg3:List Stmt:=[ht 4]
noncomputable def ZT3(P:Params):BT:=(HD.tV [fA,kz,Rg P,ae,S8,S9,Q1,ae,aA,Hf,ae,SH,HL,HX,ae,GY P,HA,S4,Sm] ((((ZT2 P).ins (nat_lit 3) (Ze P)).ins (nat_lit 12) (Sr)).ins (nat_lit 38) (Sy)) (nat_lit 61))
noncomputable abbrev W3(w:World)(os:OsState):SharedT:=⟨ZT3 w.params,nat_lit 80,pU,Array.mk [],⟨0,0,0,0⟩,nat_lit 267,os⟩
noncomputable def Zq3:HD.kW (HD.F4):=λw=>(λos=>segRunT treeTable pw w (nat_lit 11) (some (.ref 6)) (nat_lit 1) (nat_lit 244) (W_ w os) (piecesOf Zg3 gK dR ⟨9,0,12,16⟩ fY),λos=>some (Flow.next,W3 w os,dR,⟨13,0,16,16⟩))
theorem Uh:HD.seg pw (nat_lit 11) (some (.ref 6)) (nat_lit 244) W_ W3 Zg3 gK dR ⟨9,0,12,16⟩ ⟨13,0,16,16⟩ fY=Zq3:=by kernel_rfl
name_quick Sf for Zq3 by Uh
theorem Zi3(w:World):(Fast.Sf w).1=(Fast.Sf w).2:=by kernel_rfl
theorem Zh3:HD.Ok (HD.seg pw (nat_lit 11) (some (.ref 6)) (nat_lit 244) W_ W3 Zg3 gK dR ⟨9,0,12,16⟩ ⟨13,0,16,16⟩ fY):=HD.kh Fast.Sf_eq Zi3
def abV:=HD.dm (Ze P) [HD.e P o7 289 (.ref 96)] 14
def RK:=HD.fa (Sr) [(HD.i 17),(HD.i 0),(.ref 85)]
def SV:=HD.sb (Sy) [(.ref 96)]
def Sl:=HD.dc [HD.e P kj 274 (.str dW 194),HD.e P Ca 276 (.str o7 275),HD.e P km 278 (.int (.ofNat 17) 277),HD.e P cV 285 (.ref 93),HD.e P kl 286 (.ref 94)] 5
def Sb:=HD.fl [(HD.i 19),(HD.i 4),(.ref 92)]
def Tc:=HD.cd o7 o7 a_ 269 270 271 17 0 0 0 0 83 false 181 84 .none .none .none .none 272 17 273
def Sv:=HD.fm 85 3 82 dW 194
def Hv:=HD.tp [(.str CB 282)]
def Sj:=HD.fs cV M7 (L2.inClass (ht 5) 0)
def FU:=HD.cd cV M7 a_ 279 280 281 19 1 0 0 3 87 true 181 88 .none (.ref 89) (.ref 90) (.ref 91) 283 19 284
def FV:=HD.fu cV M7 (L2.inClass (ht 5) 0) dW 194 92
def Ij:=HD.dc [HD.e P kj 274 (.str dW 194),HD.e P km 278 (.int (.ofNat 17) 277),HD.e P cV 285 (.ref 93),HD.e P kl 286 (.ref 94),HD.e P Po 287 .none] 2
def HY:=HD.cl o7 [(.ref 38)] [(.ref 96),(.ref 38),(.type "ValueError"),(.type "Exception"),(.type "BaseException"),(.type "object")] 95 [] 80 267 275 (.builtin "ValueError.__new__")
def Rx:=HD.su 96
def Sx:=HD.bm (.builtin "object.__init_subclass__") (.ref 96)
noncomputable def Zg4:List Stmt:=[ht 5]
noncomputable def ZT4(P:Params):BT:=(HD.tV [fA,kz,Sl P,ae,Sb,Tc,Sv,ae,aA,Hv,ae,Sj,FU,FV,ae,Ij P,HY,Rx,Sx] ((((ZT3 P).ins (nat_lit 3) (abV P)).ins (nat_lit 12) (RK)).ins (nat_lit 38) (SV)) (nat_lit 80))
noncomputable abbrev W0(w:World)(os:OsState):SharedT:=⟨ZT4 w.params,nat_lit 99,pU,Array.mk [],⟨0,0,0,0⟩,nat_lit 290,os⟩
noncomputable def Zq4:HD.kW (HD.F4):=λw=>(λos=>segRunT treeTable pw w (nat_lit 11) (some (.ref 6)) (nat_lit 1) (nat_lit 244) (W3 w os) (piecesOf Zg4 gK dR ⟨13,0,16,16⟩ fY),λos=>some (Flow.next,W0 w os,dR,⟨17,0,20,16⟩))
theorem Vd:HD.seg pw (nat_lit 11) (some (.ref 6)) (nat_lit 244) W3 W0 Zg4 gK dR ⟨13,0,16,16⟩ ⟨17,0,20,16⟩ fY=Zq4:=by kernel_rfl
name_quick Te for Zq4 by Vd
theorem Zi4(w:World):(Fast.Te w).1=(Fast.Te w).2:=by kernel_rfl
theorem Zh4:HD.Ok (HD.seg pw (nat_lit 11) (some (.ref 6)) (nat_lit 244) W3 W0 Zg4 gK dR ⟨13,0,16,16⟩ ⟨17,0,20,16⟩ fY):=HD.kh Fast.Te_eq Zi4
def aao:=HD.dc [HD.e P Zx0 165 (.str gE 313),HD.e P Po 166 .none,HD.e P Zx3 167 .none,HD.e P Zx4 168 (.builtin "__main__.__loader__#opaque"),HD.e P Zx5 169 .none,HD.e P G5 170 (.ref 6),HD.e P Hy 171 (.ref 4),HD.e P GZ 173 (.str a_ 172),HD.e P GS 174 .none,HD.e P kq 193 (.ref 21),HD.e P pe 220 (.ref 38),HD.e P oV 243 (.ref 58),HD.e P oN 266 (.ref 77),HD.e P o7 289 (.ref 96),HD.e P uv 312 (.ref 115),HD.e P LG 316 (.int (.ofNat 600) 315),HD.e P KH 318 (.int (.ofNat 40) 317),HD.e P Nt 320 (.int (.ofNat 99) 319),HD.e P Lp 322 (.int (.ofNat 12) 321),HD.e P Nb 324 (.str NV 323),HD.e P Ot 330 (.ref 118)] 21
def SE:=HD.fa (RK) [(HD.i 21),(HD.i 0),(.ref 104)]
def GL:=HD.sb (SV) [(.ref 115)]
def LF:=HD.dc [HD.e P kj 297 (.str dW 194),HD.e P Ca 299 (.str uv 298),HD.e P km 301 (.int (.ofNat 21) 300),HD.e P cV 308 (.ref 112),HD.e P kl 309 (.ref 113)] 5
def Oy:=HD.fl [(HD.i 23),(HD.i 4),(.ref 111)]
def Od:=HD.cd uv uv a_ 292 293 294 21 0 0 0 0 102 false 181 103 .none .none .none .none 295 21 296
def OB:=HD.fm 104 3 101 dW 194
def zJ:=HD.tp [(.str CB 305)]
def L9:=HD.fs cV N6 (L2.inClass (ht 6) 0)
def yX:=HD.cd cV N6 a_ 302 303 304 23 1 0 0 3 106 true 181 107 .none (.ref 108) (.ref 109) (.ref 110) 306 23 307
def zw:=HD.fu cV N6 (L2.inClass (ht 6) 0) dW 194 111
def yO:=HD.dc [HD.e P kj 297 (.str dW 194),HD.e P km 301 (.int (.ofNat 21) 300),HD.e P cV 308 (.ref 112),HD.e P kl 309 (.ref 113),HD.e P Po 310 .none] 2
def zu:=HD.cl uv [(.ref 38)] [(.ref 115),(.ref 38),(.type "ValueError"),(.type "Exception"),(.type "BaseException"),(.type "object")] 114 [] 99 290 298 (.builtin "ValueError.__new__")
def Ls:=HD.su 115
def OF:=HD.bm (.builtin "object.__init_subclass__") (.ref 115)
def zb:=HD.tp [(.str S5 325),(.str Q9 326),(.str Zx9 327),(.str Mu 328),(.str Q8 329)]
noncomputable def Zg5:List Stmt:=[ht 6,ht 7,ht 8,ht 9,ht 10,ht 11,ht 12,ht 13]
noncomputable def ZT5(P:Params):BT:=(HD.tV [fA,kz,LF P,ae,Oy,Od,OB,ae,aA,zJ,ae,L9,yX,zw,ae,yO P,zu,Ls,OF,zb] ((((ZT4 P).ins (nat_lit 3) (aao P)).ins (nat_lit 12) (SE)).ins (nat_lit 38) (GL)) (nat_lit 99))
noncomputable abbrev SK(w:World)(os:OsState):SharedT:=⟨ZT5 w.params,nat_lit 119,pU,Array.mk [],⟨0,0,0,0⟩,nat_lit 331,os⟩
noncomputable def Zq5:HD.kW (HD.F4):=λw=>(λos=>segRunT treeTable pw w (nat_lit 11) (some (.ref 6)) (nat_lit 1) (nat_lit 313) (W0 w os) (piecesOf Zg5 gK dR ⟨17,0,20,16⟩ fY),λos=>some (Flow.next,SK w os,dR,⟨31,0,31,10⟩))
theorem VX:HD.seg pw (nat_lit 11) (some (.ref 6)) (nat_lit 313) W0 SK Zg5 gK dR ⟨17,0,20,16⟩ ⟨31,0,31,10⟩ fY=Zq5:=by kernel_rfl
name_quick SG for Zq5 by VX
theorem Zi5(w:World):(Fast.SG w).1=(Fast.SG w).2:=by kernel_rfl
theorem Zh5:HD.Ok (HD.seg pw (nat_lit 11) (some (.ref 6)) (nat_lit 313) W0 SK Zg5 gK dR ⟨17,0,20,16⟩ ⟨31,0,31,10⟩ fY):=HD.kh Fast.SG_eq Zi5
def aaC:=HD.dm (aao P) [HD.e P N8 395 (.ref 119)] 22
def AD:=HD.dc [HD.e P S5 331 (.ref 120),HD.e P Q9 333 (.ref 121),HD.e P Zx9 335 (.ref 122),HD.e P Mu 339 (.ref 123),HD.e P Q8 343 (.ref 124),HD.e P Zk 348 (.ref 125),HD.e P Hl 350 (.ref 126),HD.e P RD 354 (.ref 127),HD.e P Km 358 (.ref 128),HD.e P VU 360 (.ref 129),HD.e P M_ 363 (.ref 130),HD.e P Mv 369 (.ref 131),HD.e P OG 373 (.ref 132),HD.e P Zi 378 (.ref 133),HD.e P ML 382 (.ref 134),HD.e P KA 387 (.ref 135),HD.e P Mo 390 (.ref 136),HD.e P Q7 393 (.ref 138)] 18
def zk:=HD.tp [(.str jG 336),(.str jG 337)]
def Ae:=HD.tp [(.str jG 340),(.str jG 341)]
def AB:=HD.tp [(.str jG 344),(.str fb 345),(.str fb 346)]
def ze:=HD.tp [(.str jG 351),(.str fb 352)]
def z9:=HD.tp [(.str fb 355),(.str fb 356)]
def z_:=HD.tp [(.str fb 361)]
def zy:=HD.tp [(.str jG 364),(.str fb 365),(.str fb 366),(.str fb 367)]
def yj:=HD.tp [(.str jG 370),(.str fb 371)]
def zS:=HD.tp [(.str jG 374),(.str fb 375),(.str fb 376)]
def yg:=HD.tp [(.str jG 379),(.str fb 380)]
def yu:=HD.tp [(.str jG 383),(.str fb 384),(.str fb 385)]
def xY:=HD.tp [(.str fb 388)]
def AV:=HD.tp [(.str fb 391)]
def LY:=HD.dc [HD.e P Q7 393 (.ref 138)] 1
noncomputable def WW:List Stmt:=[ht 14]
noncomputable def ZT6(P:Params):BT:=(HD.tV [AD P,ae,ae,zk,Ae,AB,ae,ze,z9,ae,z_,zy,yj,zS,yg,yu,xY,AV,LY P,ae] ((ZT5 P).ins (nat_lit 3) (aaC P)) (nat_lit 119))
noncomputable abbrev OO(w:World)(os:OsState):SharedT:=⟨ZT6 w.params,nat_lit 139,pU,Array.mk [],⟨0,0,0,0⟩,nat_lit 396,os⟩
noncomputable def Zu:HD.kW (HD.F4):=λw=>(λos=>segRunT treeTable pw (w.withFollow "special-get-raises" false) (nat_lit 11) (some (.ref 6)) (nat_lit 1) (nat_lit 340) (SK (w.withFollow "special-get-raises" false) os) (piecesOf WW gK dR ⟨31,0,31,10⟩ fY),λos=>some (Flow.next,OO (w.withFollow "special-get-raises" false) os,dR,⟨32,0,32,8⟩))
theorem P9:(λw:World=>HD.seg pw (nat_lit 11) (some (.ref 6)) (nat_lit 340) SK OO WW gK dR ⟨31,0,31,10⟩ ⟨32,0,32,8⟩ fY (w.withFollow "special-get-raises" false))=Zu:=by kernel_rfl
name_quick LH for Zu by P9
theorem abI(w:World):(Fast.LH w).1=(Fast.LH w).2:=by kernel_rfl
noncomputable def Zv:HD.kW (HD.F4):=λw=>(λos=>segRunT treeTable pw (w.withFollow "special-get-raises" true) (nat_lit 11) (some (.ref 6)) (nat_lit 1) (nat_lit 340) (SK (w.withFollow "special-get-raises" true) os) (piecesOf WW gK dR ⟨31,0,31,10⟩ fY),λos=>some (Flow.next,OO (w.withFollow "special-get-raises" true) os,dR,⟨32,0,32,8⟩))
theorem OZ:(λw:World=>HD.seg pw (nat_lit 11) (some (.ref 6)) (nat_lit 340) SK OO WW gK dR ⟨31,0,31,10⟩ ⟨32,0,32,8⟩ fY (w.withFollow "special-get-raises" true))=Zv:=by kernel_rfl
name_quick LL for Zv by OZ
theorem abF(w:World):(Fast.LL w).1=(Fast.LL w).2:=by kernel_rfl
theorem Zh6:HD.Ok (HD.seg pw (nat_lit 11) (some (.ref 6)) (nat_lit 340) SK OO WW gK dR ⟨31,0,31,10⟩ ⟨32,0,32,8⟩ fY):=HD.DM "special-get-raises" Fast.LH_eq Fast.LL_eq abI abF
def abJ:=HD.dm (aaC P) [HD.e P L0 411 (.ref 139),HD.e P kX 418 (.ref 146),HD.e P mj 424 (.ref 151),HD.e P lN 432 (.ref 158),HD.e P lQ 438 (.ref 163),HD.e P mv 444 (.ref 168),HD.e P m5 452 (.ref 175),HD.e P lT 459 (.ref 182),HD.e P mq 466 (.ref 189),HD.e P mG 473 (.ref 196),HD.e P mE 479 (.ref 201),HD.e P mm 485 (.ref 206)] 34
def RH:=HD.fa (SE) [(HD.i 34),(HD.i 0),(.ref 145),(HD.i 36),(HD.i 0),(.ref 150),(HD.i 40),(HD.i 0),(.ref 157),(HD.i 44),(HD.i 0),(.ref 162),(HD.i 55),(HD.i 0),(.ref 167),(HD.i 67),(HD.i 0),(.ref 174),(HD.i 69),(HD.i 0),(.ref 181),(HD.i 71),(HD.i 0),(.ref 188),(HD.i 73),(HD.i 0),(.ref 195),(HD.i 77),(HD.i 0),(.ref 200),(HD.i 80),(HD.i 0),(.ref 205)]
def xj:=HD.dc [HD.e P Zx9 396 (.int (.ofNat 1) 397),HD.e P Mu 398 (.int (.ofNat 1) 399),HD.e P Hl 400 (.int (.ofNat 1) 401),HD.e P M_ 402 (.int (.ofNat 0) 403),HD.e P OG 404 (.int (.ofNat 0) 405)] 5
def A8:=HD.tp [(.str Ln 415)]
def Oh:=HD.fs kX kX (ht 16)
def xy:=HD.cd kX kX a_ 412 413 414 34 1 0 0 3 140 true 181 141 .none (.ref 142) (.ref 143) (.ref 144) 416 34 417
def zp:=HD.fu kX kX (ht 16) gE 313 145
def L8:=HD.fs mj mj (ht 17)
def zB:=HD.cd mj mj a_ 419 420 421 36 1 0 0 3 147 true 181 148 .none .none .none (.ref 149) 422 36 423
def Ac:=HD.fu mj mj (ht 17) gE 313 150
def Av:=HD.tp [(.str Ln 428),(.str RI 429)]
def MZ:=HD.fs lN lN (ht 18)
def yS:=HD.cd lN lN a_ 425 426 427 40 2 0 0 3 152 true 181 153 .none (.ref 154) (.ref 155) (.ref 156) 430 40 431
def AF:=HD.fu lN lN (ht 18) gE 313 157
def NR:=HD.fs lQ lQ (ht 19)
def AX:=HD.cd lQ lQ a_ 433 434 435 44 2 0 0 3 159 true 181 160 .none .none .none (.ref 161) 436 44 437
def yR:=HD.fu lQ lQ (ht 19) gE 313 162
def KZ:=HD.fs mv mv (ht 20)
def xA:=HD.cd mv mv a_ 439 440 441 55 1 0 0 3 164 true 181 165 .none .none .none (.ref 166) 442 55 443
def xP:=HD.fu mv mv (ht 20) gE 313 167
def zo:=HD.tp [(.str Ln 448),(.str RI 449)]
def Oc:=HD.fs m5 m5 (ht 21)
def An:=HD.cd m5 m5 a_ 445 446 447 67 2 0 0 3 169 true 181 170 .none (.ref 171) (.ref 172) (.ref 173) 450 67 451
def yU:=HD.fu m5 m5 (ht 21) gE 313 174
def yz:=HD.tp [(.str ff 456)]
def Og:=HD.fs lT lT (ht 22)
def Ar:=HD.cd lT lT a_ 453 454 455 69 1 0 0 3 176 true 181 177 .none (.ref 178) (.ref 179) (.ref 180) 457 69 458
def zt:=HD.fu lT lT (ht 22) gE 313 181
def xG:=HD.tp [(.str ff 463)]
def Kw:=HD.fs mq mq (ht 23)
def Ay:=HD.cd mq mq a_ 460 461 462 71 1 0 0 3 183 true 181 184 .none (.ref 185) (.ref 186) (.ref 187) 464 71 465
def xR:=HD.fu mq mq (ht 23) gE 313 188
def xQ:=HD.tp [(.str ff 470)]
def Mw:=HD.fs mG mG (ht 24)
def zx:=HD.cd mG mG a_ 467 468 469 73 1 0 0 3 190 true 181 191 .none (.ref 192) (.ref 193) (.ref 194) 471 73 472
def yv:=HD.fu mG mG (ht 24) gE 313 195
def KU:=HD.fs mE mE (ht 25)
def yk:=HD.cd mE mE a_ 474 475 476 77 1 0 0 3 197 true 181 198 .none .none .none (.ref 199) 477 77 478
def AL:=HD.fu mE mE (ht 25) gE 313 200
def LI:=HD.fs mm mm (ht 26)
def zl:=HD.cd mm mm a_ 480 481 482 80 1 0 0 3 202 true 181 203 .none .none .none (.ref 204) 483 80 484
def xU:=HD.fu mm mm (ht 26) gE 313 205
noncomputable def WN:List Stmt:=[ht 15,ht 16,ht 17,ht 18,ht 19,ht 20,ht 21,ht 22,ht 23,ht 24,ht 25,ht 26]
noncomputable def ZT7(P:Params):BT:=(HD.tV [xj P,ae,aA,A8,ae,Oh,xy,zp,ae,aA,L8,zB,Ac,ae,aA,Av,ae,MZ,yS,AF,ae,aA,NR,AX,yR,ae,aA,KZ,xA,xP,ae,aA,zo,ae,Oc,An,yU,ae,aA,yz,ae,Og,Ar,zt,ae,aA,xG,ae,Kw,Ay,xR,ae,aA,xQ,ae,Mw,zx,yv,ae,aA,KU,yk,AL,ae,aA,LI,zl,xU] (((ZT6 P).ins (nat_lit 3) (abJ P)).ins (nat_lit 12) (RH)) (nat_lit 139))
noncomputable abbrev Rr(w:World)(os:OsState):SharedT:=⟨ZT7 w.params,nat_lit 207,pU,Array.mk [],⟨0,0,0,0⟩,nat_lit 486,os⟩
noncomputable def X9:HD.kW (HD.F4):=λw=>(λos=>segRunT treeTable pw (w.withFollow "special-get-raises" false) (nat_lit 11) (some (.ref 6)) (nat_lit 1) (nat_lit 392) (OO (w.withFollow "special-get-raises" false) os) (piecesOf WN gK dR ⟨32,0,32,8⟩ fY),λos=>some (Flow.next,Rr (w.withFollow "special-get-raises" false) os,dR,⟨80,0,83,72⟩))
theorem P7:(λw:World=>HD.seg pw (nat_lit 11) (some (.ref 6)) (nat_lit 392) OO Rr WN gK dR ⟨32,0,32,8⟩ ⟨80,0,83,72⟩ fY (w.withFollow "special-get-raises" false))=X9:=by kernel_rfl
name_quick Mt for X9 by P7
theorem aaW(w:World):(Fast.Mt w).1=(Fast.Mt w).2:=by kernel_rfl
noncomputable def ZX:HD.kW (HD.F4):=λw=>(λos=>segRunT treeTable pw (w.withFollow "special-get-raises" true) (nat_lit 11) (some (.ref 6)) (nat_lit 1) (nat_lit 392) (OO (w.withFollow "special-get-raises" true) os) (piecesOf WN gK dR ⟨32,0,32,8⟩ fY),λos=>some (Flow.next,Rr (w.withFollow "special-get-raises" true) os,dR,⟨80,0,83,72⟩))
theorem QU:(λw:World=>HD.seg pw (nat_lit 11) (some (.ref 6)) (nat_lit 392) OO Rr WN gK dR ⟨32,0,32,8⟩ ⟨80,0,83,72⟩ fY (w.withFollow "special-get-raises" true))=ZX:=by kernel_rfl
name_quick M6 for ZX by QU
theorem aaI(w:World):(Fast.M6 w).1=(Fast.M6 w).2:=by kernel_rfl
theorem Zh7:HD.Ok (HD.seg pw (nat_lit 11) (some (.ref 6)) (nat_lit 392) OO Rr WN gK dR ⟨32,0,32,8⟩ ⟨80,0,83,72⟩ fY):=HD.DM "special-get-raises" Fast.Mt_eq Fast.M6_eq aaW aaI
def abQ:=HD.dc [HD.e P Zx0 165 (.str uf 574),HD.e P Po 166 .none,HD.e P Zx3 167 .none,HD.e P Zx4 168 (.builtin "__main__.__loader__#opaque"),HD.e P Zx5 169 .none,HD.e P G5 170 (.ref 6),HD.e P Hy 171 (.ref 4),HD.e P GZ 173 (.str a_ 172),HD.e P GS 174 .none,HD.e P kq 193 (.ref 21),HD.e P pe 220 (.ref 38),HD.e P oV 243 (.ref 58),HD.e P oN 266 (.ref 77),HD.e P o7 289 (.ref 96),HD.e P uv 312 (.ref 115),HD.e P LG 316 (.int (.ofNat 600) 315),HD.e P KH 318 (.int (.ofNat 40) 317),HD.e P Nt 320 (.int (.ofNat 99) 319),HD.e P Lp 322 (.int (.ofNat 12) 321),HD.e P Nb 324 (.str NV 323),HD.e P Ot 330 (.ref 118),HD.e P N8 395 (.ref 119),HD.e P L0 411 (.ref 139),HD.e P kX 418 (.ref 146),HD.e P mj 424 (.ref 151),HD.e P lN 432 (.ref 158),HD.e P lQ 438 (.ref 163),HD.e P mv 444 (.ref 168),HD.e P m5 452 (.ref 175),HD.e P lT 459 (.ref 182),HD.e P mq 466 (.ref 189),HD.e P mG 473 (.ref 196),HD.e P mE 479 (.ref 201),HD.e P mm 485 (.ref 206),HD.e P oO 492 (.ref 213),HD.e P pd 500 (.ref 220),HD.e P o_ 511 (.ref 227),HD.e P oK 521 (.ref 234),HD.e P pC 532 (.ref 241),HD.e P pD 541 (.ref 248),HD.e P o8 549 (.ref 253),HD.e P ph 561 (.ref 260),HD.e P oR 573 (.ref 267)] 43
def RA:=HD.fa (RH) [(HD.i 84),(HD.i 0),(.ref 212),(HD.i 88),(HD.i 0),(.ref 219),(HD.i 93),(HD.i 0),(.ref 226),(HD.i 98),(HD.i 0),(.ref 233),(HD.i 103),(HD.i 0),(.ref 240),(HD.i 110),(HD.i 0),(.ref 247),(HD.i 113),(HD.i 0),(.ref 252),(HD.i 118),(HD.i 0),(.ref 259),(HD.i 123),(HD.i 0),(.ref 266)]
def yi:=HD.tp [(.str ff 489)]
def Lo:=HD.fs oO oO (ht 27)
def zP:=HD.cd oO oO a_ 486 487 488 84 1 0 0 3 207 true 181 208 .none (.ref 209) (.ref 210) (.ref 211) 490 84 491
def zZ:=HD.fu oO oO (ht 27) gE 313 212
def yB:=HD.tp [(.str ff 496),(.str K5 497)]
def Kn:=HD.fs pd pd (ht 28)
def Ad:=HD.cd pd pd a_ 493 494 495 88 2 0 0 3 214 true 181 215 .none (.ref 216) (.ref 217) (.ref 218) 498 88 499
def zC:=HD.fu pd pd (ht 28) gE 313 219
def xO:=HD.tp [(.str ff 506),(.str Gk 507),(.str K5 508)]
def LK:=HD.fs o_ o_ (ht 30)
def xB:=HD.cd o_ o_ a_ 503 504 505 93 2 0 0 3 221 true 181 222 .none (.ref 223) (.ref 224) (.ref 225) 509 93 510
def yV:=HD.fu o_ o_ (ht 30) F6 501 226
def zr:=HD.tp [(.str ff 515),(.str Ho 516),(.str Ob 517),(.str Gk 518)]
def NM:=HD.fs oK oK (ht 31)
def zd:=HD.cd oK oK a_ 512 513 514 98 2 0 0 3 228 true 181 229 .none (.ref 230) (.ref 231) (.ref 232) 519 98 520
def Au:=HD.fu oK oK (ht 31) F6 501 233
def zi:=HD.tp [(.str ff 525),(.str Ho 526),(.str RB 527),(.str SJ 528),(.str K5 529)]
def Nu:=HD.fs pC pC (ht 32)
def yY:=HD.cd pC pC a_ 522 523 524 103 3 0 0 3 235 true 181 236 .none (.ref 237) (.ref 238) (.ref 239) 530 103 531
def zc:=HD.fu pC pC (ht 32) F6 501 240
def xW:=HD.tp [(.str ff 536),(.str Ho 537),(.str RB 538)]
def N4:=HD.fs pD pD (ht 33)
def Ag:=HD.cd pD pD a_ 533 534 535 110 3 0 0 3 242 true 181 243 .none (.ref 244) (.ref 245) (.ref 246) 539 110 540
def za:=HD.fu pD pD (ht 33) F6 501 247
def Nk:=HD.fs o8 o8 (ht 35)
def zF:=HD.cd o8 o8 a_ 544 545 546 113 3 0 0 3 249 true 181 250 .none .none .none (.ref 251) 547 113 548
def xm:=HD.fu o8 o8 (ht 35) LQ 542 252
def yJ:=HD.tp [(.str ff 553),(.str Rq 554),(.str SM 555),(.str Q3 556)]
def xF:=HD.tp [(.str Rq 557),(.str SM 558)]
def Lh:=HD.fs ph ph (ht 36)
def zE:=HD.cd ph ph a_ 550 551 552 118 3 0 0 3 254 true 181 255 .none (.ref 256) (.ref 257) (.ref 258) 559 118 560
def xH:=HD.fu ph ph (ht 36) LQ 542 259
def zN:=HD.tp [(.str ff 565),(.str SX 566),(.str Q6 567),(.str Q3 568)]
def xJ:=HD.tp [(.str SX 569),(.str Q6 570)]
def Nq:=HD.fs oR oR (ht 37)
def xX:=HD.cd oR oR a_ 562 563 564 123 3 0 0 3 261 true 181 262 .none (.ref 263) (.ref 264) (.ref 265) 571 123 572
def xh:=HD.fu oR oR (ht 37) LQ 542 266
noncomputable def Zg8:List Stmt:=[ht 27,ht 28,ht 29,ht 30,ht 31,ht 32,ht 33,ht 34,ht 35,ht 36,ht 37,ht 38]
noncomputable def ZT8(P:Params):BT:=(HD.tV [ae,aA,yi,ae,Lo,zP,zZ,ae,aA,yB,ae,Kn,Ad,zC,ae,aA,xO,ae,LK,xB,yV,ae,aA,zr,ae,NM,zd,Au,ae,aA,zi,ae,Nu,yY,zc,ae,aA,xW,ae,N4,Ag,za,ae,aA,Nk,zF,xm,ae,aA,yJ,xF,Lh,zE,xH,ae,aA,zN,xJ,Nq,xX,xh] (((ZT7 P).ins (nat_lit 3) (abQ P)).ins (nat_lit 12) (RA)) (nat_lit 207))
noncomputable abbrev SS(w:World)(os:OsState):SharedT:=⟨ZT8 w.params,nat_lit 268,pU,Array.mk [],⟨0,0,0,0⟩,nat_lit 576,os⟩
noncomputable def Zq8:HD.kW (HD.F4):=λw=>(λos=>segRunT treeTable pw w (nat_lit 11) (some (.ref 6)) (nat_lit 1) (nat_lit 308) (Rr w os) (piecesOf Zg8 gK dR ⟨80,0,83,72⟩ fY),λos=>some (Flow.next,SS w os,dR,⟨130,0,130,8⟩))
theorem Vt:HD.seg pw (nat_lit 11) (some (.ref 6)) (nat_lit 308) Rr SS Zg8 gK dR ⟨80,0,83,72⟩ ⟨130,0,130,8⟩ fY=Zq8:=by kernel_rfl
name_quick Ru for Zq8 by Vt
theorem Zi8(w:World):(Fast.Ru w).1=(Fast.Ru w).2:=by kernel_rfl
theorem Zh8:HD.Ok (HD.seg pw (nat_lit 11) (some (.ref 6)) (nat_lit 308) Rr SS Zg8 gK dR ⟨80,0,83,72⟩ ⟨130,0,130,8⟩ fY):=HD.kh Fast.Ru_eq Zi8
def Z_:=HD.dc [HD.e P Zx0 165 (.str dI 676),HD.e P Po 166 .none,HD.e P Zx3 167 .none,HD.e P Zx4 168 (.builtin "__main__.__loader__#opaque"),HD.e P Zx5 169 .none,HD.e P G5 170 (.ref 6),HD.e P Hy 171 (.ref 4),HD.e P GZ 173 (.str a_ 172),HD.e P GS 174 .none,HD.e P kq 193 (.ref 21),HD.e P pe 220 (.ref 38),HD.e P oV 243 (.ref 58),HD.e P oN 266 (.ref 77),HD.e P o7 289 (.ref 96),HD.e P uv 312 (.ref 115),HD.e P LG 316 (.int (.ofNat 600) 315),HD.e P KH 318 (.int (.ofNat 40) 317),HD.e P Nt 320 (.int (.ofNat 99) 319),HD.e P Lp 322 (.int (.ofNat 12) 321),HD.e P Nb 324 (.str NV 323),HD.e P Ot 330 (.ref 118),HD.e P N8 395 (.ref 119),HD.e P L0 411 (.ref 139),HD.e P kX 418 (.ref 146),HD.e P mj 424 (.ref 151),HD.e P lN 432 (.ref 158),HD.e P lQ 438 (.ref 163),HD.e P mv 444 (.ref 168),HD.e P m5 452 (.ref 175),HD.e P lT 459 (.ref 182),HD.e P mq 466 (.ref 189),HD.e P mG 473 (.ref 196),HD.e P mE 479 (.ref 201),HD.e P mm 485 (.ref 206),HD.e P oO 492 (.ref 213),HD.e P pd 500 (.ref 220),HD.e P o_ 511 (.ref 227),HD.e P oK 521 (.ref 234),HD.e P pC 532 (.ref 241),HD.e P pD 541 (.ref 248),HD.e P o8 549 (.ref 253),HD.e P ph 561 (.ref 260),HD.e P oR 573 (.ref 267),HD.e P Xw 604 (.ref 268),HD.e P sT 615 (.ref 286),HD.e P sP 623 (.ref 293),HD.e P tX 632 (.ref 300),HD.e P uo 643 (.ref 307),HD.e P tw 649 (.ref 312),HD.e P t_ 661 (.ref 319),HD.e P sL 675 (.ref 326),HD.e P s_ 688 (.ref 333)] 52
def R3:=HD.fa (RA) [(HD.i 132),(HD.i 0),(.ref 285),(HD.i 139),(HD.i 0),(.ref 292),(HD.i 142),(HD.i 0),(.ref 299),(HD.i 154),(HD.i 0),(.ref 306),(HD.i 160),(HD.i 0),(.ref 311),(HD.i 166),(HD.i 0),(.ref 318),(HD.i 176),(HD.i 0),(.ref 325),(HD.i 188),(HD.i 0),(.ref 332)]
def yQ:=HD.dc [HD.e P RD 576 (.ref 270),HD.e P M_ 580 (.ref 273),HD.e P OG 587 (.ref 275),HD.e P KA 591 (.ref 277),HD.e P Mo 595 (.ref 279)] 5
def zT:=HD.tp [(.int (.ofNat 1) 577),(.str Hl 578),(.str Hl 579)]
def xT:=HD.tp [(.ref 269)]
def zj:=HD.tp [(.int (.ofNat 4) 581),(.str Km 582),(.str Km 583)]
def yE:=HD.tp [(.int (.ofNat 4) 584),(.str VU 585),(.str VU 586)]
def Aj:=HD.tp [(.ref 271),(.ref 272)]
def AR:=HD.tp [(.int (.ofNat 3) 588),(.str Mv 589),(.str Mv 590)]
def yI:=HD.tp [(.ref 274)]
def zf:=HD.tp [(.int (.ofNat 1) 592),(.str ML 593),(.str KA 594)]
def xE:=HD.tp [(.ref 276)]
def AO:=HD.tp [(.int (.ofNat 1) 596),(.str ML 597),(.str Mo 598)]
def AI:=HD.tp [(.ref 278)]
def zO:=HD.tp [(.str ff 608),(.str Cp 609),(.str ZC 610),(.str YA 611),(.str Ia 612)]
def Ni:=HD.fs sT sT (ht 40)
def xi:=HD.cd sT sT a_ 605 606 607 132 2 0 0 3 280 true 181 281 .none (.ref 282) (.ref 283) (.ref 284) 613 132 614
def AE:=HD.fu sT sT (ht 40) uf 574 285
def Af:=HD.tp [(.str ff 619),(.str Gk 620)]
def Ko:=HD.fs sP sP (ht 41)
def yl:=HD.cd sP sP a_ 616 617 618 139 1 0 0 3 287 true 181 288 .none (.ref 289) (.ref 290) (.ref 291) 621 139 622
def Aq:=HD.fu sP sP (ht 41) uf 574 292
def xp:=HD.tp [(.str ff 627),(.str Ia 628),(.str Cp 629)]
def Oj:=HD.fs tX tX (ht 42)
def yH:=HD.cd tX tX a_ 624 625 626 142 3 0 0 3 294 true 181 295 .none (.ref 296) (.ref 297) (.ref 298) 630 142 631
def xI:=HD.fu tX tX (ht 42) uf 574 299
def xa:=HD.tp [(.str ff 636),(.str Ho 637),(.str Cp 638),(.str Ob 639),(.str Ia 640)]
def Ny:=HD.fs uo uo (ht 43)
def AG:=HD.cd uo uo a_ 633 634 635 154 3 0 0 3 301 true 181 302 .none (.ref 303) (.ref 304) (.ref 305) 641 154 642
def xq:=HD.fu uo uo (ht 43) uf 574 306
def Of:=HD.fs tw tw (ht 44)
def xr:=HD.cd tw tw a_ 644 645 646 160 2 0 0 3 308 true 181 309 .none .none .none (.ref 310) 647 160 648
def yp:=HD.fu tw tw (ht 44) uf 574 311
def yC:=HD.tp [(.str ff 653),(.str Cp 654),(.str Ia 655),(.str Gk 656),(.str SJ 657),(.str RJ 658)]
def Mi:=HD.fs t_ t_ (ht 45)
def xn:=HD.cd t_ t_ a_ 650 651 652 166 2 0 0 3 313 true 181 314 .none (.ref 315) (.ref 316) (.ref 317) 659 166 660
def A3:=HD.fu t_ t_ (ht 45) uf 574 318
def yf:=HD.tp [(.str ff 667),(.str Yq 668),(.str Cp 669),(.str Ob 670),(.str XB 671),(.str RJ 672)]
def Nd:=HD.fs sL sL (ht 47)
def AY:=HD.cd sL sL a_ 664 665 666 176 3 0 0 3 320 true 181 321 .none (.ref 322) (.ref 323) (.ref 324) 673 176 674
def zm:=HD.fu sL sL (ht 47) Ys 662 325
def xx:=HD.tp [(.str hU 681),(.str ie 682),(.str Yt 683),(.str Zl 684),(.str XG 685)]
def LS:=HD.fs s_ s_ (ht 49)
def w_:=HD.cd s_ s_ a_ 678 679 680 188 3 0 0 3 327 true 181 328 .none (.ref 329) (.ref 330) (.ref 331) 686 188 687
def zh:=HD.fu s_ s_ (ht 49) dI 676 332
noncomputable def WZ:List Stmt:=[ht 39,ht 40,ht 41,ht 42,ht 43,ht 44,ht 45,ht 46,ht 47,ht 48,ht 49]
noncomputable def ZT9(P:Params):BT:=(HD.tV [yQ P,zT,xT,zj,yE,Aj,AR,yI,zf,xE,AO,AI,ae,aA,zO,ae,Ni,xi,AE,ae,aA,Af,ae,Ko,yl,Aq,ae,aA,xp,ae,Oj,yH,xI,ae,aA,xa,ae,Ny,AG,xq,ae,aA,Of,xr,yp,ae,aA,yC,ae,Mi,xn,A3,ae,aA,yf,ae,Nd,AY,zm,ae,aA,xx,ae,LS,w_,zh] (((ZT8 P).ins (nat_lit 3) (Z_ P)).ins (nat_lit 12) (R3)) (nat_lit 268))
noncomputable abbrev SI(w:World)(os:OsState):SharedT:=⟨ZT9 w.params,nat_lit 334,pU,Array.mk [],⟨0,0,0,0⟩,nat_lit 689,os⟩
noncomputable def Zr:HD.kW (HD.F4):=λw=>(λos=>segRunT treeTable pw (w.withFollow "special-get-raises" false) (nat_lit 11) (some (.ref 6)) (nat_lit 1) (nat_lit 393) (SS (w.withFollow "special-get-raises" false) os) (piecesOf WZ gK dR ⟨130,0,130,8⟩ fY),λos=>some (Flow.next,SI (w.withFollow "special-get-raises" false) os,dR,⟨188,0,195,88⟩))
theorem Qm:(λw:World=>HD.seg pw (nat_lit 11) (some (.ref 6)) (nat_lit 393) SS SI WZ gK dR ⟨130,0,130,8⟩ ⟨188,0,195,88⟩ fY (w.withFollow "special-get-raises" false))=Zr:=by kernel_rfl
name_quick KS for Zr by Qm
theorem aa2(w:World):(Fast.KS w).1=(Fast.KS w).2:=by kernel_rfl
noncomputable def Xq:HD.kW (HD.F4):=λw=>(λos=>segRunT treeTable pw (w.withFollow "special-get-raises" true) (nat_lit 11) (some (.ref 6)) (nat_lit 1) (nat_lit 393) (SS (w.withFollow "special-get-raises" true) os) (piecesOf WZ gK dR ⟨130,0,130,8⟩ fY),λos=>some (Flow.next,SI (w.withFollow "special-get-raises" true) os,dR,⟨188,0,195,88⟩))
theorem Qk:(λw:World=>HD.seg pw (nat_lit 11) (some (.ref 6)) (nat_lit 393) SS SI WZ gK dR ⟨130,0,130,8⟩ ⟨188,0,195,88⟩ fY (w.withFollow "special-get-raises" true))=Xq:=by kernel_rfl
name_quick K4 for Xq by Qk
theorem abK(w:World):(Fast.K4 w).1=(Fast.K4 w).2:=by kernel_rfl
theorem Zh9:HD.Ok (HD.seg pw (nat_lit 11) (some (.ref 6)) (nat_lit 393) SS SI WZ gK dR ⟨130,0,130,8⟩ ⟨188,0,195,88⟩ fY):=HD.DM "special-get-raises" Fast.KS_eq Fast.K4_eq aa2 abK
def Q4:=HD.dm (Z_ P) [HD.e P sE 695 (.ref 340),HD.e P sM 701 (.ref 345),HD.e P sD 712 (.ref 352),HD.e P sf 726 (.ref 359),HD.e P tm 738 (.ref 366),HD.e P uC 751 (.ref 373),HD.e P tW 763 (.ref 380),HD.e P r_ 774 (.ref 387),HD.e P tM 790 (.ref 394),HD.e P tF 805 (.ref 401),HD.e P tU 817 (.ref 408),HD.e P uE 824 (.ref 415)] 64
def Mb:=HD.fa (R3) [(HD.i 196),(HD.i 0),(.ref 339),(HD.i 202),(HD.i 0),(.ref 344),(HD.i 211),(HD.i 0),(.ref 351),(HD.i 222),(HD.i 0),(.ref 358),(HD.i 232),(HD.i 0),(.ref 365),(HD.i 235),(HD.i 0),(.ref 372),(HD.i 239),(HD.i 0),(.ref 379),(HD.i 242),(HD.i 0),(.ref 386),(HD.i 246),(HD.i 0),(.ref 393),(HD.i 258),(HD.i 0),(.ref 400),(HD.i 279),(HD.i 0),(.ref 407),(HD.i 286),(HD.i 0),(.ref 414)]
def qv:=HD.tp [(.str MI 692)]
def Gq:=HD.fs sE sE (ht 50)
def qL:=HD.cd sE sE a_ 689 690 691 196 1 0 0 3 334 true 181 335 .none (.ref 336) (.ref 337) (.ref 338) 693 196 694
def rE:=HD.fu sE sE (ht 50) dI 676 339
def G3:=HD.fs sM sM (ht 51)
def qy:=HD.cd sM sM a_ 696 697 698 202 2 0 0 3 341 true 181 342 .none .none .none (.ref 343) 699 202 700
def rC:=HD.fu sM sM (ht 51) dI 676 344
def qI:=HD.tp [(.str hU 705),(.str ie 706),(.str ku 707),(.str i_ 708),(.str BW 709)]
def GQ:=HD.fs sD sD (ht 52)
def qi:=HD.cd sD sD a_ 702 703 704 211 4 0 0 3 346 true 181 347 .none (.ref 348) (.ref 349) (.ref 350) 710 211 711
def rH:=HD.fu sD sD (ht 52) dI 676 351
def rN:=HD.tp [(.str hU 716),(.str ie 717),(.str kA 718),(.str ku 719),(.str i_ 720),(.str BW 721),(.str N5 722),(.str wY 723)]
def HE:=HD.fs sf sf (ht 53)
def qx:=HD.cd sf sf a_ 713 714 715 222 5 0 0 3 353 true 181 354 .none (.ref 355) (.ref 356) (.ref 357) 724 222 725
def qT:=HD.fu sf sf (ht 53) dI 676 358
def rJ:=HD.tp [(.str hU 730),(.str ie 731),(.str kA 732),(.str ku 733),(.str i_ 734),(.str wY 735)]
def F3:=HD.fs tm tm (ht 54)
def qu:=HD.cd tm tm a_ 727 728 729 232 5 0 0 3 360 true 181 361 .none (.ref 362) (.ref 363) (.ref 364) 736 232 737
def qG:=HD.fu tm tm (ht 54) dI 676 365
def qH:=HD.tp [(.str hU 742),(.str ie 743),(.str kA 744),(.str ku 745),(.str i_ 746),(.str wY 747),(.str N5 748)]
def GB:=HD.fs uC uC (ht 55)
def qp:=HD.cd uC uC a_ 739 740 741 235 5 0 0 3 367 true 181 368 .none (.ref 369) (.ref 370) (.ref 371) 749 235 750
def qS:=HD.fu uC uC (ht 55) dI 676 372
def rY:=HD.tp [(.str hU 755),(.str ie 756),(.str kA 757),(.str ku 758),(.str i_ 759),(.str wY 760)]
def F8:=HD.fs tW tW (ht 56)
def rh:=HD.cd tW tW a_ 752 753 754 239 5 0 0 3 374 true 181 375 .none (.ref 376) (.ref 377) (.ref 378) 761 239 762
def r9:=HD.fu tW tW (ht 56) dI 676 379
def qY:=HD.tp [(.str hU 767),(.str ie 768),(.str kA 769),(.str ku 770),(.str i_ 771)]
def Gj:=HD.fs r_ r_ (ht 57)
def rj:=HD.cd r_ r_ a_ 764 765 766 242 5 0 0 3 381 true 181 382 .none (.ref 383) (.ref 384) (.ref 385) 772 242 773
def qW:=HD.fu r_ r_ (ht 57) dI 676 386
def rO:=HD.tp [(.str hU 778),(.str ie 779),(.str kA 780),(.str ku 781),(.str i_ 782),(.str BW 783),(.str MI 784),(.str wY 785),(.str N5 786),(.str YV 787)]
def F_:=HD.fs tM tM (ht 58)
def qz:=HD.cd tM tM a_ 775 776 777 246 6 0 0 3 388 true 181 389 .none (.ref 390) (.ref 391) (.ref 392) 788 246 789
def qw:=HD.fu tM tM (ht 58) dI 676 393
def rZ:=HD.tp [(.str hU 794),(.str ie 795),(.str kA 796),(.str ku 797),(.str i_ 798),(.str BW 799),(.str Zb 800),(.str YC 801),(.str Xr 802)]
def Hq:=HD.fs tF tF (ht 59)
def qR:=HD.cd tF tF a_ 791 792 793 258 6 0 0 3 395 true 181 396 .none (.ref 397) (.ref 398) (.ref 399) 803 258 804
def q_:=HD.fu tF tF (ht 59) dI 676 400
def rF:=HD.tp [(.str hU 809),(.str ie 810),(.str kA 811),(.str ku 812),(.str i_ 813),(.str BW 814)]
def Hc:=HD.fs tU tU (ht 60)
def qJ:=HD.cd tU tU a_ 806 807 808 279 5 0 0 3 402 true 181 403 .none (.ref 404) (.ref 405) (.ref 406) 815 279 816
def qA:=HD.fu tU tU (ht 60) dI 676 407
def rW:=HD.tp [(.str sN 821)]
def GU:=HD.fs uE uE (ht 61)
def rR:=HD.cd uE uE a_ 818 819 820 286 1 0 0 3 409 true 181 410 .none (.ref 411) (.ref 412) (.ref 413) 822 286 823
def qQ:=HD.fu uE uE (ht 61) dI 676 414
noncomputable def Pp:List Stmt:=[ht 50,ht 51,ht 52,ht 53,ht 54,ht 55,ht 56,ht 57,ht 58,ht 59,ht 60,ht 61]
noncomputable def aae(P:Params):BT:=(HD.tV [ae,aA,qv,ae,Gq,qL,rE,ae,aA,G3,qy,rC,ae,aA,qI,ae,GQ,qi,rH,ae,aA,rN,ae,HE,qx,qT,ae,aA,rJ,ae,F3,qu,qG,ae,aA,qH,ae,GB,qp,qS,ae,aA,rY,ae,F8,rh,r9,ae,aA,qY,ae,Gj,rj,qW,ae,aA,rO,ae,F_,qz,qw,ae,aA,rZ,ae,Hq,qR,q_,ae,aA,rF,ae,Hc,qJ,qA,ae,aA,rW,ae,GU,rR,qQ] (((ZT9 P).ins (nat_lit 3) (Q4 P)).ins (nat_lit 12) (Mb)) (nat_lit 334))
noncomputable abbrev Jd(w:World)(os:OsState):SharedT:=⟨aae w.params,nat_lit 416,pU,Array.mk [],⟨0,0,0,0⟩,nat_lit 825,os⟩
noncomputable def Z8:HD.kW (HD.F4):=λw=>(λos=>segRunT treeTable pw w (nat_lit 11) (some (.ref 6)) (nat_lit 1) (nat_lit 399) (SI w os) (piecesOf Pp gK dR ⟨188,0,195,88⟩ fY),λos=>some (Flow.next,Jd w os,dR,⟨286,0,289,36⟩))
theorem Pb:HD.seg pw (nat_lit 11) (some (.ref 6)) (nat_lit 399) SI Jd Pp gK dR ⟨188,0,195,88⟩ ⟨286,0,289,36⟩ fY=Z8:=by kernel_rfl
name_quick NA for Z8 by Pb
theorem abZ(w:World):(Fast.NA w).1=(Fast.NA w).2:=by kernel_rfl
theorem aba:HD.Ok (HD.seg pw (nat_lit 11) (some (.ref 6)) (nat_lit 399) SI Jd Pp gK dR ⟨188,0,195,88⟩ ⟨286,0,289,36⟩ fY):=HD.kh Fast.NA_eq abZ
def Ie:=HD.dm (Q4 P) [HD.e P sd 836 (.ref 422),HD.e P tT 844 (.ref 429),HD.e P sA 856 (.ref 436),HD.e P tL 868 (.ref 443),HD.e P tO 878 (.ref 450),HD.e P tZ 893 (.ref 457),HD.e P uK 901 (.ref 464),HD.e P sQ 918 (.ref 471)] 72
def MA:=HD.fa (Mb) [(HD.i 290),(HD.i 0),(.ref 421),(HD.i 302),(HD.i 0),(.ref 428),(HD.i 305),(HD.i 0),(.ref 435),(HD.i 313),(HD.i 0),(.ref 442),(HD.i 319),(HD.i 0),(.ref 449),(HD.i 329),(HD.i 0),(.ref 456),(HD.i 340),(HD.i 0),(.ref 463),(HD.i 347),(HD.i 0),(.ref 470)]
def qo:=HD.tp [(.str sN 828),(.str ZK 829),(.str kA 830),(.str Yl 831),(.str Y6 832),(.str QZ 833)]
def Gd:=HD.fs sd sd (ht 62)
def rQ:=HD.cd sd sd a_ 825 826 827 290 1 0 0 3 416 true 181 417 .none (.ref 418) (.ref 419) (.ref 420) 834 290 835
def qk:=HD.fu sd sd (ht 62) dI 676 421
def qM:=HD.tp [(.str sN 840),(.str QZ 841)]
def GH:=HD.fs tT tT (ht 63)
def qV:=HD.cd tT tT a_ 837 838 839 302 1 0 0 3 423 true 181 424 .none (.ref 425) (.ref 426) (.ref 427) 842 302 843
def rD:=HD.fu tT tT (ht 63) dI 676 428
def qD:=HD.tp [(.str hU 848),(.str ie 849),(.str kA 850),(.str ku 851),(.str i_ 852),(.str Zz 853)]
def Gr:=HD.fs sA sA (ht 64)
def ql:=HD.cd sA sA a_ 845 846 847 305 5 0 0 3 430 true 181 431 .none (.ref 432) (.ref 433) (.ref 434) 854 305 855
def qm:=HD.fu sA sA (ht 64) dI 676 435
def qr:=HD.tp [(.str hU 860),(.str ie 861),(.str i_ 862),(.str By 863),(.str ZY 864),(.str wY 865)]
def Gf:=HD.fs tL tL (ht 65)
def qP:=HD.cd tL tL a_ 857 858 859 313 3 0 0 3 437 true 181 438 .none (.ref 439) (.ref 440) (.ref 441) 866 313 867
def rS:=HD.fu tL tL (ht 65) dI 676 442
def Hj:=HD.tp [(.str sN 872),(.str By 873),(.str MI 874),(.str Y1 875)]
def HP:=HD.fs tO tO (ht 66)
def Im:=HD.cd tO tO a_ 869 870 871 319 2 0 0 3 444 true 181 445 .none (.ref 446) (.ref 447) (.ref 448) 876 319 877
def HN:=HD.fu tO tO (ht 66) dI 676 449
def HI:=HD.tp [(.str sN 882),(.str By 883),(.str YL 884),(.str aah 885),(.str Zq 886),(.str XC 887),(.str aaD 888),(.str Yw 889),(.str aar 890)]
def GF:=HD.fs tZ tZ (ht 67)
def Gu:=HD.cd tZ tZ a_ 879 880 881 329 2 0 0 3 451 true 181 452 .none (.ref 453) (.ref 454) (.ref 455) 891 329 892
def Gp:=HD.fu tZ tZ (ht 67) dI 676 456
def rM:=HD.tp [(.str sN 897),(.str By 898)]
def HR:=HD.fs uK uK (ht 68)
def rg:=HD.cd uK uK a_ 894 895 896 340 2 0 0 3 458 true 181 459 .none (.ref 460) (.ref 461) (.ref 462) 899 340 900
def qb:=HD.fu uK uK (ht 68) dI 676 463
def r8:=HD.tp [(.str hU 905),(.str ie 906),(.str i_ 907),(.str By 908),(.str sN 909),(.str ZR 910),(.str YT 911),(.str Xo 912),(.str YU 913),(.str Z5 914),(.str YX 915)]
def Hh:=HD.fs sQ sQ (ht 69)
def qh:=HD.cd sQ sQ a_ 902 903 904 347 1 0 0 3 465 true 181 466 .none (.ref 467) (.ref 468) (.ref 469) 916 347 917
def rV:=HD.fu sQ sQ (ht 69) dI 676 470
noncomputable def Pf:List Stmt:=[ht 62,ht 63,ht 64,ht 65,ht 66,ht 67,ht 68,ht 69]
noncomputable def aaL(P:Params):BT:=(HD.tV [ae,aA,qo,ae,Gd,rQ,qk,ae,aA,qM,ae,GH,qV,rD,ae,aA,qD,ae,Gr,ql,qm,ae,aA,qr,ae,Gf,qP,rS,ae,aA,Hj,ae,HP,Im,HN,ae,aA,HI,ae,GF,Gu,Gp,ae,aA,rM,ae,HR,rg,qb,ae,aA,r8,ae,Hh,qh,rV] (((aae P).ins (nat_lit 3) (Ie P)).ins (nat_lit 12) (MA)) (nat_lit 416))
noncomputable abbrev Jw(w:World)(os:OsState):SharedT:=⟨aaL w.params,nat_lit 472,pU,Array.mk [],⟨0,0,0,0⟩,nat_lit 919,os⟩
noncomputable def aag:HD.kW (HD.F4):=λw=>(λos=>segRunT treeTable pw w (nat_lit 11) (some (.ref 6)) (nat_lit 1) (nat_lit 271) (Jd w os) (piecesOf Pf gK dR ⟨286,0,289,36⟩ fY),λos=>some (Flow.next,Jw w os,dR,⟨347,0,368,79⟩))
theorem OS:HD.seg pw (nat_lit 11) (some (.ref 6)) (nat_lit 271) Jd Jw Pf gK dR ⟨286,0,289,36⟩ ⟨347,0,368,79⟩ fY=aag:=by kernel_rfl
name_quick KO for aag by OS
theorem abq(w:World):(Fast.KO w).1=(Fast.KO w).2:=by kernel_rfl
theorem aaT:HD.Ok (HD.seg pw (nat_lit 11) (some (.ref 6)) (nat_lit 271) Jd Jw Pf gK dR ⟨286,0,289,36⟩ ⟨347,0,368,79⟩ fY):=HD.kh Fast.KO_eq abq
noncomputable def Xl(r:List (Obj)):List (Obj):=PySem.W.boot_o_0 P::PySem.W.boot_o_1 P::PySem.W.boot_o_2 P::Ie P::PySem.W.boot_o_4 P::PySem.W.boot_o_5 P::PySem.W.boot_o_6 P::PySem.W.boot_o_7 P::PySem.W.boot_o_8 P::PySem.W.boot_o_9 P::PySem.W.boot_o_10 P::ae::r
noncomputable def Zc(r:List (Obj)):List (Obj):=MA::L7::NB::ae::aA::F9::ae::RG::Il::HC::Gm::kz::r
noncomputable def YG(r:List (Obj)):List (Obj):=Rm P::ae::S3::R5::Su::ae::aA::GV::ae::Rh::GO::GK::r
noncomputable def ZP(r:List (Obj)):List (Obj):=ae::G_ P::GL::F7::RS::Rj::fA::kz::Rl P::ae::Sk::R8::r
noncomputable def YK(r:List (Obj)):List (Obj):=SW::ae::aA::Ib::ae::S_::Gx::Hx::ae::Ha P::F5::SO::r
noncomputable def Xn(r:List (Obj)):List (Obj):=RY::fA::kz::Rg P::ae::S8::S9::Q1::ae::aA::Hf::ae::r
noncomputable def Yr(r:List (Obj)):List (Obj):=SH::HL::HX::ae::GY P::HA::S4::Sm::fA::kz::Sl P::ae::r
noncomputable def Zx(r:List (Obj)):List (Obj):=Sb::Tc::Sv::ae::aA::Hv::ae::Sj::FU::FV::ae::Ij P::r
noncomputable def XU(r:List (Obj)):List (Obj):=HY::Rx::Sx::fA::kz::LF P::ae::Oy::Od::OB::ae::aA::r
noncomputable def Y0(r:List (Obj)):List (Obj):=zJ::ae::L9::yX::zw::ae::yO P::zu::Ls::OF::zb::AD P::r
noncomputable def T_(r:List (Obj)):List (Obj):=ae::ae::zk::Ae::AB::ae::ze::z9::ae::z_::zy::yj::r
noncomputable def Uv(r:List (Obj)):List (Obj):=zS::yg::yu::xY::AV::LY P::ae::xj P::ae::aA::A8::ae::r
noncomputable def WJ(r:List (Obj)):List (Obj):=Oh::xy::zp::ae::aA::L8::zB::Ac::ae::aA::Av::ae::r
noncomputable def Vi(r:List (Obj)):List (Obj):=MZ::yS::AF::ae::aA::NR::AX::yR::ae::aA::KZ::xA::r
noncomputable def WG(r:List (Obj)):List (Obj):=xP::ae::aA::zo::ae::Oc::An::yU::ae::aA::yz::ae::r
noncomputable def VT(r:List (Obj)):List (Obj):=Og::Ar::zt::ae::aA::xG::ae::Kw::Ay::xR::ae::aA::r
noncomputable def TC(r:List (Obj)):List (Obj):=xQ::ae::Mw::zx::yv::ae::aA::KU::yk::AL::ae::aA::r
noncomputable def UR(r:List (Obj)):List (Obj):=LI::zl::xU::ae::aA::yi::ae::Lo::zP::zZ::ae::aA::r
noncomputable def Uk(r:List (Obj)):List (Obj):=yB::ae::Kn::Ad::zC::ae::aA::xO::ae::LK::xB::yV::r
noncomputable def UI(r:List (Obj)):List (Obj):=ae::aA::zr::ae::NM::zd::Au::ae::aA::zi::ae::Nu::r
noncomputable def TR(r:List (Obj)):List (Obj):=yY::zc::ae::aA::xW::ae::N4::Ag::za::ae::aA::Nk::r
noncomputable def Tx(r:List (Obj)):List (Obj):=zF::xm::ae::aA::yJ::xF::Lh::zE::xH::ae::aA::zN::r
noncomputable def VE(r:List (Obj)):List (Obj):=xJ::Nq::xX::xh::yQ P::zT::xT::zj::yE::Aj::AR::yI::r
noncomputable def Tq(r:List (Obj)):List (Obj):=zf::xE::AO::AI::ae::aA::zO::ae::Ni::xi::AE::ae::r
noncomputable def Vy(r:List (Obj)):List (Obj):=aA::Af::ae::Ko::yl::Aq::ae::aA::xp::ae::Oj::yH::r
noncomputable def Ud(r:List (Obj)):List (Obj):=xI::ae::aA::xa::ae::Ny::AG::xq::ae::aA::Of::xr::r
noncomputable def UC(r:List (Obj)):List (Obj):=yp::ae::aA::yC::ae::Mi::xn::A3::ae::aA::yf::ae::r
noncomputable def VL(r:List (Obj)):List (Obj):=Nd::AY::zm::ae::aA::xx::ae::LS::w_::zh::ae::aA::r
noncomputable def V1(r:List (Obj)):List (Obj):=qv::ae::Gq::qL::rE::ae::aA::G3::qy::rC::ae::aA::r
noncomputable def V7(r:List (Obj)):List (Obj):=qI::ae::GQ::qi::rH::ae::aA::rN::ae::HE::qx::qT::r
noncomputable def VB(r:List (Obj)):List (Obj):=ae::aA::rJ::ae::F3::qu::qG::ae::aA::qH::ae::GB::r
noncomputable def WB(r:List (Obj)):List (Obj):=qp::qS::ae::aA::rY::ae::F8::rh::r9::ae::aA::qY::r
noncomputable def Wm(r:List (Obj)):List (Obj):=ae::Gj::rj::qW::ae::aA::rO::ae::F_::qz::qw::ae::r
noncomputable def UW(r:List (Obj)):List (Obj):=aA::rZ::ae::Hq::qR::q_::ae::aA::rF::ae::Hc::qJ::r
noncomputable def Wj(r:List (Obj)):List (Obj):=qA::ae::aA::rW::ae::GU::rR::qQ::ae::aA::qo::ae::r
noncomputable def US(r:List (Obj)):List (Obj):=Gd::rQ::qk::ae::aA::qM::ae::GH::qV::rD::ae::aA::r
noncomputable def T5(r:List (Obj)):List (Obj):=qD::ae::Gr::ql::qm::ae::aA::qr::ae::Gf::qP::rS::r
noncomputable def UH(r:List (Obj)):List (Obj):=ae::aA::Hj::ae::HP::Im::HN::ae::aA::HI::ae::GF::r
noncomputable def Vv(r:List (Obj)):List (Obj):=Gu::Gp::ae::aA::rM::ae::HR::rg::qb::ae::aA::r8::r
noncomputable def U3(r:List (Obj)):List (Obj):=ae::Hh::qh::rV::r
noncomputable def ON(P:Params):Heap:=⟨Array.mk (Xl P (Zc (YG P (ZP P (YK P (Xn P (Yr P (Zx P (XU P (Y0 P (T_ (Uv P (WJ (Vi (WG (VT (TC (UR (Uk (UI (TR (Tx (VE P (Tq (Vy (Ud (UC (VL (V1 (V7 (VB (WB (Wm (UW (Wj (US (T5 (UH (Vv (U3 [])))))))))))))))))))))))))))))))))))))))),⟨[],[],[],0,[],[],false,#[],[],0,false,false,false,(.ofNat 0),[(.ofNat 2000),(.ofNat 10),(.ofNat 10)],false,0,true,[],[],0,false⟩⟩
noncomputable def Vo:Drawn:=⟨0,0,0,0⟩
noncomputable def V6:Nat:=nat_lit 919
noncomputable abbrev Ss:World->OsState->Shared:=HD.ZL ON Vo V6
noncomputable def Zqz:HD.kW (Option Shared):=λw=>(λos=>topRun treeTable pw w (nat_lit 11) (some (.ref 6)) (nat_lit 2) (Jw w os).abs (Thread.mk (doneF Flow.next) dR ⟨347,0,368,79⟩ fY),λos=>some (Ss w os))
theorem Wg:HD.fin pw (nat_lit 11) (some (.ref 6)) (nat_lit 2) Jw Ss (Thread.mk (doneF Flow.next) dR ⟨347,0,368,79⟩ fY)=Zqz:=by kernel_rfl
name_quick SN for Zqz by Wg
theorem Ziz(w:World):(Fast.SN w).1=(Fast.SN w).2:=by kernel_rfl
theorem Zhz:HD.Ok (HD.fin pw (nat_lit 11) (some (.ref 6)) (nat_lit 2) Jw Ss (Thread.mk (doneF Flow.next) dR ⟨347,0,368,79⟩ fY)):=HD.kh Fast.SN_eq Ziz
theorem aaH:behindTheImports pw=(Zg1++(Zg2++(Zg3++(Zg4++(Zg5++(WW++(WN++(Zg8++(WZ++(Pp++(Pf++([]:List Stmt)))))))))))):=by kernel_rfl
theorem ZV:HD.Goes pw (nat_lit 11) (some (.ref 6)) Ss (nat_lit 12+(nat_lit 1+(nat_lit 255+(nat_lit 244+(nat_lit 244+(nat_lit 244+(nat_lit 313+(nat_lit 340+(nat_lit 392+(nat_lit 308+(nat_lit 393+(nat_lit 399+(nat_lit 271+(nat_lit 2)))))))))))))) ZS0 (topStub pw):=HD.Zo Zha (HD.aas aaH Zhb (HD.jo Zh1 (HD.jo Zh2 (HD.jo Zh3 (HD.jo Zh4 (HD.jo Zh5 (HD.jo Zh6 (HD.jo Zh7 (HD.jo Zh8 (HD.jo Zh9 (HD.jo aba (HD.jo aaT (HD.ZJ (env:=gK) Zhz)))))))))))))
noncomputable def hq:Program:=HD.view pw [ht 0,ht 2,ht 3,ht 4,ht 5,ht 6,ht 8,ht 9,ht 10,ht 11,ht 12,ht 13,ht 14,ht 15,ht 16,ht 17,ht 18,ht 19,ht 20,ht 21,ht 22,ht 23,ht 24,ht 25,ht 26,ht 27,ht 28,ht 30,ht 31,ht 32,ht 33,ht 35,ht 36,ht 37,ht 39,ht 40,ht 41,ht 42,ht 43,ht 44,ht 45,ht 47,ht 49,ht 50,ht 51,ht 52,ht 53,ht 54,ht 55,ht 56,ht 57,ht 58,ht 59,ht 60,ht 61,ht 62,ht 63,ht 64,ht 65,ht 66,ht 67,ht 68,ht 69]
noncomputable def hl:List Str:=[PySem.Str.ofString "KIDS_DUE",PySem.Str.ofString "BINDER_OVER",PySem.Str.ofString "RULES"]
noncomputable def XS(r:List (Addr×Obj)):List (Addr×Obj):=(nat_lit 2,PySem.W.boot_o_2 P)::(nat_lit 3,Ie P)::(nat_lit 15,ae)::(nat_lit 17,F9)::(nat_lit 18,ae)::(nat_lit 20,Il)::(nat_lit 21,HC)::(nat_lit 22,Gm)::(nat_lit 29,ae)::(nat_lit 31,GV)::(nat_lit 32,ae)::(nat_lit 34,GO)::r
noncomputable def X7(r:List (Addr×Obj)):List (Addr×Obj):=(nat_lit 35,GK)::(nat_lit 36,ae)::(nat_lit 37,G_ P)::(nat_lit 38,GL)::(nat_lit 39,F7)::(nat_lit 42,fA)::(nat_lit 49,ae)::(nat_lit 51,Ib)::(nat_lit 52,ae)::(nat_lit 54,Gx)::(nat_lit 55,Hx)::(nat_lit 56,ae)::r
noncomputable def Yi(r:List (Addr×Obj)):List (Addr×Obj):=(nat_lit 57,Ha P)::(nat_lit 58,F5)::(nat_lit 61,fA)::(nat_lit 68,ae)::(nat_lit 70,Hf)::(nat_lit 71,ae)::(nat_lit 73,HL)::(nat_lit 74,HX)::(nat_lit 75,ae)::(nat_lit 76,GY P)::(nat_lit 77,HA)::(nat_lit 80,fA)::r
noncomputable def aal(r:List (Addr×Obj)):List (Addr×Obj):=(nat_lit 87,ae)::(nat_lit 89,Hv)::(nat_lit 90,ae)::(nat_lit 92,FU)::(nat_lit 93,FV)::(nat_lit 94,ae)::(nat_lit 95,Ij P)::(nat_lit 96,HY)::(nat_lit 99,fA)::(nat_lit 106,ae)::(nat_lit 108,zJ)::(nat_lit 109,ae)::r
noncomputable def X5(r:List (Addr×Obj)):List (Addr×Obj):=(nat_lit 111,yX)::(nat_lit 112,zw)::(nat_lit 113,ae)::(nat_lit 114,yO P)::(nat_lit 115,zu)::(nat_lit 118,zb)::(nat_lit 119,AD P)::(nat_lit 120,ae)::(nat_lit 121,ae)::(nat_lit 122,zk)::(nat_lit 123,Ae)::(nat_lit 124,AB)::r
noncomputable def YO(r:List (Addr×Obj)):List (Addr×Obj):=(nat_lit 125,ae)::(nat_lit 126,ze)::(nat_lit 127,z9)::(nat_lit 128,ae)::(nat_lit 129,z_)::(nat_lit 130,zy)::(nat_lit 131,yj)::(nat_lit 132,zS)::(nat_lit 133,yg)::(nat_lit 134,yu)::(nat_lit 135,xY)::(nat_lit 136,AV)::r
noncomputable def YZ(r:List (Addr×Obj)):List (Addr×Obj):=(nat_lit 138,ae)::(nat_lit 139,xj P)::(nat_lit 140,ae)::(nat_lit 142,A8)::(nat_lit 143,ae)::(nat_lit 145,xy)::(nat_lit 146,zp)::(nat_lit 147,ae)::(nat_lit 150,zB)::(nat_lit 151,Ac)::(nat_lit 152,ae)::(nat_lit 154,Av)::r
noncomputable def aaB(r:List (Addr×Obj)):List (Addr×Obj):=(nat_lit 155,ae)::(nat_lit 157,yS)::(nat_lit 158,AF)::(nat_lit 159,ae)::(nat_lit 162,AX)::(nat_lit 163,yR)::(nat_lit 164,ae)::(nat_lit 167,xA)::(nat_lit 168,xP)::(nat_lit 169,ae)::(nat_lit 171,zo)::(nat_lit 172,ae)::r
noncomputable def Yn(r:List (Addr×Obj)):List (Addr×Obj):=(nat_lit 174,An)::(nat_lit 175,yU)::(nat_lit 176,ae)::(nat_lit 178,yz)::(nat_lit 179,ae)::(nat_lit 181,Ar)::(nat_lit 182,zt)::(nat_lit 183,ae)::(nat_lit 185,xG)::(nat_lit 186,ae)::(nat_lit 188,Ay)::(nat_lit 189,xR)::r
noncomputable def ZI(r:List (Addr×Obj)):List (Addr×Obj):=(nat_lit 190,ae)::(nat_lit 192,xQ)::(nat_lit 193,ae)::(nat_lit 195,zx)::(nat_lit 196,yv)::(nat_lit 197,ae)::(nat_lit 200,yk)::(nat_lit 201,AL)::(nat_lit 202,ae)::(nat_lit 205,zl)::(nat_lit 206,xU)::(nat_lit 207,ae)::r
noncomputable def Vr(r:List (Addr×Obj)):List (Addr×Obj):=(nat_lit 209,yi)::(nat_lit 210,ae)::(nat_lit 212,zP)::(nat_lit 213,zZ)::(nat_lit 214,ae)::(nat_lit 216,yB)::(nat_lit 217,ae)::(nat_lit 219,Ad)::(nat_lit 220,zC)::(nat_lit 221,ae)::(nat_lit 223,xO)::(nat_lit 224,ae)::r
noncomputable def Uq(r:List (Addr×Obj)):List (Addr×Obj):=(nat_lit 226,xB)::(nat_lit 227,yV)::(nat_lit 228,ae)::(nat_lit 230,zr)::(nat_lit 231,ae)::(nat_lit 233,zd)::(nat_lit 234,Au)::(nat_lit 235,ae)::(nat_lit 237,zi)::(nat_lit 238,ae)::(nat_lit 240,yY)::(nat_lit 241,zc)::r
noncomputable def VA(r:List (Addr×Obj)):List (Addr×Obj):=(nat_lit 242,ae)::(nat_lit 244,xW)::(nat_lit 245,ae)::(nat_lit 247,Ag)::(nat_lit 248,za)::(nat_lit 249,ae)::(nat_lit 252,zF)::(nat_lit 253,xm)::(nat_lit 254,ae)::(nat_lit 256,yJ)::(nat_lit 257,xF)::(nat_lit 259,zE)::r
noncomputable def Wt(r:List (Addr×Obj)):List (Addr×Obj):=(nat_lit 260,xH)::(nat_lit 261,ae)::(nat_lit 263,zN)::(nat_lit 264,xJ)::(nat_lit 266,xX)::(nat_lit 267,xh)::(nat_lit 268,yQ P)::(nat_lit 269,zT)::(nat_lit 270,xT)::(nat_lit 271,zj)::(nat_lit 272,yE)::(nat_lit 273,Aj)::r
noncomputable def VG(r:List (Addr×Obj)):List (Addr×Obj):=(nat_lit 274,AR)::(nat_lit 275,yI)::(nat_lit 276,zf)::(nat_lit 277,xE)::(nat_lit 278,AO)::(nat_lit 279,AI)::(nat_lit 280,ae)::(nat_lit 282,zO)::(nat_lit 283,ae)::(nat_lit 285,xi)::(nat_lit 286,AE)::(nat_lit 287,ae)::r
noncomputable def V0(r:List (Addr×Obj)):List (Addr×Obj):=(nat_lit 289,Af)::(nat_lit 290,ae)::(nat_lit 292,yl)::(nat_lit 293,Aq)::(nat_lit 294,ae)::(nat_lit 296,xp)::(nat_lit 297,ae)::(nat_lit 299,yH)::(nat_lit 300,xI)::(nat_lit 301,ae)::(nat_lit 303,xa)::(nat_lit 304,ae)::r
noncomputable def VJ(r:List (Addr×Obj)):List (Addr×Obj):=(nat_lit 306,AG)::(nat_lit 307,xq)::(nat_lit 308,ae)::(nat_lit 311,xr)::(nat_lit 312,yp)::(nat_lit 313,ae)::(nat_lit 315,yC)::(nat_lit 316,ae)::(nat_lit 318,xn)::(nat_lit 319,A3)::(nat_lit 320,ae)::(nat_lit 322,yf)::r
noncomputable def UA(r:List (Addr×Obj)):List (Addr×Obj):=(nat_lit 323,ae)::(nat_lit 325,AY)::(nat_lit 326,zm)::(nat_lit 327,ae)::(nat_lit 329,xx)::(nat_lit 330,ae)::(nat_lit 332,w_)::(nat_lit 333,zh)::(nat_lit 334,ae)::(nat_lit 336,qv)::(nat_lit 337,ae)::(nat_lit 339,qL)::r
noncomputable def UL(r:List (Addr×Obj)):List (Addr×Obj):=(nat_lit 340,rE)::(nat_lit 341,ae)::(nat_lit 344,qy)::(nat_lit 345,rC)::(nat_lit 346,ae)::(nat_lit 348,qI)::(nat_lit 349,ae)::(nat_lit 351,qi)::(nat_lit 352,rH)::(nat_lit 353,ae)::(nat_lit 355,rN)::(nat_lit 356,ae)::r
noncomputable def Ve(r:List (Addr×Obj)):List (Addr×Obj):=(nat_lit 358,qx)::(nat_lit 359,qT)::(nat_lit 360,ae)::(nat_lit 362,rJ)::(nat_lit 363,ae)::(nat_lit 365,qu)::(nat_lit 366,qG)::(nat_lit 367,ae)::(nat_lit 369,qH)::(nat_lit 370,ae)::(nat_lit 372,qp)::(nat_lit 373,qS)::r
noncomputable def Wx(r:List (Addr×Obj)):List (Addr×Obj):=(nat_lit 374,ae)::(nat_lit 376,rY)::(nat_lit 377,ae)::(nat_lit 379,rh)::(nat_lit 380,r9)::(nat_lit 381,ae)::(nat_lit 383,qY)::(nat_lit 384,ae)::(nat_lit 386,rj)::(nat_lit 387,qW)::(nat_lit 388,ae)::(nat_lit 390,rO)::r
noncomputable def Ue(r:List (Addr×Obj)):List (Addr×Obj):=(nat_lit 391,ae)::(nat_lit 393,qz)::(nat_lit 394,qw)::(nat_lit 395,ae)::(nat_lit 397,rZ)::(nat_lit 398,ae)::(nat_lit 400,qR)::(nat_lit 401,q_)::(nat_lit 402,ae)::(nat_lit 404,rF)::(nat_lit 405,ae)::(nat_lit 407,qJ)::r
noncomputable def Vn(r:List (Addr×Obj)):List (Addr×Obj):=(nat_lit 408,qA)::(nat_lit 409,ae)::(nat_lit 411,rW)::(nat_lit 412,ae)::(nat_lit 414,rR)::(nat_lit 415,qQ)::(nat_lit 416,ae)::(nat_lit 418,qo)::(nat_lit 419,ae)::(nat_lit 421,rQ)::(nat_lit 422,qk)::(nat_lit 423,ae)::r
noncomputable def TY(r:List (Addr×Obj)):List (Addr×Obj):=(nat_lit 425,qM)::(nat_lit 426,ae)::(nat_lit 428,qV)::(nat_lit 429,rD)::(nat_lit 430,ae)::(nat_lit 432,qD)::(nat_lit 433,ae)::(nat_lit 435,ql)::(nat_lit 436,qm)::(nat_lit 437,ae)::(nat_lit 439,qr)::(nat_lit 440,ae)::r
noncomputable def WA(r:List (Addr×Obj)):List (Addr×Obj):=(nat_lit 442,qP)::(nat_lit 443,rS)::(nat_lit 458,ae)::(nat_lit 460,rM)::(nat_lit 461,ae)::(nat_lit 463,rg)::(nat_lit 464,qb)::(nat_lit 465,ae)::(nat_lit 467,r8)::(nat_lit 468,ae)::(nat_lit 470,qh)::(nat_lit 471,rV)::r
noncomputable def aaE(P:Params):List (Addr×Obj):=(XS P (X7 P (Yi P (aal P (X5 P (YO (YZ P (aaB (Yn (ZI (Vr (Uq (VA (Wt P (VG (V0 (VJ (UA (UL (Ve (Wx (Ue (Vn (TY (WA [])))))))))))))))))))))))))
noncomputable def ZhK(P:Params):Frag:=(nat_lit 2,PySem.W.boot_o_2 P)::(nat_lit 3,Ie P)::(nat_lit 15,ae)::(nat_lit 17,F9)::(nat_lit 18,ae)::(nat_lit 20,Il)::(nat_lit 21,HC)::(nat_lit 22,Gm)::(nat_lit 29,ae)::(nat_lit 31,GV)::(nat_lit 32,ae)::(nat_lit 34,GO)::(nat_lit 35,GK)::(nat_lit 36,ae)::(nat_lit 37,G_ P)::(nat_lit 38,GL)::(nat_lit 39,F7)::(nat_lit 42,fA)::(nat_lit 49,ae)::(nat_lit 51,Ib)::(nat_lit 52,ae)::(nat_lit 54,Gx)::(nat_lit 55,Hx)::(nat_lit 56,ae)::(nat_lit 57,Ha P)::(nat_lit 58,F5)::(nat_lit 61,fA)::(nat_lit 68,ae)::(nat_lit 70,Hf)::(nat_lit 71,ae)::(nat_lit 73,HL)::(nat_lit 74,HX)::(nat_lit 75,ae)::(nat_lit 76,GY P)::(nat_lit 77,HA)::(nat_lit 80,fA)::(nat_lit 87,ae)::(nat_lit 89,Hv)::(nat_lit 90,ae)::(nat_lit 92,FU)::(nat_lit 93,FV)::(nat_lit 94,ae)::(nat_lit 95,Ij P)::(nat_lit 96,HY)::(nat_lit 99,fA)::(nat_lit 106,ae)::(nat_lit 108,zJ)::(nat_lit 109,ae)::(nat_lit 111,yX)::(nat_lit 112,zw)::(nat_lit 113,ae)::(nat_lit 114,yO P)::(nat_lit 115,zu)::(nat_lit 118,zb)::(nat_lit 119,AD P)::(nat_lit 120,ae)::(nat_lit 121,ae)::(nat_lit 122,zk)::(nat_lit 123,Ae)::(nat_lit 124,AB)::(nat_lit 125,ae)::(nat_lit 126,ze)::(nat_lit 127,z9)::(nat_lit 128,ae)::(nat_lit 129,z_)::(nat_lit 130,zy)::(nat_lit 131,yj)::(nat_lit 132,zS)::(nat_lit 133,yg)::(nat_lit 134,yu)::(nat_lit 135,xY)::(nat_lit 136,AV)::(nat_lit 138,ae)::(nat_lit 139,xj P)::(nat_lit 140,ae)::(nat_lit 142,A8)::(nat_lit 143,ae)::(nat_lit 145,xy)::(nat_lit 146,zp)::(nat_lit 147,ae)::(nat_lit 150,zB)::(nat_lit 151,Ac)::(nat_lit 152,ae)::(nat_lit 154,Av)::(nat_lit 155,ae)::(nat_lit 157,yS)::(nat_lit 158,AF)::(nat_lit 159,ae)::(nat_lit 162,AX)::(nat_lit 163,yR)::(nat_lit 164,ae)::(nat_lit 167,xA)::(nat_lit 168,xP)::(nat_lit 169,ae)::(nat_lit 171,zo)::(nat_lit 172,ae)::(nat_lit 174,An)::(nat_lit 175,yU)::(nat_lit 176,ae)::(nat_lit 178,yz)::(nat_lit 179,ae)::(nat_lit 181,Ar)::(nat_lit 182,zt)::(nat_lit 183,ae)::(nat_lit 185,xG)::(nat_lit 186,ae)::(nat_lit 188,Ay)::(nat_lit 189,xR)::(nat_lit 190,ae)::(nat_lit 192,xQ)::(nat_lit 193,ae)::(nat_lit 195,zx)::(nat_lit 196,yv)::(nat_lit 197,ae)::(nat_lit 200,yk)::(nat_lit 201,AL)::(nat_lit 202,ae)::(nat_lit 205,zl)::(nat_lit 206,xU)::(nat_lit 207,ae)::(nat_lit 209,yi)::(nat_lit 210,ae)::(nat_lit 212,zP)::(nat_lit 213,zZ)::(nat_lit 214,ae)::(nat_lit 216,yB)::(nat_lit 217,ae)::(nat_lit 219,Ad)::(nat_lit 220,zC)::(nat_lit 221,ae)::(nat_lit 223,xO)::(nat_lit 224,ae)::(nat_lit 226,xB)::(nat_lit 227,yV)::(nat_lit 228,ae)::(nat_lit 230,zr)::(nat_lit 231,ae)::(nat_lit 233,zd)::(nat_lit 234,Au)::(nat_lit 235,ae)::(nat_lit 237,zi)::(nat_lit 238,ae)::(nat_lit 240,yY)::(nat_lit 241,zc)::(nat_lit 242,ae)::(nat_lit 244,xW)::(nat_lit 245,ae)::(nat_lit 247,Ag)::(nat_lit 248,za)::(nat_lit 249,ae)::(nat_lit 252,zF)::(nat_lit 253,xm)::(nat_lit 254,ae)::(nat_lit 256,yJ)::(nat_lit 257,xF)::(nat_lit 259,zE)::(nat_lit 260,xH)::(nat_lit 261,ae)::(nat_lit 263,zN)::(nat_lit 264,xJ)::(nat_lit 266,xX)::(nat_lit 267,xh)::(nat_lit 268,yQ P)::(nat_lit 269,zT)::(nat_lit 270,xT)::(nat_lit 271,zj)::(nat_lit 272,yE)::(nat_lit 273,Aj)::(nat_lit 274,AR)::(nat_lit 275,yI)::(nat_lit 276,zf)::(nat_lit 277,xE)::(nat_lit 278,AO)::(nat_lit 279,AI)::(nat_lit 280,ae)::(nat_lit 282,zO)::(nat_lit 283,ae)::(nat_lit 285,xi)::(nat_lit 286,AE)::(nat_lit 287,ae)::(nat_lit 289,Af)::(nat_lit 290,ae)::(nat_lit 292,yl)::(nat_lit 293,Aq)::(nat_lit 294,ae)::(nat_lit 296,xp)::(nat_lit 297,ae)::(nat_lit 299,yH)::(nat_lit 300,xI)::(nat_lit 301,ae)::(nat_lit 303,xa)::(nat_lit 304,ae)::(nat_lit 306,AG)::(nat_lit 307,xq)::(nat_lit 308,ae)::(nat_lit 311,xr)::(nat_lit 312,yp)::(nat_lit 313,ae)::(nat_lit 315,yC)::(nat_lit 316,ae)::(nat_lit 318,xn)::(nat_lit 319,A3)::(nat_lit 320,ae)::(nat_lit 322,yf)::(nat_lit 323,ae)::(nat_lit 325,AY)::(nat_lit 326,zm)::(nat_lit 327,ae)::(nat_lit 329,xx)::(nat_lit 330,ae)::(nat_lit 332,w_)::(nat_lit 333,zh)::(nat_lit 334,ae)::(nat_lit 336,qv)::(nat_lit 337,ae)::(nat_lit 339,qL)::(nat_lit 340,rE)::(nat_lit 341,ae)::(nat_lit 344,qy)::(nat_lit 345,rC)::(nat_lit 346,ae)::(nat_lit 348,qI)::(nat_lit 349,ae)::(nat_lit 351,qi)::(nat_lit 352,rH)::(nat_lit 353,ae)::(nat_lit 355,rN)::(nat_lit 356,ae)::(nat_lit 358,qx)::(nat_lit 359,qT)::(nat_lit 360,ae)::(nat_lit 362,rJ)::(nat_lit 363,ae)::(nat_lit 365,qu)::(nat_lit 366,qG)::(nat_lit 367,ae)::(nat_lit 369,qH)::(nat_lit 370,ae)::(nat_lit 372,qp)::(nat_lit 373,qS)::(nat_lit 374,ae)::(nat_lit 376,rY)::(nat_lit 377,ae)::(nat_lit 379,rh)::(nat_lit 380,r9)::(nat_lit 381,ae)::(nat_lit 383,qY)::(nat_lit 384,ae)::(nat_lit 386,rj)::(nat_lit 387,qW)::(nat_lit 388,ae)::(nat_lit 390,rO)::(nat_lit 391,ae)::(nat_lit 393,qz)::(nat_lit 394,qw)::(nat_lit 395,ae)::(nat_lit 397,rZ)::(nat_lit 398,ae)::(nat_lit 400,qR)::(nat_lit 401,q_)::(nat_lit 402,ae)::(nat_lit 404,rF)::(nat_lit 405,ae)::(nat_lit 407,qJ)::(nat_lit 408,qA)::(nat_lit 409,ae)::(nat_lit 411,rW)::(nat_lit 412,ae)::(nat_lit 414,rR)::(nat_lit 415,qQ)::(nat_lit 416,ae)::(nat_lit 418,qo)::(nat_lit 419,ae)::(nat_lit 421,rQ)::(nat_lit 422,qk)::(nat_lit 423,ae)::(nat_lit 425,qM)::(nat_lit 426,ae)::(nat_lit 428,qV)::(nat_lit 429,rD)::(nat_lit 430,ae)::(nat_lit 432,qD)::(nat_lit 433,ae)::(nat_lit 435,ql)::(nat_lit 436,qm)::(nat_lit 437,ae)::(nat_lit 439,qr)::(nat_lit 440,ae)::(nat_lit 442,qP)::(nat_lit 443,rS)::(nat_lit 458,ae)::(nat_lit 460,rM)::(nat_lit 461,ae)::(nat_lit 463,rg)::(nat_lit 464,qb)::(nat_lit 465,ae)::(nat_lit 467,r8)::(nat_lit 468,ae)::(nat_lit 470,qh)::(nat_lit 471,rV)::[]
noncomputable def ZhA:List Addr:=[nat_lit 2,nat_lit 3,nat_lit 15,nat_lit 17,nat_lit 18,nat_lit 20,nat_lit 21,nat_lit 22,nat_lit 29,nat_lit 31,nat_lit 32,nat_lit 34,nat_lit 35,nat_lit 36,nat_lit 37,nat_lit 38,nat_lit 39,nat_lit 42,nat_lit 49,nat_lit 51,nat_lit 52,nat_lit 54,nat_lit 55,nat_lit 56,nat_lit 57,nat_lit 58,nat_lit 61,nat_lit 68,nat_lit 70,nat_lit 71,nat_lit 73,nat_lit 74,nat_lit 75,nat_lit 76,nat_lit 77,nat_lit 80,nat_lit 87,nat_lit 89,nat_lit 90,nat_lit 92,nat_lit 93,nat_lit 94,nat_lit 95,nat_lit 96,nat_lit 99,nat_lit 106,nat_lit 108,nat_lit 109,nat_lit 111,nat_lit 112,nat_lit 113,nat_lit 114,nat_lit 115,nat_lit 118,nat_lit 119,nat_lit 120,nat_lit 121,nat_lit 122,nat_lit 123,nat_lit 124,nat_lit 125,nat_lit 126,nat_lit 127,nat_lit 128,nat_lit 129,nat_lit 130,nat_lit 131,nat_lit 132,nat_lit 133,nat_lit 134,nat_lit 135,nat_lit 136,nat_lit 138,nat_lit 139,nat_lit 140,nat_lit 142,nat_lit 143,nat_lit 145,nat_lit 146,nat_lit 147,nat_lit 150,nat_lit 151,nat_lit 152,nat_lit 154,nat_lit 155,nat_lit 157,nat_lit 158,nat_lit 159,nat_lit 162,nat_lit 163,nat_lit 164,nat_lit 167,nat_lit 168,nat_lit 169,nat_lit 171,nat_lit 172,nat_lit 174,nat_lit 175,nat_lit 176,nat_lit 178,nat_lit 179,nat_lit 181,nat_lit 182,nat_lit 183,nat_lit 185,nat_lit 186,nat_lit 188,nat_lit 189,nat_lit 190,nat_lit 192,nat_lit 193,nat_lit 195,nat_lit 196,nat_lit 197,nat_lit 200,nat_lit 201,nat_lit 202,nat_lit 205,nat_lit 206,nat_lit 207,nat_lit 209,nat_lit 210,nat_lit 212,nat_lit 213,nat_lit 214,nat_lit 216,nat_lit 217,nat_lit 219,nat_lit 220,nat_lit 221,nat_lit 223,nat_lit 224,nat_lit 226,nat_lit 227,nat_lit 228,nat_lit 230,nat_lit 231,nat_lit 233,nat_lit 234,nat_lit 235,nat_lit 237,nat_lit 238,nat_lit 240,nat_lit 241,nat_lit 242,nat_lit 244,nat_lit 245,nat_lit 247,nat_lit 248,nat_lit 249,nat_lit 252,nat_lit 253,nat_lit 254,nat_lit 256,nat_lit 257,nat_lit 259,nat_lit 260,nat_lit 261,nat_lit 263,nat_lit 264,nat_lit 266,nat_lit 267,nat_lit 268,nat_lit 269,nat_lit 270,nat_lit 271,nat_lit 272,nat_lit 273,nat_lit 274,nat_lit 275,nat_lit 276,nat_lit 277,nat_lit 278,nat_lit 279,nat_lit 280,nat_lit 282,nat_lit 283,nat_lit 285,nat_lit 286,nat_lit 287,nat_lit 289,nat_lit 290,nat_lit 292,nat_lit 293,nat_lit 294,nat_lit 296,nat_lit 297,nat_lit 299,nat_lit 300,nat_lit 301,nat_lit 303,nat_lit 304,nat_lit 306,nat_lit 307,nat_lit 308,nat_lit 311,nat_lit 312,nat_lit 313,nat_lit 315,nat_lit 316,nat_lit 318,nat_lit 319,nat_lit 320,nat_lit 322,nat_lit 323,nat_lit 325,nat_lit 326,nat_lit 327,nat_lit 329,nat_lit 330,nat_lit 332,nat_lit 333,nat_lit 334,nat_lit 336,nat_lit 337,nat_lit 339,nat_lit 340,nat_lit 341,nat_lit 344,nat_lit 345,nat_lit 346,nat_lit 348,nat_lit 349,nat_lit 351,nat_lit 352,nat_lit 353,nat_lit 355,nat_lit 356,nat_lit 358,nat_lit 359,nat_lit 360,nat_lit 362,nat_lit 363,nat_lit 365,nat_lit 366,nat_lit 367,nat_lit 369,nat_lit 370,nat_lit 372,nat_lit 373,nat_lit 374,nat_lit 376,nat_lit 377,nat_lit 379,nat_lit 380,nat_lit 381,nat_lit 383,nat_lit 384,nat_lit 386,nat_lit 387,nat_lit 388,nat_lit 390,nat_lit 391,nat_lit 393,nat_lit 394,nat_lit 395,nat_lit 397,nat_lit 398,nat_lit 400,nat_lit 401,nat_lit 402,nat_lit 404,nat_lit 405,nat_lit 407,nat_lit 408,nat_lit 409,nat_lit 411,nat_lit 412,nat_lit 414,nat_lit 415,nat_lit 416,nat_lit 418,nat_lit 419,nat_lit 421,nat_lit 422,nat_lit 423,nat_lit 425,nat_lit 426,nat_lit 428,nat_lit 429,nat_lit 430,nat_lit 432,nat_lit 433,nat_lit 435,nat_lit 436,nat_lit 437,nat_lit 439,nat_lit 440,nat_lit 442,nat_lit 443,nat_lit 458,nat_lit 460,nat_lit 461,nat_lit 463,nat_lit 464,nat_lit 465,nat_lit 467,nat_lit 468,nat_lit 470,nat_lit 471]
noncomputable def hX(s:Shared):Bool:=xlAt hq [] s&&recOk [] s
noncomputable def Tj:List Addr:=[nat_lit 255,nat_lit 262]
noncomputable abbrev hH:Hook:=kmHook ZhK ZhA (λ_=>by kernel_rfl) Tj
noncomputable def Zqs:HD.kW ((Bool×Nat×Option Value)):=λw=>(λos=>((boot_heap w.params).isNs mainGlobals&&(Array.mk []:Array GenState).size==0,(boot_heap w.params).objs.size,(boot_heap w.params).nsMap mainGlobals "__annotations__"),λos=>(true,(nat_lit 11),(some (.ref 6))))
theorem U2:HD.sz (nat_lit 11) (some (.ref 6))=Zqs:=by kernel_rfl
name_quick RU for Zqs by U2
theorem Zis(w:World):(Fast.RU w).1=(Fast.RU w).2:=by kernel_rfl
theorem Zhs:HD.Ok (HD.sz (nat_lit 11) (some (.ref 6))):=HD.kh Fast.RU_eq Zis
noncomputable def XO:HD.kW (Bool):=λw=>(λos=>(staticsOk (importedModules pw.main.body) (boot_heap w.params) (ON w.params)&&namesBound pw (ON w.params)&&gensDone (Ss w os)&&laidKept (boot_heap w.params) (ON w.params)),λos=>true)
theorem Qg:HD.la pw ON Vo V6=XO:=by kernel_rfl
name_quick Me for XO by Qg
theorem ab_(w:World):(Fast.Me w).1=(Fast.Me w).2:=by kernel_rfl
theorem aaR:HD.Ok (HD.la pw ON Vo V6):=HD.kh Fast.Me_eq ab_
noncomputable def XI(w:World):=((λos:OsState=>openSeen hq hl (importedModules pw.main.body) hX true (Ss w os)),(λ_:OsState=>openGood hq hl))
theorem QS:HD.lb pw hq hl hX ON Vo V6=XI:=by kernel_rfl
name_quick Lu for XI by QS
theorem abD(w:World):(Fast.Lu w).1=(Fast.Lu w).2:=by kernel_rfl
theorem abd:HD.Ok (HD.lb pw hq hl hX ON Vo V6):=HD.kh Fast.Lu_eq abD
noncomputable def Xk:HD.kW ((List (Option Obj)×List (Option Obj))):=λw=>(λos=>(ZhA.map (Ss w os).heap.get?,Tj.map (Ss w os).heap.get?),λos=>((aaE w.params).map λp=>some p.2,Tj.map λ_=>some (tabObj #[])))
theorem Qr:HD.lc hH ON Vo V6=Xk:=by kernel_rfl
name_quick NL for Xk by Qr
theorem abf(w:World):(Fast.NL w).1=(Fast.NL w).2:=by kernel_rfl
theorem abB:HD.Ok (HD.lc hH ON Vo V6):=HD.kh Fast.NL_eq abf
theorem hleft:LeftO pw hq hl hX hH.obs hH.val 6910:=HD.left (by kernel_rfl) (by decide) (λs=>by kernel_rfl) Zhs ZV (by decide+kernel) aaR abd abB
end K25
end
open PySem PySem.W PyProof.Rows
set_option maxRecDepth 100000 in
set_option maxHeartbeats 0 in
theorem PySem.Challenge.cw_keeper_k25_whole_ways_meet_holds : PySem.Challenge.rw_keeper_k25_whole_ways_meet.Holds := by
  w_on; o_law
  refine PySem.W.holds_open (q := K25.hq) (loose := K25.hl) (Xt := K25.hX) (XP := PySem.W.XL K25.hq []) (Yf := PySem.W.Hook.obs K25.hH) (Ya := PySem.W.Hook.val K25.hH) (YP := PySem.W.Hook.says K25.hH) (N := 6910) K25.hleft (PySem.W.Hook.of _) (PySem.W.Hook.keeps _) (fun s e => PySem.W.xl_of s (Bool.and_eq_true_iff.mp e).1) PySem.W.XL.keeps (by rfl) (by rfl) (by rfl) (fun s e => PySem.W.recFacts_of (Bool.and_eq_true_iff.mp e).2) (by rfl) (by assumption) (by decide +kernel) ⟨rfl, rfl, rfl, rfl, rfl, by decide +kernel⟩ ?hw ?hc
  case hw => w_witness2
  delta K25.hH
  k_fill
  refine' K25.walk (l := PySem.Challenge.rw_keeper_k25_whole_ways_meet) (c1 := ?qc1) (T1 := ?qT1) (c2 := ?qc2) (T2 := ?qT2) rfl rfl (fun w h Y => PySem.W.km_in_of Y) ?h2_1 ?h3_1 ?h4_1 ?h2_2 ?h3_2 ?h4_2 ?hne12 ?F
  case F =>
    intro w mg fa h KX G hmg
    have h1_1 : PySem.W.tabIn (L2.KOf KX) "raised" = some (?qc1, ?qT1) := by
      dsimp only [L2.KOf]
      exact rfl
    have h2_1 : PySem.W.codeHdIn (L2.KOf KX) ?qc1 ?qT1 = true := by
      dsimp only [L2.KOf]
      kernel_rfl
    have h1_2 : PySem.W.tabIn (L2.KOf KX) "put_in" = some (?qc2, ?qT2) := by
      dsimp only [L2.KOf]
      exact rfl
    have h2_2 : PySem.W.codeHdIn (L2.KOf KX) ?qc2 ?qT2 = true := by
      dsimp only [L2.KOf]
      kernel_rfl
    have T : ∃ t, K25.Txt (L2.KOf KX) mg t := by
      dsimp only [L2.KOf]
      refine' K25.txt_mk KX G ?a0 ?a1 ?a2 ?a3 ?a4 ?a5 ?a6 ?a7 ?a8 ?a9 ?a10 ?a11 ?a12 ?a13 ?a14 ?a15 ?a16 ?a17 ?a18 ?a19 ?a20 ?a21 ?a22 ?a23 ?a24 ?a25 ?a26 ?a27 ?a28 ?a29 ?a30 ?a31 ?a32 ?a33 ?a34 ?a35 ?a36 ?a37 ?a38 ?a39 ?a40 ?a41 ?a42 ?a43 ?a44 ?a45 ?z_all ?z_bool ?z_enumerate ?z_int ?z_isinstance ?z_len ?z_list ?z_max ?z_min ?z_range ?z_str ?z_tuple ?z_zip ?g_MOST_KNOTS ?g_MOST_DEEP ?g_MOST_VARIABLE ?g_MOST_LETTERS ?g_LETTERS ?g_KIND_WORDS ?lk_KIND_WORDS ?vs_KIND_WORDS ?g_KIDS_DUE ?lk_KIDS_DUE ?sy_KIDS_DUE ?ks_KIDS_DUE ?rf_KIDS_DUE ?u0_KIDS_DUE ?v0_KIDS_DUE ?u1_KIDS_DUE ?v1_KIDS_DUE ?u2_KIDS_DUE ?v2_KIDS_DUE ?u3_KIDS_DUE ?v3_KIDS_DUE ?u4_KIDS_DUE ?v4_KIDS_DUE ?u5_KIDS_DUE ?v5_KIDS_DUE ?u6_KIDS_DUE ?v6_KIDS_DUE ?u7_KIDS_DUE ?v7_KIDS_DUE ?u8_KIDS_DUE ?v8_KIDS_DUE ?u9_KIDS_DUE ?v9_KIDS_DUE ?u10_KIDS_DUE ?v10_KIDS_DUE ?u11_KIDS_DUE ?v11_KIDS_DUE ?u12_KIDS_DUE ?v12_KIDS_DUE ?u13_KIDS_DUE ?v13_KIDS_DUE ?u14_KIDS_DUE ?v14_KIDS_DUE ?u15_KIDS_DUE ?v15_KIDS_DUE ?u16_KIDS_DUE ?v16_KIDS_DUE ?u17_KIDS_DUE ?v17_KIDS_DUE ?g_BINDER_OVER ?lk_BINDER_OVER ?sy_BINDER_OVER ?vs_BINDER_OVER ?g_RULES ?lk_RULES ?sy_RULES ?ks_RULES ?rf_RULES ?u0_RULES ?v0_RULES ?u0_0_RULES ?v0_0_RULES ?u1_RULES ?v1_RULES ?u1_0_RULES ?v1_0_RULES ?u1_1_RULES ?v1_1_RULES ?u2_RULES ?v2_RULES ?u2_0_RULES ?v2_0_RULES ?u3_RULES ?v3_RULES ?u3_0_RULES ?v3_0_RULES ?u4_RULES ?v4_RULES ?u4_0_RULES ?v4_0_RULES ?g_Great ?g_NoPlace ?g_NoStep ?g_Dry ?x_e0 ?x_e1 ?x_e2 ?x_e4 ?x_x0 ?x_x1 ?x_x2
      (case a0 => apply L3.dfi; iterate 4 k_is)
      (case a1 => apply L3.dfi; iterate 4 k_is)
      (case a2 => apply L3.dfi; iterate 4 k_is)
      (case a3 => apply L3.dfi; iterate 4 k_is)
      (case a4 => apply L3.dfi; iterate 4 k_is)
      (case a5 => apply L3.dfi; iterate 4 k_is)
      (case a6 => apply L3.dfi; iterate 4 k_is)
      (case a7 => apply L3.dfi; iterate 4 k_is)
      (case a8 => apply L3.dfi; iterate 4 k_is)
      (case a9 => apply L3.dfi; iterate 4 k_is)
      (case a10 => apply L3.dfi; iterate 4 k_is)
      (case a11 => apply L3.dfi; iterate 4 k_is)
      (case a12 => apply L3.dfi; iterate 4 k_is)
      (case a13 => apply L3.dfi; iterate 4 k_is)
      (case a14 => apply L3.dfi; iterate 4 k_is)
      (case a15 => apply L3.dfi; iterate 4 k_is)
      (case a16 => apply L3.dfi; iterate 4 k_is)
      (case a17 => apply L3.dfi; iterate 4 k_is)
      (case a18 => apply L3.dfi; iterate 4 k_is)
      (case a19 => apply L3.dfi; iterate 4 k_is)
      (case a20 => apply L3.dfi; iterate 4 k_is)
      (case a21 => apply L3.dfi; iterate 4 k_is)
      (case a22 => apply L3.dfi; iterate 4 k_is)
      (case a23 => apply L3.dfi; iterate 4 k_is)
      (case a24 => apply L3.dfi; iterate 4 k_is)
      (case a25 => apply L3.dfi; iterate 4 k_is)
      (case a26 => apply L3.dfi; iterate 4 k_is)
      (case a27 => apply L3.dfi; iterate 4 k_is)
      (case a28 => apply L3.dfi; iterate 4 k_is)
      (case a29 => apply L3.dfi; iterate 4 k_is)
      (case a30 => apply L3.dfi; iterate 4 k_is)
      (case a31 => apply L3.dfi; iterate 4 k_is)
      (case a32 => apply L3.dfi; iterate 4 k_is)
      (case a33 => apply L3.dfi; iterate 4 k_is)
      (case a34 => apply L3.dfi; iterate 4 k_is)
      (case a35 => apply L3.dfi; iterate 4 k_is)
      (case a36 => apply L3.dfi; iterate 4 k_is)
      (case a37 => apply L3.dfi; iterate 4 k_is)
      (case a38 => apply L3.dfi; iterate 4 k_is)
      (case a39 => apply L3.dfi; iterate 4 k_is)
      (case a40 => apply L3.dfi; iterate 4 k_is)
      (case a41 => apply L3.dfi; iterate 4 k_is)
      (case a42 => apply L3.dfi; iterate 4 k_is)
      (case a43 => apply L3.dfi; iterate 4 k_is)
      (case a44 => apply L3.dfi; iterate 4 k_is)
      (case a45 => apply L3.dfi; iterate 4 k_is)
      (case z_all => k_is)
      (case z_bool => k_is)
      (case z_enumerate => k_is)
      (case z_int => k_is)
      (case z_isinstance => k_is)
      (case z_len => k_is)
      (case z_list => k_is)
      (case z_max => k_is)
      (case z_min => k_is)
      (case z_range => k_is)
      (case z_str => k_is)
      (case z_tuple => k_is)
      (case z_zip => k_is)
      (case g_MOST_KNOTS => k_is)
      (case g_MOST_DEEP => k_is)
      (case g_MOST_VARIABLE => k_is)
      (case g_MOST_LETTERS => k_is)
      (case g_LETTERS => k_is)
      (case g_KIND_WORDS => k_is)
      (case lk_KIND_WORDS => k_is)
      (case vs_KIND_WORDS => decide +kernel)
      (case g_KIDS_DUE => k_is)
      (case lk_KIDS_DUE => k_is)
      (case sy_KIDS_DUE => decide +kernel)
      (case ks_KIDS_DUE => kernel_rfl)
      (case rf_KIDS_DUE => (dsimp only [HD.e]; rfl))
      (case u0_KIDS_DUE => k_is)
      (case v0_KIDS_DUE => decide +kernel)
      (case u1_KIDS_DUE => k_is)
      (case v1_KIDS_DUE => decide +kernel)
      (case u2_KIDS_DUE => k_is)
      (case v2_KIDS_DUE => decide +kernel)
      (case u3_KIDS_DUE => k_is)
      (case v3_KIDS_DUE => decide +kernel)
      (case u4_KIDS_DUE => k_is)
      (case v4_KIDS_DUE => decide +kernel)
      (case u5_KIDS_DUE => k_is)
      (case v5_KIDS_DUE => decide +kernel)
      (case u6_KIDS_DUE => k_is)
      (case v6_KIDS_DUE => decide +kernel)
      (case u7_KIDS_DUE => k_is)
      (case v7_KIDS_DUE => decide +kernel)
      (case u8_KIDS_DUE => k_is)
      (case v8_KIDS_DUE => decide +kernel)
      (case u9_KIDS_DUE => k_is)
      (case v9_KIDS_DUE => decide +kernel)
      (case u10_KIDS_DUE => k_is)
      (case v10_KIDS_DUE => decide +kernel)
      (case u11_KIDS_DUE => k_is)
      (case v11_KIDS_DUE => decide +kernel)
      (case u12_KIDS_DUE => k_is)
      (case v12_KIDS_DUE => decide +kernel)
      (case u13_KIDS_DUE => k_is)
      (case v13_KIDS_DUE => decide +kernel)
      (case u14_KIDS_DUE => k_is)
      (case v14_KIDS_DUE => decide +kernel)
      (case u15_KIDS_DUE => k_is)
      (case v15_KIDS_DUE => decide +kernel)
      (case u16_KIDS_DUE => k_is)
      (case v16_KIDS_DUE => decide +kernel)
      (case u17_KIDS_DUE => k_is)
      (case v17_KIDS_DUE => decide +kernel)
      (case g_BINDER_OVER => k_is)
      (case lk_BINDER_OVER => k_is)
      (case sy_BINDER_OVER => decide +kernel)
      (case vs_BINDER_OVER => kernel_rfl)
      (case g_RULES => k_is)
      (case lk_RULES => k_is)
      (case sy_RULES => decide +kernel)
      (case ks_RULES => kernel_rfl)
      (case rf_RULES => (dsimp only [HD.e]; rfl))
      (case u0_RULES => k_is)
      (case v0_RULES => rfl)
      (case u0_0_RULES => k_is)
      (case v0_0_RULES => decide +kernel)
      (case u1_RULES => k_is)
      (case v1_RULES => rfl)
      (case u1_0_RULES => k_is)
      (case v1_0_RULES => decide +kernel)
      (case u1_1_RULES => k_is)
      (case v1_1_RULES => decide +kernel)
      (case u2_RULES => k_is)
      (case v2_RULES => rfl)
      (case u2_0_RULES => k_is)
      (case v2_0_RULES => decide +kernel)
      (case u3_RULES => k_is)
      (case v3_RULES => rfl)
      (case u3_0_RULES => k_is)
      (case v3_0_RULES => decide +kernel)
      (case u4_RULES => k_is)
      (case v4_RULES => rfl)
      (case u4_0_RULES => k_is)
      (case v4_0_RULES => decide +kernel)
      (case g_Great => k_is)
      (case g_NoPlace => k_is)
      (case g_NoStep => k_is)
      (case g_Dry => k_is)
      (case x_e0 => kernel_rfl)
      (case x_e1 => kernel_rfl)
      (case x_e2 => kernel_rfl)
      (case x_e4 => kernel_rfl)
      (case x_x0 => k_is)
      (case x_x1 => k_is)
      (case x_x2 => k_is)
    obtain ⟨t, T⟩ := T
    exact K25.fin KX G h1_1 h2_1 h1_2 h2_2 T hmg
  case h2_1 => intro w; kernel_rfl
  case h3_1 => intro w; kernel_rfl
  case h4_1 => exact fun w h Y => PySem.W.km_tabs_of Y _ (by decide)
  case h2_2 => intro w; kernel_rfl
  case h3_2 => intro w; kernel_rfl
  case h4_2 => exact fun w h Y => PySem.W.km_tabs_of Y _ (by decide)
  case hne12 => decide
