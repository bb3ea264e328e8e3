package tests

import (
	"slices"
	"testing"

	"loop.example/crossyard/impl"
)

// okRsps is what may come of something: of each name and Code, of no word up to four.
func okRsps() []impl.RspRsp {
	var all []impl.RspRsp
	for id := range 2 {
		for _, code := range allCodes {
			for many := range 5 {
				for _, data := range [][]int{{0, 0, 0, 0}, {65535, 65535, 65535, 65535}, {1, 256, 65280, 4660}} {
					all = append(all, impl.RspRsp{Id: id, Code: code, Data: slices.Clone(data[:many])})
				}
			}
		}
	}
	return all
}

func TestP22UpToFourWordsMayCome(t *testing.T) {
	for _, r := range okRsps() {
		if !impl.RspOk(r) {
			t.Errorf("%v is not ok", r)
		}
	}
}

func TestP22NoWords(t *testing.T) {
	for id := range impl.ReqIds {
		for _, code := range allCodes {
			for _, data := range [][]int{nil, {}, make([]int, 0, 8)} {
				if !impl.RspOk(impl.RspRsp{Id: id, Code: code, Data: data}) {
					t.Errorf("of name %d Code %d without words is not ok", id, code)
				}
			}
		}
	}
}

func TestP22MoreThanFourWords(t *testing.T) {
	for _, code := range allCodes {
		for many := range 40 {
			if got := impl.RspOk(impl.RspRsp{Code: code, Data: make([]int, many)}); got != (many <= 4) {
				t.Errorf("of Code %d with %d words it is ok: %v", code, many, got)
			}
		}
	}
	for _, r := range okRsps() {
		for len(r.Data) < 5 {
			r.Data = append(r.Data, 7)
		}
		if impl.RspOk(r) {
			t.Errorf("%v is ok", r)
		}
	}
}

func TestP22AWordThatIsNone(t *testing.T) {
	for _, r := range okRsps() {
		for k := range r.Data {
			for _, none := range noWords {
				x := r
				x.Data = slices.Clone(r.Data)
				x.Data[k] = none
				if impl.RspOk(x) {
					t.Fatalf("%v is ok", x)
				}
			}
			for _, word := range someWords {
				x := r
				x.Data = slices.Clone(r.Data)
				x.Data[k] = word
				if !impl.RspOk(x) {
					t.Fatalf("%v is not ok", x)
				}
			}
		}
	}
}

func TestP22NoSuchNameOrCode(t *testing.T) {
	if impl.RspOk(impl.RspRsp{}) {
		t.Error("nothing may come of something")
	}
	for _, r := range okRsps() {
		for _, id := range noNames {
			if impl.RspOk(impl.RspRsp{Id: id, Code: r.Code, Data: r.Data}) {
				t.Errorf("%v of name %d is ok", r, id)
			}
		}
		for _, code := range noCodes {
			if impl.RspOk(impl.RspRsp{Id: r.Id, Code: code, Data: r.Data}) {
				t.Errorf("%v of Code %d is ok", r, code)
			}
		}
	}
}

// What comes of something is given with numbers behind its end, which must be neither written nor read.
func TestWhatComesIsLeftAsItIs(t *testing.T) {
	for _, r := range okRsps() {
		room := append(slices.Clone(r.Data), -1, 70000, 3)
		was := slices.Clone(room)
		for size := range room {
			want := size <= len(r.Data)
			if got := impl.RspOk(impl.RspRsp{Id: r.Id, Code: r.Code, Data: room[:size]}); got != want {
				t.Errorf("with %v RspOk is %v", room[:size], got)
			}
		}
		if !slices.Equal(room, was) {
			t.Errorf("%v was turned to %v", was, room)
		}
	}
}
