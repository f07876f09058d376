package packet_test

import (
	"encoding/binary"
	"fmt"
	"hash/crc32"
	"math"
	"math/rand"
	"reflect"
	"slices"
	"strings"
	"sync"
	"testing"
	"unsafe"

	"towline/api"
	"towline/chunk"
	"towline/packet"
	"towline/tlv"
)

// The remarks below name promises of chapter 8 as P1 to P4, and those of
// DOC.md as P1 to P7 of all.

// sealed is the bytes of a packet with their sum put in, as the library reckons
// it.
func sealed(s string) string {
	b := []byte(s)
	copy(b[8:12], "\x00\x00\x00\x00")
	binary.LittleEndian.PutUint32(b[8:], crc32.Checksum(b, crc32.MakeTable(crc32.Castagnoli)))
	return string(b)
}

func isAlone(kind int) bool { return kind == 1 || kind == 2 || kind == 14 }

// rightByTheWords: is a packet right by the chapter's words, but for its bytes?
func rightByTheWords(p packet.Packet) bool {
	if p.From == 0 || p.To == 0 || len(p.Chunks) < 1 || len(p.Chunks) > 50 {
		return false
	}
	if (p.Tag == 0) != (p.Chunks[0].Type == api.Init) {
		return false
	}
	for i, c := range p.Chunks {
		if !chunk.Right(c) || isAlone(c.Type) && len(p.Chunks) > 1 {
			return false
		}
		for _, behind := range p.Chunks[i+1:] {
			if c.Type == api.Data && behind.Type != api.Data {
				return false
			}
		}
	}
	return true
}

// builtByTheWords is what the chapter's words make of a packet.
func builtByTheWords(p packet.Packet) (string, api.Errno) {
	if !rightByTheWords(p) {
		return "", api.ErrArg
	}
	order := binary.BigEndian
	b := order.AppendUint32(order.AppendUint16(order.AppendUint16(nil, p.From), p.To), p.Tag)
	b = append(b, 0, 0, 0, 0)
	for _, c := range p.Chunks {
		s, _ := chunk.Build(c)
		b = append(b, s...)
	}
	if len(b) > 1500 {
		return "", api.ErrLong
	}
	return sealed(string(b)), api.OK
}

// parsedByTheWords is what the chapter's words tell of bytes.
func parsedByTheWords(s string) (packet.Packet, api.Errno) {
	switch {
	case len(s) > 1500:
		return packet.Packet{}, api.ErrLong
	case len(s) < 12:
		return packet.Packet{}, api.ErrShort
	case s != sealed(s):
		return packet.Packet{}, api.ErrSum
	}
	order, head := binary.BigEndian, []byte(s[:12])
	p := packet.Packet{From: order.Uint16(head), To: order.Uint16(head[2:]), Tag: order.Uint32(head[4:])}
	for at := 12; at < len(s); {
		c, size, err := chunk.Parse(s[at:])
		if err != api.OK {
			return packet.Packet{}, err
		}
		p.Chunks = append(p.Chunks, c)
		at += size
	}
	if _, err := builtByTheWords(p); err != api.OK {
		return packet.Packet{}, api.ErrForm
	}
	return p, api.OK
}

// bundledByTheWords is what the chapter's words make of a row of chunks: of
// those that may be in a packet the longest front that may be in one, and so on.
func bundledByTheWords(from, to uint16, tag uint32, l []chunk.Chunk, most int) []packet.Packet {
	if most > 1500 {
		most = 1500
	}
	if most < 100 {
		most = 100
	}
	may := func(l ...chunk.Chunk) bool {
		s, err := builtByTheWords(packet.Packet{From: from, To: to, Tag: tag, Chunks: l})
		return err == api.OK && len(s) <= most
	}
	var left []chunk.Chunk
	for _, c := range l {
		if may(c) {
			left = append(left, c)
		}
	}
	var packets []packet.Packet
	for len(left) > 0 {
		n := 1
		for n < len(left) && may(left[:n+1]...) {
			n++
		}
		packets = append(packets, packet.Packet{From: from, To: to, Tag: tag, Chunks: left[:n]})
		left = left[n:]
	}
	return packets
}

// sameChunks, samePacket and samePackets: are two one, where a list of nothing
// may be nil or empty?
func sameChunks(a, b chunk.Chunk) bool {
	lists := slices.Equal(a.Gaps, b.Gaps) && slices.Equal(a.Dups, b.Dups) && slices.Equal(a.Items, b.Items)
	a.Gaps, a.Dups, a.Items, b.Gaps, b.Dups, b.Items = nil, nil, nil, nil, nil, nil
	return lists && reflect.DeepEqual(a, b)
}

func samePacket(a, b packet.Packet) bool {
	return a.From == b.From && a.To == b.To && a.Tag == b.Tag && slices.EqualFunc(a.Chunks, b.Chunks, sameChunks)
}

func samePackets(a, b []packet.Packet) bool { return slices.EqualFunc(a, b, samePacket) }

// text shows a packet shortly: a Type and Size each chunk; row shows several.
func text(p packet.Packet) string {
	s := fmt.Sprint(p.From, ">", p.To, " ", p.Tag, " [")
	for i, c := range p.Chunks {
		if i == 60 {
			return s + fmt.Sprint("..", len(p.Chunks), "]")
		}
		s += fmt.Sprint(" ", c.Type, ":", chunk.Size(c))
	}
	return s + "]"
}

func row(l []packet.Packet) string {
	s := fmt.Sprint(len(l), " packets")
	for _, p := range l[:min(len(l), 20)] {
		s += ", " + text(p)
	}
	return s
}

func many(b string, times int) string { return strings.Repeat(b, times) }

// put is s with these bytes at a place.
func put(s string, place int, bytes ...byte) string {
	return s[:place] + string(bytes) + s[place+len(bytes):]
}

// of is a packet of two ports under a tag.
func of(tag uint32, l ...chunk.Chunk) packet.Packet {
	return packet.Packet{From: 0x0102, To: 0x0304, Tag: tag, Chunks: l}
}

// headed is the bytes of such a packet, under the tag 1, sealed.
func headed(chunks string) string {
	return sealed("\x01\x02\x03\x04\x00\x00\x00\x01\x00\x00\x00\x00" + chunks)
}

// headOf is a chunk's head that says this Type, these Flags and this length.
func headOf(kind, flags, length int) string {
	return string([]byte{byte(kind), byte(flags), byte(length >> 8), byte(length)})
}

// wantBuild holds what is built against bytes and an error, with P2 of all, and
// what Right tells against them.
func wantBuild(t *testing.T, what string, p packet.Packet, want string, wantErr api.Errno) {
	t.Helper()
	if s, err := packet.Build(p); s != want || err != wantErr {
		t.Errorf("%s: Build told %.99q (%d bytes), %d, want %.99q (%d bytes), %d", what, s, len(s), err, want, len(want), wantErr)
	}
	if is := packet.Right(p); is != (wantErr == api.OK) {
		t.Errorf("%s: Right told %v, where Build is to tell %d", what, is, wantErr)
	}
}

// wantBuiltLike holds what is built against the chapter's words, and these
// against an error.
func wantBuiltLike(t *testing.T, what string, p packet.Packet, wantErr api.Errno) {
	t.Helper()
	want, err := builtByTheWords(p)
	if err != wantErr {
		t.Errorf("%s: the words make %d of it, want %d", what, err, wantErr)
	}
	wantBuild(t, what, p, want, err)
}

// wantParse holds what is parsed against a packet and an error, with P2 of all.
func wantParse(t *testing.T, what, s string, want packet.Packet, wantErr api.Errno) {
	t.Helper()
	if p, err := packet.Parse(s); !samePacket(p, want) || err != wantErr {
		t.Errorf("%s: Parse told %s, %d, want %s, %d", what, text(p), err, text(want), wantErr)
	}
}

// wantLike holds what is parsed against the chapter's words, and tells what
// these make of it.
func wantLike(t *testing.T, what, s string) api.Errno {
	t.Helper()
	want, err := parsedByTheWords(s)
	wantParse(t, what, s, want, err)
	return err
}

// wantErrLike holds what is parsed against the chapter's words, and these
// against an error.
func wantErrLike(t *testing.T, what, s string, want api.Errno) {
	t.Helper()
	if err := wantLike(t, what, s); err != want {
		t.Errorf("%s: the words make %d of it, want %d", what, err, want)
	}
}

// wantBundled holds what is bundled against the chapter's words, and tells what
// these make of it.
func wantBundled(t *testing.T, what string, tag uint32, l []chunk.Chunk, most int) []packet.Packet {
	t.Helper()
	want := bundledByTheWords(0x0102, 0x0304, tag, l, most)
	if got := packet.Bundle(0x0102, 0x0304, tag, l, most); !samePackets(got, want) {
		t.Errorf("%s, tag %d, most %d: Bundle told %s, want %s", what, tag, most, row(got), row(want))
	}
	return want
}

func built(t *testing.T, p packet.Packet) string {
	t.Helper()
	s, err := packet.Build(p)
	if err != api.OK {
		t.Fatalf("Build of %s: %d", text(p), err)
	}
	return s
}

// right is a right chunk of a Type.
func right(kind int) chunk.Chunk {
	c := chunk.Chunk{Type: kind}
	switch kind {
	case api.Data:
		c.Flags, c.Tsn, c.Stream, c.Ssn, c.Ppid, c.Text = 7, 0x01020304, 0x0506, 0x0708, 0x090a0b0c, "piece"
	case api.Init, api.InitAck:
		c.Tag, c.Window, c.Outs, c.Ins, c.Tsn = 0x11121314, 0x15161718, 0x191a, 0x1b1c, 0x1d1e1f20
		c.Items = []tlv.Item{{Type: 7, Value: "cookie"}, {Type: 9, Value: "abc"}}
	case api.Sack:
		c.Tsn, c.Window = 0x21222324, 0x25262728
		c.Gaps, c.Dups = [][2]uint16{{2, 3}, {0x1112, 0x2122}}, []uint32{0x51525354}
	case api.Heartbeat, api.HeartAck:
		c.Items = []tlv.Item{{Type: 1, Value: "nonce"}}
	case api.Abort, api.Error:
		c.Items = []tlv.Item{{Type: 3}, {Type: 0xff01, Value: "why"}}
	case api.Shutdown:
		c.Tsn = 0x31323334
	case api.ShutdownAck, api.CookieAck, api.Complete:
	default:
		c.Text = "a text"
	}
	return c
}

// piece is a Data with so many bytes of Text; it has 16 more, and noughts.
func piece(length int) chunk.Chunk { return chunk.Chunk{Flags: 3, Text: many("p", length)} }

// other is a chunk of a Type that the document does not name, 4 bytes and these.
func other(length int) chunk.Chunk { return chunk.Chunk{Type: 99, Text: many("o", length)} }

// long is an Abort of 8 bytes and so many; above 1392 it is not right.
func long(length int) chunk.Chunk {
	return chunk.Chunk{Type: api.Abort, Items: []tlv.Item{{Type: 1, Value: many("v", length)}}}
}

// kinds are the Types that the document names, and some others.
func kinds() []int {
	return []int{0, 1, 2, 3, 4, 5, 6, 7, 8, 9, 10, 11, 14, 12, 13, 15, 99, 128, 255}
}

// tagFor is a tag under which a chunk of a Type may stand first.
func tagFor(kind int) uint32 {
	if kind == api.Init {
		return 0
	}
	return 5
}

// wrong are chunks that are not right.
func wrong() []chunk.Chunk {
	return []chunk.Chunk{{}, {Type: -1}, {Type: 256}, {Type: 256 + api.CookieAck}, {Type: api.CookieAck, Flags: 1}, {Type: api.CookieAck, Tsn: 1}, {Type: api.Init, Outs: 1, Ins: 1}, {Type: api.Complete, Text: "x"}, {Type: api.Error}, piece(0), piece(1001), long(1393), long(1401), {Type: math.MaxInt}, {Type: math.MinInt}}
}

// P1: Alone is true of three Types, and of no other number.
func TestAlone(t *testing.T) {
	for kind := -70000; kind <= 70000; kind++ {
		if want := kind == api.Init || kind == api.InitAck || kind == api.Complete; packet.Alone(kind) != want {
			t.Errorf("Alone(%d) told %v", kind, !want)
		}
	}
	for _, kind := range []int{math.MinInt, math.MaxInt, 1<<32 + 1, 1<<32 + 2, 1<<32 + 14, 1<<62 + 1, math.MinInt + 14} {
		if packet.Alone(kind) {
			t.Errorf("Alone(%d) told true", kind)
		}
	}
}

// P1, P2, P4: packets, written out.
func TestBuildWrittenOut(t *testing.T) {
	initial := chunk.Chunk{Type: api.Init, Tag: 1, Window: 2, Outs: 3, Ins: 4, Tsn: 5}
	for _, c := range []struct {
		p    packet.Packet
		want string
	}{
		{packet.Packet{From: 7, To: 8, Tag: 258, Chunks: []chunk.Chunk{{Type: api.CookieAck}}}, "\x00\x07\x00\x08\x00\x00\x01\x02\x00\x00\x00\x00\x0b\x00\x00\x04"},
		{packet.Packet{From: 0x0102, To: 0x0304, Tag: 0x05060708, Chunks: []chunk.Chunk{{Type: api.Shutdown, Tsn: 9}}}, "\x01\x02\x03\x04\x05\x06\x07\x08\x00\x00\x00\x00\x07\x00\x00\x08\x00\x00\x00\x09"},
		{packet.Packet{From: 65535, To: 1, Tag: 1 << 31, Chunks: []chunk.Chunk{{Type: api.Complete, Flags: chunk.NoTag}}}, "\xff\xff\x00\x01\x80\x00\x00\x00\x00\x00\x00\x00\x0e\x01\x00\x04"},
		{packet.Packet{From: 256, To: 32768, Chunks: []chunk.Chunk{initial}}, "\x01\x00\x80\x00\x00\x00\x00\x00\x00\x00\x00\x00\x01\x00\x00\x14\x00\x00\x00\x01\x00\x00\x00\x02\x00\x03\x00\x04\x00\x00\x00\x05"},
		{of(1, chunk.Chunk{Type: api.CookieEcho, Text: "cookie"}, chunk.Chunk{Flags: 3, Tsn: 1, Text: "x"}, chunk.Chunk{Tsn: 2, Stream: 3, Ssn: 4, Ppid: 5, Text: "yz"}), "\x01\x02\x03\x04\x00\x00\x00\x01\x00\x00\x00\x00\x0a\x00\x00\x0acookie\x00\x00\x00\x03\x00\x11\x00\x00\x00\x01\x00\x00\x00\x00\x00\x00\x00\x00x\x00\x00\x00\x00\x00\x00\x12\x00\x00\x00\x02\x00\x03\x00\x04\x00\x00\x00\x05yz\x00\x00"},
		{of(1, chunk.Chunk{Type: 200, Flags: 9, Text: "a"}, chunk.Chunk{Type: api.ShutdownAck}, chunk.Chunk{Type: 200}), "\x01\x02\x03\x04\x00\x00\x00\x01\x00\x00\x00\x00\xc8\x09\x00\x05a\x00\x00\x00\x08\x00\x00\x04\xc8\x00\x00\x04"},
	} {
		want := sealed(c.want)
		wantBuild(t, text(c.p), c.p, want, api.OK)
		wantBuiltLike(t, text(c.p), c.p, api.OK)
		wantParse(t, text(c.p), want, c.p, api.OK)
		wantLike(t, text(c.p), want)
	}
	// Known by hand: a sum that none of the code above reckons.
	if s := built(t, packet.Packet{From: 0x3132, To: 0x3334, Tag: 0x35363738, Chunks: []chunk.Chunk{{Type: api.CookieAck}}}); s[:8] != "12345678" || s[12:] != "\x0b\x00\x00\x04" || sumBitByBit(s[:8]+"\x00\x00\x00\x00"+s[12:]) != s[8:12] {
		t.Errorf("%q", s)
	}
}

// sumBitByBit is the sum of chapter 2's words, its lowest byte first.
func sumBitByBit(s string) string {
	r := ^uint32(0)
	for i := range len(s) {
		r ^= uint32(s[i])
		for range 8 {
			dropped := r & 1
			if r >>= 1; dropped == 1 {
				r ^= 0x82F63B78
			}
		}
	}
	return string(binary.LittleEndian.AppendUint32(nil, ^r))
}

// P1, P2: From and To are not 0, Tag is 0 just of an Init; each bit of them
// stands in its place.
func TestPortsAndTags(t *testing.T) {
	ports := []uint16{0, 1, 255, 256, 65535}
	tags := []uint32{0, 1, 255, 256, 65535, 65536, 1<<24 - 1, 1 << 24, math.MaxUint32}
	for bit := uint(0); bit < 32; bit++ {
		tags = append(tags, 1<<bit)
		if bit < 16 {
			ports = append(ports, 1<<bit)
		}
	}
	for _, from := range ports {
		for _, to := range ports {
			for _, tag := range tags {
				for _, kind := range []int{api.Init, api.Data, api.CookieAck} {
					p, want := packet.Packet{From: from, To: to, Tag: tag, Chunks: []chunk.Chunk{right(kind)}}, api.OK
					if from == 0 || to == 0 || (tag == 0) != (kind == api.Init) {
						want = api.ErrArg
					}
					wantBuiltLike(t, text(p), p, want)
					body, _ := chunk.Build(right(kind))
					s := sealed(string([]byte{byte(from >> 8), byte(from), byte(to >> 8), byte(to), byte(tag >> 24), byte(tag >> 16), byte(tag >> 8), byte(tag), 1, 2, 3, 4}) + body)
					if want == api.OK {
						wantParse(t, text(p), s, p, api.OK)
					} else {
						wantParse(t, text(p), s, packet.Packet{}, api.ErrForm)
					}
				}
			}
		}
	}
}

// P1, P2: each Type by itself, with a tag and without.
func TestEachTypeByItself(t *testing.T) {
	for kind := range 256 {
		for _, tag := range []uint32{0, 1, math.MaxUint32} {
			p, want := of(tag, right(kind)), api.OK
			if (tag == 0) != (kind == api.Init) {
				want = api.ErrArg
			}
			wantBuiltLike(t, text(p), p, want)
			if got := len(packet.Bundle(1, 2, tag, p.Chunks, 1500)); got != 1 && want == api.OK || got != 0 && want != api.OK {
				t.Errorf("%s: Bundle told %d packets", text(p), got)
			}
		}
	}
}

// P1, P2: two of any Types: one that stands alone stands so, and no Data stands
// ahead of one that is none.
func TestEachTwoTypes(t *testing.T) {
	for first := range 256 {
		for second := range 256 {
			if first > 20 && second > 20 && first != second && (first+second)%7 > 0 {
				continue
			}
			for _, tag := range []uint32{0, 5} {
				p, want := of(tag, right(first), right(second)), api.OK
				if isAlone(first) || isAlone(second) || first == api.Data && second != api.Data || tag == 0 {
					want = api.ErrArg
				}
				wantBuiltLike(t, text(p), p, want)
				one, _ := chunk.Build(right(first))
				two, _ := chunk.Build(right(second))
				s := sealed("\x01\x02\x03\x04\x00\x00\x00" + string(rune(tag)) + "\x00\x00\x00\x00" + one + two)
				if want == api.OK {
					wantParse(t, text(p), s, p, api.OK)
				} else {
					wantParse(t, text(p), s, packet.Packet{}, api.ErrForm)
				}
			}
		}
	}
}

// rows goes over all rows of 0 to most of the chunks of l.
func rows(l []chunk.Chunk, most int, yield func([]chunk.Chunk)) {
	var go_ func([]chunk.Chunk)
	go_ = func(ahead []chunk.Chunk) {
		yield(ahead)
		if len(ahead) < most {
			for _, c := range l {
				go_(append(slices.Clone(ahead), c))
			}
		}
	}
	go_(nil)
}

// P1, P2, P3: all rows of up to four of chunks of all kinds, with those that
// are not right and those that are long, under a tag and without one.
func TestEachRow(t *testing.T) {
	told := map[api.Errno]int{}
	of4 := []chunk.Chunk{right(api.Data), piece(700), right(api.Sack), right(api.Init), right(api.InitAck), right(api.Complete), right(99), long(900), {Type: api.Error}, long(1393)}
	rows(of4, 4, func(l []chunk.Chunk) {
		for _, tag := range []uint32{0, 9} {
			p := of(tag, l...)
			want, err := builtByTheWords(p)
			told[err]++
			wantBuild(t, text(p), p, want, err)
			if err == api.OK {
				wantParse(t, text(p), want, p, api.OK)
			}
			for _, most := range []int{100, 900, 1500} {
				wantBundled(t, text(p), tag, l, most)
			}
		}
	})
	for _, err := range []api.Errno{api.OK, api.ErrArg, api.ErrLong} {
		if told[err] < 100 {
			t.Errorf("error %d was told %d times", err, told[err])
		}
	}
}

// P1, P2: one that stands alone stands so wherever others are; no Data stands
// ahead of one that is none, however far.
func TestPlacesInLongRows(t *testing.T) {
	for _, length := range []int{2, 3, 5, 49, 50} {
		for place := range length {
			for _, kind := range []int{api.Init, api.InitAck, api.Complete} {
				for _, by := range []int{api.Data, api.CookieAck} {
					for _, tag := range []uint32{0, 5} {
						p := of(tag, slices.Repeat([]chunk.Chunk{right(by)}, length)...)
						p.Chunks[place] = right(kind)
						wantBuiltLike(t, fmt.Sprintf("Type %d at %d of %d", kind, place, length), p, api.ErrArg)
					}
				}
			}
			p := of(5, slices.Repeat([]chunk.Chunk{right(api.CookieAck)}, length)...)
			p.Chunks[place] = piece(1)
			want := api.ErrArg
			if place == length-1 {
				want = api.OK
			}
			wantBuiltLike(t, fmt.Sprintf("a Data at %d of %d", place, length), p, want)
			p = of(5, slices.Repeat([]chunk.Chunk{piece(1)}, length)...)
			p.Chunks[place], want = right(api.CookieAck), api.ErrArg
			if place == 0 {
				want = api.OK
			}
			wantBuiltLike(t, fmt.Sprintf("a CookieAck at %d of %d Datas", place, length), p, want)
			for i := range place {
				p.Chunks[i] = right(api.ShutdownAck)
			}
			wantBuiltLike(t, fmt.Sprintf("Datas from %d on", place+1), p, api.OK)
		}
	}
}

// P1, P2: 1 to 50 chunks.
func TestHowManyChunks(t *testing.T) {
	for _, c := range []chunk.Chunk{right(api.CookieAck), piece(1), right(99), {Type: 255}} {
		s, _ := chunk.Build(c)
		for number := range 400 {
			if number > 110 && number%16 > 4 {
				continue
			}
			p, want := of(1, slices.Repeat([]chunk.Chunk{c}, number)...), api.OK
			if number == 0 || number > 50 {
				want = api.ErrArg
			}
			what := fmt.Sprintf("%d of Type %d", number, c.Type)
			wantBuiltLike(t, what, p, want)
			switch {
			case 12+number*len(s) > 1500:
				wantErrLike(t, what, headed(many(s, number)), api.ErrLong)
			case want == api.OK:
				wantParse(t, what, headed(many(s, number)), p, api.OK)
			default:
				wantErrLike(t, what, headed(many(s, number)), api.ErrForm)
			}
			if number < 110 || number%50 < 2 {
				wantBundled(t, what, 1, p.Chunks, 1500)
			}
		}
	}
}

// P1: each chunk is right, wherever it stands, also as far as its length goes:
// one that is not is told ErrArg.
func TestChunksThatAreNotRight(t *testing.T) {
	for i, c := range wrong() {
		for _, tag := range []uint32{0, 5} {
			wantBuiltLike(t, fmt.Sprintf("wrong one %d", i), of(tag, c), api.ErrArg)
			for _, length := range []int{2, 3, 50} {
				for place := range length {
					p := of(tag, slices.Repeat([]chunk.Chunk{right(api.CookieAck)}, length)...)
					p.Chunks[place] = c
					wantBuiltLike(t, fmt.Sprintf("wrong one %d at %d of %d", i, place, length), p, api.ErrArg)
				}
			}
		}
	}
}

// P1, P2: all bytes, with the noughts behind the last chunk, are at most 1500.
func TestHowManyBytes(t *testing.T) {
	for first := 380; first < 520; first++ {
		for second := range 4 {
			p, want := of(1, piece(first), piece(952+second)), api.OK
			if 12+16+(first+3)/4*4+16+(952+second+3)/4*4 > 1500 {
				want = api.ErrLong
			}
			wantBuiltLike(t, text(p), p, want)
			if want == api.OK {
				wantParse(t, text(p), built(t, p), p, api.OK)
			}
			wantBuiltLike(t, text(p), of(1, other(first+12), piece(952+second)), want)
			wantBuiltLike(t, text(p), of(1, long(952+second+8), other(first+12)), want)
		}
	}
	for _, c := range []struct {
		l    []chunk.Chunk
		want api.Errno
	}{
		{[]chunk.Chunk{long(1392)}, api.OK}, {[]chunk.Chunk{long(1392), other(84)}, api.OK}, {[]chunk.Chunk{long(1392), other(85)}, api.ErrLong}, {[]chunk.Chunk{long(1389), other(84)}, api.OK}, {[]chunk.Chunk{long(1393)}, api.ErrArg}, {[]chunk.Chunk{long(1393), other(0)}, api.ErrArg},
		{[]chunk.Chunk{piece(1000), piece(456)}, api.OK}, {[]chunk.Chunk{piece(1000), piece(457)}, api.ErrLong}, {[]chunk.Chunk{piece(1000), piece(1000)}, api.ErrLong}, {[]chunk.Chunk{other(1000), other(480)}, api.OK}, {[]chunk.Chunk{other(1000), other(481)}, api.ErrLong},
		{slices.Repeat([]chunk.Chunk{piece(1000)}, 50), api.ErrLong}, {slices.Repeat([]chunk.Chunk{piece(1000)}, 51), api.ErrArg}, {slices.Repeat([]chunk.Chunk{other(24)}, 50), api.OK}, {slices.Repeat([]chunk.Chunk{other(28)}, 50), api.ErrLong}, {slices.Repeat([]chunk.Chunk{long(1392)}, 50), api.ErrLong},
	} {
		wantBuiltLike(t, text(of(1, c.l...)), of(1, c.l...), c.want)
	}
}

// P1: of a packet that is both too long and otherwise wrong that is told.
func TestBuildFirstError(t *testing.T) {
	whole := of(1, other(800), piece(800))
	wantBuild(t, "too long", whole, "", api.ErrLong)
	for i, change := range []func(*packet.Packet){
		func(p *packet.Packet) { p.From = 0 }, func(p *packet.Packet) { p.To = 0 }, func(p *packet.Packet) { p.Tag = 0 }, func(p *packet.Packet) { slices.Reverse(p.Chunks) },
		func(p *packet.Packet) { p.Chunks = append(p.Chunks, chunk.Chunk{}) }, func(p *packet.Packet) { p.Chunks[0].Text += many("o", 201) }, func(p *packet.Packet) { p.Chunks[1].Flags = 8 }, func(p *packet.Packet) { p.Chunks = append(p.Chunks, right(api.Complete)) },
		func(p *packet.Packet) { p.Chunks = append([]chunk.Chunk{right(api.InitAck)}, p.Chunks...) }, func(p *packet.Packet) { p.Chunks = slices.Repeat(p.Chunks[1:], 51) }, func(p *packet.Packet) { p.Chunks = append(p.Chunks, long(1393)) },
	} {
		p := of(1, slices.Clone(whole.Chunks)...)
		change(&p)
		wantBuild(t, fmt.Sprintf("too long, change %d", i), p, "", api.ErrArg)
	}
}

// P2: bytes, written out.
func TestParseWrittenOut(t *testing.T) {
	none, ack := packet.Packet{}, chunk.Chunk{Type: api.CookieAck}
	text1 := chunk.Chunk{Type: 99, Text: "a"}
	for _, c := range []struct {
		s    string
		want packet.Packet
		err  api.Errno
	}{
		{headed("\x0b\x00\x00\x04"), of(1, ack), api.OK}, {headed("\x0b\x00\x00\x04\x0b\x00\x00\x04"), of(1, ack, ack), api.OK},
		{headed(""), none, api.ErrForm}, {headed("\x0b"), none, api.ErrShort}, {headed("\x0b\x00\x00"), none, api.ErrShort}, {headed("\x0b\x00\x00\x05"), none, api.ErrShort}, {headed("\x0b\x00\x00\x03"), none, api.ErrForm}, {headed("\x0b\x00\x00\x04\x00"), none, api.ErrShort}, {headed("\x0b\x00\x00\x04\x00\x00\x00"), none, api.ErrShort}, {headed("\x0b\x00\x00\x04\x00\x00\x00\x00"), none, api.ErrForm}, {headed("\x0b\x01\x00\x04"), none, api.ErrForm},
		{headed("\x63\x00\x00\x05a"), of(1, text1), api.OK}, {headed("\x63\x00\x00\x05a\x00"), of(1, text1), api.OK}, {headed("\x63\x00\x00\x05a\x00\x00"), of(1, text1), api.OK}, {headed("\x63\x00\x00\x05a\x00\x00\x00"), of(1, text1), api.OK}, {headed("\x63\x00\x00\x05a\x00\x00\x01"), none, api.ErrForm}, {headed("\x63\x00\x00\x05a\x01"), none, api.ErrForm},
		{headed("\x63\x00\x00\x05a\x00\x00\x00\x0b\x00\x00\x04"), of(1, text1, ack), api.OK}, {headed("\x63\x00\x00\x05a\x0b\x00\x00\x04"), none, api.ErrForm}, {headed("\x63\x00\x00\x05a\x00\x00\x00\x63\x00\x00\x05a"), of(1, text1, text1), api.OK}, {headed("\x63\x00\x00\x05a\x00\x00\x00\x00"), none, api.ErrShort},
		{headed("\x0e\x00\x00\x04"), of(1, chunk.Chunk{Type: api.Complete}), api.OK}, {headed("\x0e\x00\x00\x04\x0b\x00\x00\x04"), none, api.ErrForm}, {headed("\x0b\x00\x00\x04\x0e\x00\x00\x04"), none, api.ErrForm},
		{headed("\x05\x00\x00\x0b\x00\x01\x00\x06ab\x00\x00"), of(1, chunk.Chunk{Type: api.HeartAck, Items: []tlv.Item{{Type: 1, Value: "ab"}}}), api.OK},
		{headed("\x05\x00\x00\x0c\x00\x01\x00\x06ab\x00\x00\x0b\x00\x00\x04"), of(1, chunk.Chunk{Type: api.HeartAck, Items: []tlv.Item{{Type: 1, Value: "ab"}}}, ack), api.OK},
		{headed("\x01\x00\x00\x14\x00\x00\x00\x01\x00\x00\x00\x02\x00\x03\x00\x04\x00\x00\x00\x05"), none, api.ErrForm},
		{sealed("\x00\x00\x03\x04\x00\x00\x00\x01\x00\x00\x00\x00\x0b\x00\x00\x04"), none, api.ErrForm}, {sealed("\x01\x02\x00\x00\x00\x00\x00\x01\x00\x00\x00\x00\x0b\x00\x00\x04"), none, api.ErrForm}, {sealed("\x01\x02\x03\x04\x00\x00\x00\x00\x00\x00\x00\x00\x0b\x00\x00\x04"), none, api.ErrForm},
		{"", none, api.ErrShort}, {"x", none, api.ErrShort}, {many("\x00", 11), none, api.ErrShort}, {many("\x00", 12), none, api.ErrSum}, {many("\x00", 1500), none, api.ErrSum}, {many("\x00", 1501), none, api.ErrLong}, {"\x01\x02\x03\x04\x00\x00\x00\x01\x00\x00\x00\x00\x0b\x00\x00\x04", none, api.ErrSum},
	} {
		wantParse(t, fmt.Sprintf("%q", c.s), c.s, c.want, c.err)
		wantErrLike(t, fmt.Sprintf("%q", c.s), c.s, c.err)
	}
}

// P2: of several errors the first: long, then the sum's, then that of the first
// chunk that errs, then what is wrong with the packet.
func TestParseFirstError(t *testing.T) {
	ack, body := "\x0b\x00\x00\x04", many("o", 1400)
	for _, c := range []struct {
		what, s string
		want    api.Errno
	}{
		{"long, and sealed", headed(many(ack, 372) + "\x00"), api.ErrLong}, {"long, and not sealed", many("x", 1501), api.ErrLong}, {"long, and of wrong chunks", headed(many("\x00", 1489)), api.ErrLong}, {"long, and of an Init and others", headed("\x01\x00\x00\x14" + many("\x01", 16) + many(ack, 368)), api.ErrLong},
		{"no sum, and short chunks", put(headed("\x0b\x00\x00\x05"), 11, 0), api.ErrSum}, {"no sum, and wrong chunks", many("\x00", 100), api.ErrSum}, {"no sum, and no chunk", many("\x01", 12), api.ErrSum}, {"no sum, and no ports", many("\x00", 8) + "\x01\x02\x03\x04" + ack, api.ErrSum},
		{"a short chunk, and no port", sealed(many("\x00", 12) + "\x0b\x00\x00\x05"), api.ErrShort}, {"a short chunk behind a Complete", headed("\x0e\x00\x00\x04\x0b\x00"), api.ErrShort}, {"a short chunk behind 50", headed(many(ack, 51) + "\x0b\x00\x00\x05"), api.ErrShort}, {"a short chunk behind a Data and an ack", headed("\x00\x03\x00\x14" + many("\x00", 12) + "data" + ack + "\x0b"), api.ErrShort},
		{"a long chunk, and no port", sealed(many("\x00", 12) + headOf(99, 0, 1401) + body), api.ErrLong}, {"a long chunk behind a Complete", headed("\x0e\x00\x00\x04" + headOf(99, 0, 1401) + body), api.ErrLong}, {"a long chunk, and a wrong one", headed(headOf(99, 0, 1401) + body + ack), api.ErrLong}, {"a long chunk behind a wrong one", headed("\x0b\x00\x00\x03" + headOf(99, 0, 1401) + body), api.ErrForm},
		{"a wrong chunk ahead of a short one", headed("\x0b\x01\x00\x04\x0b\x00\x00\x05"), api.ErrForm}, {"a short chunk that is wrong, too", headed("\x0b\x01\x00\x05"), api.ErrShort}, {"a length above all that is there, which is long", headed(headOf(99, 0, 1489) + many("o", 1484)), api.ErrShort}, {"a length of all that is there, which is long", headed(headOf(99, 0, 1488) + many("o", 1484)), api.ErrLong},
		{"the first of two is short", headed(ack + "\x0b\x00\x00\x09" + ack), api.ErrShort}, {"a chunk of too long a Text", headed(headOf(99, 0, 1005) + body[:1001]), api.ErrForm},
	} {
		wantErrLike(t, c.what, c.s, c.want)
	}
}

// samples are right packets of many kinds.
func samples() []packet.Packet {
	l := []packet.Packet{
		of(1, right(api.CookieAck), right(api.Sack), right(api.Error), right(api.Data), piece(3)),
		of(math.MaxUint32, right(api.CookieEcho), right(99), right(api.Heartbeat), right(api.Shutdown)),
		of(7, piece(1), piece(2), piece(3), piece(4)),
	}
	for _, kind := range kinds() {
		l = append(l, of(tagFor(kind), right(kind)))
	}
	return l
}

// P2: of packets each byte is made each other one: none has its sum; and
// sealed again, it is what it is.
func TestParseTurned(t *testing.T) {
	for _, p := range samples() {
		s := built(t, p)
		for place := range s {
			for by := range 256 {
				if s[place] == byte(by) {
					continue
				}
				what, turned := fmt.Sprintf("%s, byte %d made %d", text(p), place, by), put(s, place, byte(by))
				wantParse(t, what, turned, packet.Packet{}, api.ErrSum)
				wantLike(t, what+", sealed", sealed(turned))
			}
		}
	}
}

// P2: packets cut at each byte, and with more behind them, sealed and not.
func TestParseCut(t *testing.T) {
	for _, p := range samples() {
		s := built(t, p)
		for length := range len(s) {
			what := fmt.Sprintf("%s, %d bytes of %d", text(p), length, len(s))
			if wantLike(t, what, s[:length]); length >= 12 {
				wantLike(t, what+", sealed", sealed(s[:length]))
			}
		}
		for _, more := range []string{"\x00", "\x00\x00\x00\x00", "\xff", "\x0b\x00\x00\x04", "\x0e\x00\x00\x04", "\x0b\x00\x00\x05", s, s[12:]} {
			what := fmt.Sprintf("%s and %.9q", text(p), more)
			wantParse(t, what, s+more, packet.Packet{}, api.ErrSum)
			wantLike(t, what+", sealed", sealed(s+more))
		}
	}
}

// P2: packets of each number of bytes up to those that are too long.
func TestParseOfEachLength(t *testing.T) {
	for length := range 1600 {
		bytes := many("\x00", length)
		want := api.ErrSum
		switch {
		case length > 1500:
			want = api.ErrLong
		case length < 12:
			want = api.ErrShort
		}
		wantParse(t, fmt.Sprintf("%d noughts", length), bytes, packet.Packet{}, want)
		if length < 16+8 {
			continue
		}
		// Two chunks, the last of which ends with the last byte.
		first := max(4, (length-12-1004+3)/4*4)
		last := length - 12 - first
		s := headed(headOf(99, 0, first) + many("o", first-4) + headOf(255, 0, last) + many("o", last-4))
		p := of(1, other(first-4), chunk.Chunk{Type: 255, Text: many("o", last-4)})
		if length > 1500 {
			p, want = packet.Packet{}, api.ErrLong
		} else {
			want = api.OK
		}
		wantParse(t, fmt.Sprintf("%d bytes", length), s, p, want)
		wantLike(t, fmt.Sprintf("%d bytes", length), s)
	}
}

// P3: bundles, written out; the chapter's first.
func TestBundleWrittenOut(t *testing.T) {
	sack, ack, initial, done := right(api.Sack), right(api.CookieAck), right(api.Init), right(api.Complete)
	for _, c := range []struct {
		tag  uint32
		most int
		l    []chunk.Chunk
		want []int // how many chunks each packet has
	}{
		{1, 1500, []chunk.Chunk{piece(1000), piece(1000), piece(1000)}, []int{1, 1, 1}},
		{1, 1500, nil, nil}, {1, 1500, []chunk.Chunk{}, nil}, {0, 1500, nil, nil},
		{1, 1500, []chunk.Chunk{sack, ack, piece(1), piece(2)}, []int{4}}, {1, 1500, []chunk.Chunk{piece(1), sack, piece(1), ack}, []int{1, 2, 1}},
		{1, 1500, []chunk.Chunk{piece(1000), piece(456), piece(1)}, []int{2, 1}}, {1, 1500, []chunk.Chunk{piece(1000), piece(457), piece(1)}, []int{1, 2}}, {1, 1499, []chunk.Chunk{piece(1000), piece(456), piece(1)}, []int{1, 2}}, {1, 1501, []chunk.Chunk{piece(1000), piece(457)}, []int{1, 1}},
		{1, 1500, []chunk.Chunk{done, done, ack, ack, done, sack}, []int{1, 1, 2, 1, 1}}, {0, 1500, []chunk.Chunk{initial, initial}, []int{1, 1}}, {1, 1500, []chunk.Chunk{right(api.InitAck), ack}, []int{1, 1}},
		{1, 100, []chunk.Chunk{other(84)}, []int{1}}, {1, 100, []chunk.Chunk{other(85)}, nil}, {1, 99, []chunk.Chunk{other(84), other(80), other(0)}, []int{1, 2}}, {1, 100, []chunk.Chunk{other(40), other(40)}, []int{2}}, {1, 100, []chunk.Chunk{other(40), other(41)}, []int{1, 1}},
		{1, 1500, slices.Repeat([]chunk.Chunk{ack}, 50), []int{50}}, {1, 1500, slices.Repeat([]chunk.Chunk{ack}, 51), []int{50, 1}}, {1, 100, slices.Repeat([]chunk.Chunk{ack}, 50), []int{22, 22, 6}},
	} {
		got, at := packet.Bundle(0x0102, 0x0304, c.tag, c.l, c.most), 0
		var many []int
		for _, p := range got {
			many = append(many, len(p.Chunks))
			if at+len(p.Chunks) > len(c.l) || !samePacket(p, of(c.tag, c.l[at:at+len(p.Chunks)]...)) {
				t.Fatalf("%s: told %s", text(of(c.tag, c.l...)), row(got))
			}
			at += len(p.Chunks)
		}
		if !slices.Equal(many, c.want) {
			t.Errorf("%s, most %d: told %s, want %v", text(of(c.tag, c.l...)), c.most, row(got), c.want)
		}
		wantBundled(t, "written out", c.tag, c.l, c.most)
	}
}

// P3: one that can't be in a packet by itself is left out, as if it were not
// there: also those beside it travel together.
func TestBundleLeavesOut(t *testing.T) {
	sack, ack := right(api.Sack), right(api.CookieAck)
	for i, bad := range append(wrong(), right(api.Init), piece(1000), other(1000), long(1392)) {
		for _, l := range [][]chunk.Chunk{{bad, sack, ack}, {sack, bad, ack}, {sack, ack, bad}, {bad, bad, sack, bad, bad, ack, bad}} {
			got := packet.Bundle(0x0102, 0x0304, 1, l, 200)
			if want := []packet.Packet{of(1, sack, ack)}; !samePackets(got, want) {
				t.Errorf("bad one %d: Bundle told %s, want %s", i, row(got), row(want))
			}
			wantBundled(t, fmt.Sprintf("bad one %d", i), 1, l, 200)
			wantBundled(t, fmt.Sprintf("bad one %d", i), 0, l, 200)
		}
		if got := packet.Bundle(1, 2, 1, []chunk.Chunk{bad, bad}, 200); len(got) != 0 {
			t.Errorf("bad one %d: Bundle told %s", i, row(got))
		}
	}
	for _, kind := range kinds() {
		l := []chunk.Chunk{right(api.Init), right(kind), right(api.Init)}
		want := 2
		if kind == api.Init {
			want = 3
		}
		if got := wantBundled(t, "no tag", 0, l, 1500); len(got) != want {
			t.Errorf("Type %d, no tag: %s", kind, row(got))
		}
		if got := wantBundled(t, "a tag", 5, l, 1500); len(got) != 3-want {
			t.Errorf("Type %d, a tag: %s", kind, row(got))
		}
	}
}

// P3: without a port no packet would be right.
func TestBundleWithoutPorts(t *testing.T) {
	l := []chunk.Chunk{right(api.Sack), piece(1), right(api.Init)}
	for _, tag := range []uint32{0, 1} {
		for _, ports := range [][2]uint16{{0, 1}, {1, 0}, {0, 0}} {
			if got := packet.Bundle(ports[0], ports[1], tag, l, 1500); len(got) != 0 {
				t.Errorf("ports %v, tag %d: Bundle told %s", ports, tag, row(got))
			}
		}
	}
	for _, tag := range []uint32{1, 256, 1 << 31} {
		got := packet.Bundle(65535, 256, tag, l[:2], 1500)
		if want := []packet.Packet{{From: 65535, To: 256, Tag: tag, Chunks: l[:2]}}; !samePackets(got, want) {
			t.Errorf("Bundle told %s, want %s", row(got), row(want))
		}
	}
}

// P3: each most: what is above 1500 is 1500, what is below 100 is 100.
func TestBundleOfEachMost(t *testing.T) {
	var l []chunk.Chunk
	for i := range 40 {
		l = append(l, other(i*7), other(60+i%30), piece(1+i*25), piece(70))
	}
	for most := -20; most < 1600; most++ {
		from := most & 63
		wantBundled(t, "many", 1, l[from:from+40], most)
	}
	for _, most := range []int{math.MinInt, math.MinInt + 1, -1 << 32, -1500, 1 << 16, 1<<16 + 100, 1 << 32, 1<<32 + 100, math.MaxInt - 12, math.MaxInt - 1, math.MaxInt} {
		wantBundled(t, "many", 1, l, most)
	}
	for _, most := range []int{100, 101, 103, 104, 500, 501, 1412, 1415, 1416, 1499, 1500} {
		for length := range 1000 {
			want := 0
			if 12+4+(length+3)/4*4 <= most {
				want = 1
			}
			if got := packet.Bundle(1, 2, 3, []chunk.Chunk{other(length)}, most); len(got) != want {
				t.Errorf("a Text of %d bytes, most %d: Bundle told %s", length, most, row(got))
			}
		}
	}
	for most, want := range map[int]int{1412: 1, 1411: 0, 1408: 0, 1500: 1} {
		if got := packet.Bundle(1, 2, 3, []chunk.Chunk{long(1392)}, most); len(got) != want {
			t.Errorf("the longest chunk, most %d: Bundle told %s", most, row(got))
		}
	}
}

// drawnChunk is a right chunk, or now and then one that is not.
func drawnChunk(chance *rand.Rand) chunk.Chunk {
	switch chance.Intn(24) {
	case 0:
		return wrong()[chance.Intn(len(wrong()))]
	case 1:
		return long(chance.Intn(1410))
	case 2, 3, 4, 5, 6, 7:
		c := piece(1 + chance.Intn(1+chance.Intn(1000)))
		c.Tsn = chance.Uint32()
		return c
	case 8, 9, 10:
		return other(chance.Intn(1 + chance.Intn(1000)))
	case 11, 12, 13, 14, 15:
		return piece(1 + chance.Intn(9))
	case 16, 17, 18:
		return right(api.CookieAck)
	}
	return right(kinds()[chance.Intn(len(kinds()))])
}

func drawnChunks(chance *rand.Rand, number int) []chunk.Chunk {
	var l []chunk.Chunk
	for range number {
		l = append(l, drawnChunk(chance))
	}
	return l
}

// P3, P4: rows of anything, against the words; what is told are right packets,
// whose chunks are those of the row that may be in one.
func TestBundleOfAnything(t *testing.T) {
	chance, packets := rand.New(rand.NewSource(1)), 0
	for range 3000 {
		l, tag := drawnChunks(chance, chance.Intn(1+chance.Intn(200))), uint32(chance.Intn(8)+7)/8*chance.Uint32()
		most := 100 + chance.Intn(1500)
		wantBundled(t, "drawn", tag, l, most)
		var told, want []chunk.Chunk
		for _, p := range packet.Bundle(9, 10, tag, l, most) {
			s := built(t, p)
			if len(s) > min(most, 1500) || p.From != 9 || p.To != 10 || p.Tag != tag {
				t.Errorf("Bundle told %s, most %d", text(p), most)
			}
			wantParse(t, "bundled", s, p, api.OK)
			told = append(told, p.Chunks...)
			packets++
		}
		for _, c := range l {
			if s, err := packet.Build(packet.Packet{From: 9, To: 10, Tag: tag, Chunks: []chunk.Chunk{c}}); err == api.OK && len(s) <= most {
				want = append(want, c)
			}
		}
		if !slices.EqualFunc(told, want, sameChunks) {
			t.Errorf("Bundle told %s, want %s", text(of(tag, told...)), text(of(tag, want...)))
		}
	}
	if packets < 3000 {
		t.Errorf("but %d packets", packets)
	}
}

// P1, P2, P4: packets of anything, against the words; Parse of Build is what
// was handed in.
func TestBuildOfAnything(t *testing.T) {
	chance, told := rand.New(rand.NewSource(2)), map[api.Errno]int{}
	for i := range 30000 {
		p := packet.Packet{From: uint16(chance.Uint32()), To: uint16(chance.Uint32()), Tag: chance.Uint32(), Chunks: drawnChunks(chance, 1+chance.Intn(5))}
		if i%2 == 0 { // no Data ahead of others
			slices.SortStableFunc(p.Chunks, func(a, b chunk.Chunk) int { return min(b.Type, 1) - min(a.Type, 1) })
		}
		if chance.Intn(20) == 0 {
			p.From *= uint16(chance.Intn(2))
			p.To *= uint16(chance.Intn(2))
			p.Tag *= uint32(chance.Intn(2))
		}
		want, err := builtByTheWords(p)
		told[err]++
		wantBuild(t, text(p), p, want, err)
		if err == api.OK {
			wantParse(t, text(p), want, p, api.OK)
		}
	}
	for _, err := range []api.Errno{api.OK, api.ErrArg, api.ErrLong} {
		if told[err] < 300 {
			t.Errorf("error %d was told %d times", err, told[err])
		}
	}
}

// P2, TH4: any bytes, and those of packets with some made others, against the
// words. What is told as a packet is, built and parsed, the same one.
func TestParseOfAnything(t *testing.T) {
	chance, told := rand.New(rand.NewSource(3)), map[api.Errno]int{}
	for i := range 40000 {
		s := string(binary.BigEndian.AppendUint64(nil, chance.Uint64())) + "\x00\x00\x00\x00"
		for range 1 + chance.Intn(4) {
			c, _ := chunk.Build(drawnChunk(chance))
			s += c
		}
		for range chance.Intn(3) {
			s = put(s, chance.Intn(min(len(s), 60)), byte(chance.Intn(256)))
		}
		s = (s + "\x00\x01\x02")[:max(0, len(s)+chance.Intn(7)-3)]
		if len(s) >= 12 && i%8 > 0 {
			s = sealed(s)
		}
		err := wantLike(t, fmt.Sprintf("%q", s), s)
		told[err]++
		if err == api.OK {
			p, _ := packet.Parse(s)
			wantParse(t, fmt.Sprintf("%q again", s), built(t, p), p, api.OK)
		}
	}
	for _, err := range []api.Errno{api.OK, api.ErrLong, api.ErrShort, api.ErrSum, api.ErrForm} {
		if told[err] < 500 {
			t.Errorf("error %d was told %d times", err, told[err])
		}
	}
	for length := range 3000 {
		s := make([]byte, length)
		chance.Read(s)
		wantLike(t, fmt.Sprintf("%d drawn bytes", length), string(s))
	}
}

// P1 of all: long texts and long lists end too, and are told as what they are.
func TestLongOnes(t *testing.T) {
	wantParse(t, "a long text", many("\x01", 1<<24), packet.Packet{}, api.ErrLong)
	ack := right(api.CookieAck)
	l := slices.Repeat([]chunk.Chunk{ack, ack, ack, right(api.Data), {}, right(api.Complete)}, 1<<14)
	wantBuild(t, "a long list", of(1, l...), "", api.ErrArg)
	wantBuild(t, "a long list of acks", of(1, slices.Repeat(l[:1], 1<<20)...), "", api.ErrArg)
	wantBuild(t, "long lists in a chunk", of(1, chunk.Chunk{Type: api.Sack, Dups: make([]uint32, 1<<22)}), "", api.ErrArg)
	wantBuild(t, "a long text in a chunk", of(1, chunk.Chunk{Type: 99, Text: many("x", 1<<24)}), "", api.ErrArg)
	if got := packet.Bundle(1, 2, 3, l, 1500); len(got) != 2<<14 {
		t.Errorf("a long list: %d packets", len(got))
	}
	if got := packet.Bundle(1, 2, 3, make([]chunk.Chunk, 1<<18), 1500); len(got) != 0 {
		t.Errorf("a long list of wrong ones: %d packets", len(got))
	}
}

// P3 of all: nothing that is handed in is written into, nor what lies behind it.
func TestHandedInStaysAsItIs(t *testing.T) {
	make3 := func() []chunk.Chunk {
		sack := right(api.Sack)
		sack.Gaps = append(sack.Gaps, [2]uint16{7, 8})[:2]
		return []chunk.Chunk{sack, right(api.Error), {}, right(api.Init), right(api.Data), right(api.Complete), right(99)}
	}
	l, kept := make3(), make3()
	for range 2 {
		wantBuild(t, "two of seven", of(1, l[:2]...), mustWords(t, of(1, kept[:2]...)), api.OK)
		wantBuild(t, "all", of(1, l...), "", api.ErrArg)
		if got := packet.Bundle(0x0102, 0x0304, 1, l[:5], 1500); !samePackets(got, []packet.Packet{of(1, kept[0], kept[1], kept[4])}) {
			t.Errorf("five of seven: Bundle told %s", row(got))
		}
	}
	if !reflect.DeepEqual(l, kept) || l[0].Gaps[:3][2] != [2]uint16{7, 8} {
		t.Error("what was handed in is another one now")
	}
}

func mustWords(t *testing.T, p packet.Packet) string {
	t.Helper()
	s, err := builtByTheWords(p)
	if err != api.OK {
		t.Fatalf("the words make %d of %s", err, text(p))
	}
	return s
}

// spoil makes all lists of a packet others.
func spoil(p packet.Packet) {
	for i, c := range p.Chunks {
		for j := range c.Gaps {
			c.Gaps[j] = [2]uint16{9, 9}
		}
		for j := range c.Dups {
			c.Dups[j] = 99
		}
		for j := range c.Items {
			c.Items[j] = tlv.Item{Type: 9, Value: "another one"}
		}
		// What lies behind a list is nobody else's either.
		_ = append(c.Gaps, [2]uint16{5, 5})
		_ = append(c.Dups, 5)
		_ = append(c.Items, tlv.Item{Type: 5})
		p.Chunks[i] = chunk.Chunk{Type: -1}
	}
	_ = append(p.Chunks, chunk.Chunk{Type: -2})
}

// P3 of all: what is answered shares no list with what was handed in, nor with
// another one that is answered.
func TestAnswersAreNew(t *testing.T) {
	l := []chunk.Chunk{right(api.Sack), right(api.Error), right(api.Data)}
	l = append(l, l...)
	want := []packet.Packet{of(1, l[:3]...), of(1, l[3:]...)}
	got, again := packet.Bundle(0x0102, 0x0304, 1, l, 1500), packet.Bundle(0x0102, 0x0304, 1, l, 1500)
	spoil(got[0])
	kept := []packet.Packet{of(1, right(api.Sack), right(api.Error), right(api.Data)), of(1, right(api.Sack), right(api.Error), right(api.Data))}
	if !samePackets(want, kept) || !samePackets(again, kept) || !samePacket(got[1], kept[1]) {
		t.Error("what Bundle told hangs on something else")
	}
	spoil(want[0])
	if !samePackets(again, kept) {
		t.Error("what Bundle told hangs on what was handed in")
	}
	s := built(t, kept[0])
	one, _ := packet.Parse(s)
	two, _ := packet.Parse(s)
	spoil(one)
	if !samePacket(two, kept[0]) {
		t.Error("what Parse told hangs on something else")
	}
	wantParse(t, "parsed before", s, kept[0], api.OK)
}

// P3 of all: no text that is answered lies in one that was handed in.
func TestTextsAreNew(t *testing.T) {
	inside := func(s, d string) bool {
		at, from := uintptr(unsafe.Pointer(unsafe.StringData(s))), uintptr(unsafe.Pointer(unsafe.StringData(d)))
		return at >= from && at < from+uintptr(len(d))
	}
	p := of(1, right(api.CookieEcho), right(api.Error), right(99), right(api.Data))
	s := built(t, p)
	parsed, _ := packet.Parse(s)
	bundled := packet.Bundle(0x0102, 0x0304, 1, p.Chunks, 1500)[0]
	for i, c := range p.Chunks {
		if inside(parsed.Chunks[i].Text, s) || c.Text != "" && inside(bundled.Chunks[i].Text, c.Text) {
			t.Errorf("chunk %d: a Text lies in what was handed in", i)
		}
		for j, item := range c.Items {
			if inside(parsed.Chunks[i].Items[j].Value, s) || item.Value != "" && inside(bundled.Chunks[i].Items[j].Value, item.Value) {
				t.Errorf("chunk %d: a Value lies in what was handed in", i)
			}
		}
	}
}

// P4 of all: what is answered hangs on nothing that is asked before, or at one
// time.
func TestAskedTogether(t *testing.T) {
	var asked sync.WaitGroup
	for from := range 8 {
		asked.Go(func() {
			chance := rand.New(rand.NewSource(int64(from)))
			for range 200 {
				l := drawnChunks(chance, 10)
				p := of(1, l[:1+chance.Intn(3)]...)
				s, err := packet.Build(p)
				want, wantErr := builtByTheWords(p)
				got, errParse := packet.Parse(s)
				if s != want || err != wantErr || err == api.OK && (errParse != api.OK || !samePacket(got, p)) {
					t.Errorf("asked together: %s: %.99q, %d, %d", text(p), s, err, errParse)
				}
				if !samePackets(packet.Bundle(1, 2, 3, l, 300), bundledByTheWords(1, 2, 3, l, 300)) {
					t.Error("asked together: Bundle told another thing")
				}
			}
		})
	}
	asked.Wait()
}
