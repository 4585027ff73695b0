"""Books shown as texts, and the texts that show a book read to it again."""

from wholeowners.books import Book
from wholeowners.errors import NoText, OwnError
from wholeowners.ratios import lowest

MOST_FIGURES = 400


def rows_of(book):
    houses = book.houses()
    rows = [("person", person) for person in book.persons()]
    rows = rows + [("house", house) + book.of(house) for house in houses]
    for house in houses:
        rows = rows + [("share", house, holder, share) for holder, share in book.shares(house)]
    return rows


def shown_share(share):
    top = share[0]
    bottom = share[1]
    return str(top) if bottom == 1 else f"{top}/{bottom}"


def shown_row(row):
    if row[0] == "share":
        return " ".join([row[0], row[1], row[2], shown_share(row[3])])
    return " ".join([str(part) for part in row])


def shown(book):
    return "\n".join([shown_row(row) for row in rows_of(book)])


def is_figures(text):
    return 1 <= len(text) <= MOST_FIGURES and all(["0" <= sign <= "9" for sign in text])


def read_number(word):
    if not is_figures(word[1:] if word.startswith("-") else word):
        raise NoText("a number is not written in figures, or in too many")
    number = int(word)
    if str(number) != word:
        raise NoText("a number is written otherwise than it is shown")
    return number


def read_share(word):
    numbers = [read_number(part) for part in word.split("/")]
    if len(numbers) == 1:
        return (numbers[0], 1)
    if len(numbers) != 2 or numbers[1] < 2 or lowest(numbers[0], numbers[1]) != (numbers[0], numbers[1]):
        raise NoText("a share is written otherwise than it is shown")
    return (numbers[0], numbers[1])


def read_row(line):
    words = line.split(" ")
    if words[0] == "person" and len(words) == 2:
        return ("person", words[1])
    if words[0] == "house" and len(words) == 5:
        return ("house", words[1], read_number(words[2]), read_number(words[3]), read_number(words[4]))
    if words[0] == "share" and len(words) == 4:
        return ("share", words[1], words[2], read_share(words[3]))
    raise NoText("a line shows no person, no house and no share")


def first_person(book):
    persons = book.persons()
    if persons == []:
        raise NoText("there is no person ahead of the first house")
    return persons[0]


def put(book, row):
    if row[0] == "person":
        book.person(row[1])
    elif row[0] == "house":
        book.house(row[1], first_person(book), row[2], row[3], row[4])
    else:
        # The first person owns each new house and sells to all holders, to itself too.
        book.sale(row[1], first_person(book), row[2], row[3])


def book_of(rows):
    book = Book()
    for row in rows:
        put(book, row)
    # Rows are held against rows, not texts, as what the first person is left with by wrong shares
    # may be too long for Python to write out.
    if rows_of(book) != rows:
        raise NoText("the lines are not those that the book of these deeds is shown by")
    return book


def read(text):
    lines = [] if text == "" else text.split("\n")
    try:
        return book_of([read_row(line) for line in lines])
    except OwnError as refusal:
        raise NoText("no book is shown by this text") from refusal
