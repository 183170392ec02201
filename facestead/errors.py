"""The refusals of the program, each with the value that tells where it is refused."""


class FaceError(ValueError):
    def __init__(self, at):
        self.at = at


class NoFace(FaceError):
    pass


class NoText(FaceError):
    pass


class NoClient(FaceError):
    pass


class NoMake(FaceError):
    pass
